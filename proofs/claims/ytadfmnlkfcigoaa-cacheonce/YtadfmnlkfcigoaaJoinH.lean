import Derived.Test.YtadfmnlkfcigoaaPr0
import Derived.Test.YtadfmnlkfcigoaaPb
import Derived.Test.YtadfmnlkfcigoaaJoinA
import Derived.Test.YtadfmnlkfcigoaaJoinC
namespace Go.Proofs.Ytadfmnlkfcigoaa
open Go.RowKit Go.PlainAid
set_option linter.unusedVariables false
set_option linter.unusedSimpArgs false
/-- What has become of a request. -/
structure Ps where
  c : Int × Int
  st : Int
  y : Rp
def Ps.row (p : Ps) : List Value := [.int .i64 p.c.1, .int .i64 p.c.2, .int .i64 p.st, .int .i64 p.y.s, .int .i64 p.y.i, .int .i64 p.y.e, .int .i64 p.y.v]
def flatP (l : List Ps) : List Value := l.flatMap Ps.row
/-- The last place among the first j where the request lies, or -1. -/
def lastAt (c : Int × Int) (l : List Ps) : Nat → Int
  | 0 => -1
  | j + 1 => if (l[j]?.map (·.c)) = some c then (j : Int) else lastAt c l j
theorem lastAt_bd (c : Int × Int) (l : List Ps) : ∀ j, -1 ≤ lastAt c l j ∧ lastAt c l j < j
  | 0 => by unfold lastAt; omega
  | j + 1 => by
    have := lastAt_bd c l j
    unfold lastAt
    split <;> omega
theorem lastAt_yes {c : Int × Int} {l : List Ps} : ∀ {j : Nat}, 0 ≤ lastAt c l j → ∃ (i : Nat) (p : Ps), lastAt c l j = i ∧ l[i]? = some p ∧ p.c = c
  | 0, h => by unfold lastAt at h; omega
  | j + 1, h => by
    unfold lastAt at h ⊢
    by_cases hc : (l[j]?.map (·.c)) = some c
    · rw [if_pos hc]
      obtain ⟨p, hp, hpc⟩ := Option.map_eq_some_iff.1 hc
      exact ⟨j, p, rfl, hp, hpc⟩
    · rw [if_neg hc] at h ⊢
      exact lastAt_yes h
theorem lastAt_no {c : Int × Int} {l : List Ps} : ∀ {j : Nat}, lastAt c l j < 0 → lastAt c l j = -1 ∧ ∀ (i : Nat) (p : Ps), i < j → l[i]? = some p → p.c ≠ c
  | 0, h => ⟨rfl, fun i p hi => by omega⟩
  | j + 1, h => by
    unfold lastAt at h ⊢
    by_cases hc : (l[j]?.map (·.c)) = some c
    · rw [if_pos hc] at h; omega
    · rw [if_neg hc] at h ⊢
      obtain ⟨h1, h2⟩ := lastAt_no h
      refine ⟨h1, fun i p hi hp => ?_⟩
      by_cases e : i = j
      · subst e
        intro e2
        exact hc (by rw [hp]; simp [e2])
      · exact h2 i p (by omega) hp
def isAbv (s i : Int) (p : Ps) : Bool := decide (p.c.1 = s ∧ i < p.c.2 ∧ p.st = 2)
def abv (s i : Int) (l : List Ps) : Nat := l.countP (isAbv s i)
theorem abv_step {s i : Int} {l : List Ps} {j : Nat} {p : Ps} (h : l[j]? = some p) : abv s i (l.take (j + 1)) = abv s i (l.take j) + if isAbv s i p then 1 else 0 := by
  unfold abv
  rw [List.take_add_one, h, List.countP_append]
  simp
structure OnR (a : CA) (l : List Ps) (x : CX) (r : RS) : Prop where
  g : Agr a x r
  nd : (l.map (·.c)).Nodup
  op : ∀ c, c ∈ x.op ↔ ∃ p ∈ l, p.c = c ∧ p.st = 1
  st : ∀ p ∈ l, p.st = 1 ∨ (p.st = 2 ∧ p.y.s = p.c.1 ∧ p.y.i = p.c.2)
  rp : ((l.filter fun p => decide (p.st = 2)).map (·.y)).Perm r.rp
  cov : ∀ s i, mine a.me a.rep a.ses s → 1 ≤ i → i ≤ x.la s → ∃ p ∈ l, p.c = (s, i)
  ins : ∀ p ∈ l, mine a.me a.rep a.ses p.c.1 ∧ 1 ≤ p.c.2 ∧ p.c.2 ≤ x.la p.c.1
section
variable {a : CA} {l : List Ps} {x : CX} {r : RS}
theorem OnR.abv (h : OnR a l x r) (s i : Int) : abv s i l = above s i r.rp := by
  unfold above
  rw [← h.rp.countP_eq, List.countP_map, List.countP_filter]
  unfold Go.Proofs.Ytadfmnlkfcigoaa.abv
  refine List.countP_congr fun p hp => ?_
  have := h.st p hp
  simp only [isAbv, Function.comp, decide_eq_true_eq, Bool.and_eq_true]
  constructor
  · rintro ⟨h1, h2, h3⟩
    rcases this with h4 | ⟨h4, h5, h6⟩
    · omega
    · exact ⟨⟨by omega, by omega⟩, h3⟩
  · rintro ⟨⟨h1, h2⟩, h3⟩
    rcases this with h4 | ⟨h4, h5, h6⟩
    · omega
    · exact ⟨by omega, by omega, h3⟩
theorem OnR.uniq (h : OnR a l x r) {p q : Ps} (hp : p ∈ l) (hq : q ∈ l) (e : p.c = q.c) : p = q := by
  obtain ⟨i, hi⟩ := List.getElem?_of_mem hp
  obtain ⟨j, hj⟩ := List.getElem?_of_mem hq
  have hil := (List.getElem?_eq_some_iff.1 hi).1
  have hjl := (List.getElem?_eq_some_iff.1 hj).1
  have := (List.getElem_inj (h₀ := by simpa using hil) (h₁ := by simpa using hjl) h.nd).1 (by
    simp only [List.getElem_map]
    rw [(List.getElem?_eq_some_iff.1 hi).2, (List.getElem?_eq_some_iff.1 hj).2]
    exact e)
  subst this
  rw [hi] at hj
  exact Option.some.inj hj
theorem OnR.notIn (h : OnR a l x r) {c : Int × Int} (hn : ∀ p ∈ l, p.c ≠ c) : isIn c x.op = false := by
  unfold isIn
  refine decide_eq_false fun hc => ?_
  obtain ⟨p, hp, e, _⟩ := (h.op c).1 hc
  exact hn p hp e
/-- Of a request that is not known. -/
theorem OnR.fresh (h : OnR a l x r) {s i : Int} (hn : ∀ p ∈ l, p.c ≠ (s, i)) (hnew : ¬ isNew a (x.la s) s i) :
    ∃ f : Int, resB a (x.la s) (isIn (s, i) x.op) (rfind i (x.rg s)) s i = (zrp, false, f) ∧ 1 ≤ f ∧ f ≠ 0 ∧ f ≠ 133 ∧ f ≠ 130 ∧ begX a x s i = x := by
  have hb : begX a x s i = x := if_neg hnew
  by_cases hm : mine a.me a.rep a.ses s
  · unfold resB
    rw [if_neg (by simpa using hm)]
    by_cases h1 : i < 1 ∨ 1099511627776 < i
    · rw [if_pos h1]; exact ⟨1, rfl, by omega, by omega, by omega, by omega, hb⟩
    · rw [if_neg h1]
      by_cases h2 : x.la s + 1 < i
      · rw [if_pos h2]; exact ⟨131, rfl, by omega, by omega, by omega, by omega, hb⟩
      · rw [if_neg h2]
        by_cases h3 : i = x.la s + 1
        · exact absurd ⟨hm, by omega, by omega, h3⟩ hnew
        · obtain ⟨p, hp, e⟩ := h.cov s i hm (by omega) (by omega)
          exact absurd e (hn p hp)
  · unfold resB
    rw [if_pos hm]
    exact ⟨132, rfl, by omega, by omega, by omega, by omega, hb⟩
theorem OnR.isnew (h : OnR a l x r) {s i : Int} (hnew : isNew a (x.la s) s i) : resB a (x.la s) (isIn (s, i) x.op) (rfind i (x.rg s)) s i = (zrp, false, 0) := by
  obtain ⟨h1, h2, h3, h4⟩ := hnew
  unfold resB
  rw [if_neg (by simpa using h1), if_neg (by omega), if_neg (by omega), if_pos h4]
/-- Of a request that is known. -/
theorem OnR.known (h : OnR a l x r) (hr : 1 ≤ a.room) {p : Ps} (hp : p ∈ l) : begX a x p.c.1 p.c.2 = x ∧
    resB a (x.la p.c.1) (isIn (p.c.1, p.c.2) x.op) (rfind p.c.2 (x.rg p.c.1)) p.c.1 p.c.2 = if p.st = 1 then (zrp, false, 133) else if Go.Proofs.Ytadfmnlkfcigoaa.abv p.c.1 p.c.2 l < a.room then (p.y, true, 0) else (zrp, false, 130) := by
  obtain ⟨h1, h2, h3⟩ := h.ins p hp
  have hbd := h.g.bd p.c.1 h1
  refine ⟨if_neg (fun hh => by have := hh.2.2.2; omega), ?_⟩
  unfold resB
  rw [if_neg (by simpa using h1), if_neg (by omega), if_neg (by omega), if_neg (by omega)]
  by_cases hs : p.st = 1
  · rw [if_pos hs, if_pos (show isIn (p.c.1, p.c.2) x.op = true from by unfold isIn; exact decide_eq_true ((h.op _).2 ⟨p, hp, rfl, hs⟩))]
  · rw [if_neg hs, if_neg (show ¬ isIn (p.c.1, p.c.2) x.op = true from by
      unfold isIn
      simp only [decide_eq_true_eq]
      intro hc
      obtain ⟨q, hq, e, hq1⟩ := (h.op _).1 hc
      have := h.uniq hq hp e
      rw [this] at hq1
      exact hs hq1)]
    rcases h.st p hp with h5 | ⟨h5, h6, h7⟩
    · exact absurd h5 hs
    · rw [(h.g.kp p.c.1 h1).finds h.g.once (by omega) p.c.2, h.abv]
      unfold keptF
      by_cases hab : above p.c.1 p.c.2 r.rp < a.room
      · rw [if_pos hab, if_pos hab]
        have hyr : p.y ∈ r.rp := h.rp.mem_iff.1 (List.mem_map.2 ⟨p, List.mem_filter.2 ⟨hp, by simpa using h5⟩, rfl⟩)
        cases hl : lastOf p.c.1 p.c.2 r.rp with
        | none => exact absurd ⟨h6, h7⟩ (lastOf_none hl _ hyr)
        | some z =>
          obtain ⟨z1, z2, z3⟩ := lastOf_mem hl
          rw [h.g.once.eq z1 hyr (by omega) (by omega)]
      · rw [if_neg hab, if_neg hab]
/-- A request is new. -/
theorem OnR.push (h : OnR a l x r) {s i : Int} (hn : ∀ p ∈ l, p.c ≠ (s, i)) (hnew : isNew a (x.la s) s i) : ∃ r', OnR a (l ++ [⟨(s, i), 1, zrp⟩]) (begX a x s i) r' := by
  have hrn : isNew a (r.la s) s i := by rw [h.g.la s hnew.1]; exact hnew
  let r' : RS := ⟨r.vo, r.vr, fun t => if t = s then i else r.la t, r.op ++ [(s, i)], r.rp⟩
  have hb : RBeg a r r' s i := ⟨fun _ => ⟨fun t => rfl, rfl, rfl⟩, fun h => absurd hrn h⟩
  have e : begX a x s i = { x.setLa s i with op := x.op ++ [(s, i)] } := if_pos hnew
  have el : ∀ t : Int, (begX a x s i).la t = if t = s then i else x.la t := fun t => by rw [e]; rfl
  have eo : (begX a x s i).op = x.op ++ [(s, i)] := by rw [e]
  have hbd := h.g.bd s hnew.1
  have hi := hnew.2.2.2
  refine ⟨r', h.g.beg hb, ?_, fun c => ?_, fun p hp => ?_, ?_, fun t q ht h1 h2 => ?_, fun p hp => ?_⟩
  · rw [List.map_append, List.nodup_append]
    refine ⟨h.nd, by simp, fun u hu v hv e => ?_⟩
    simp only [List.map_cons, List.map_nil, List.mem_singleton] at hv
    obtain ⟨p, hp, rfl⟩ := List.mem_map.1 hu
    exact hn p hp (e.trans hv)
  · rw [eo, List.mem_append, h.op c]
    constructor
    · rintro (⟨p, hp, q⟩ | hc)
      · exact ⟨p, List.mem_append_left _ hp, q⟩
      · exact ⟨⟨(s, i), 1, zrp⟩, by simp, (List.mem_singleton.1 hc).symm, rfl⟩
    · rintro ⟨p, hp, q1, q2⟩
      rcases List.mem_append.1 hp with hp | hp
      · exact Or.inl ⟨p, hp, q1, q2⟩
      · rw [List.mem_singleton.1 hp] at q1
        exact Or.inr (by rw [← q1]; simp)
  · rcases List.mem_append.1 hp with hp | hp
    · exact h.st p hp
    · rw [List.mem_singleton.1 hp]; exact Or.inl rfl
  · rw [List.filter_append]
    simpa using h.rp
  · rw [el] at h2
    by_cases hts : t = s
    · subst hts
      rw [if_pos rfl] at h2
      by_cases hqi : q = i
      · exact ⟨⟨(t, i), 1, zrp⟩, by simp, by rw [hqi]⟩
      · obtain ⟨p, hp, e⟩ := h.cov t q ht h1 (by omega)
        exact ⟨p, List.mem_append_left _ hp, e⟩
    · rw [if_neg hts] at h2
      obtain ⟨p, hp, e⟩ := h.cov t q ht h1 h2
      exact ⟨p, List.mem_append_left _ hp, e⟩
  · rw [el]
    rcases List.mem_append.1 hp with hp | hp
    · obtain ⟨h1, h2, h3⟩ := h.ins p hp
      refine ⟨h1, h2, ?_⟩
      split
      · rename_i e2
        rw [e2] at h3
        omega
      · exact h3
    · rw [List.mem_singleton.1 hp]
      exact ⟨hnew.1, hnew.2.1, by simp⟩
/-- What End answers. -/
theorem OnR.ends (h : OnR a l x r) (s i : Int) : resE a (x.la s) (isIn (s, i) x.op) s i = 0 ↔ ∃ p ∈ l, p.c = (s, i) ∧ p.st = 1 := by
  rw [← h.op]
  unfold resE
  constructor
  · intro h0
    split at h0
    · omega
    · split at h0
      · omega
      · split at h0
        · omega
        · rename_i h3
          simpa [isIn] using h3
  · intro hc
    obtain ⟨h1, h2, h3⟩ := h.g.opb _ hc
    simp only at h1 h2 h3
    rw [if_neg (by simpa using h1), if_neg (by omega), if_neg (by simpa [isIn] using hc)]
end
end Go.Proofs.Ytadfmnlkfcigoaa
namespace Go.Proofs.Ytadfmnlkfcigoaa
open Go.RowKit Go.PlainAid
set_option linter.unusedVariables false
set_option linter.unusedSimpArgs false
theorem OnR.fin {a : CA} {A B : List Ps} {p : Ps} {x x' : CX} {r : RS} (h : OnR a (A ++ p :: B) x r) (hok : COk a) {y : Rp} (hc : p.c = (y.s, y.i)) (hs : p.st = 1) (hx : XEnd a x x' y) : ∃ r', OnR a (A ++ ⟨p.c, 2, y⟩ :: B) x' r' := by
  have hpl : p ∈ A ++ p :: B := by simp
  have h0 : resE a (x.la y.s) (isIn (y.s, y.i) x.op) y.s y.i = 0 := (h.ends y.s y.i).2 ⟨p, hpl, hc, hs⟩
  have h0r : resE a (r.la y.s) (isIn (y.s, y.i) r.op) y.s y.i = 0 := by rw [h.g.resE y.s y.i]; exact h0
  let r' : RS := ⟨r.vo, r.vr, r.la, r.op.erase (y.s, y.i), r.rp ++ [y]⟩
  have hf : RFin a r r' y := ⟨fun _ => ⟨rfl, rfl, rfl⟩, fun hn => absurd h0r hn⟩
  have hg := h.g.fin hok hx hf
  obtain ⟨R', hp, hxe⟩ := hx.ok h0
  have el : x'.la = x.la := by rw [hxe]; rfl
  have eo : x'.op = x.op.erase (y.s, y.i) := by rw [hxe]
  have hpA : ∀ q, (q ∈ A ∨ q ∈ B) → q.c ≠ p.c := fun q hq e => by
    have hn := h.nd
    rw [List.map_append, List.map_cons, List.nodup_append] at hn
    obtain ⟨n1, n2, n3⟩ := hn
    rcases hq with hq | hq
    · exact n3 q.c (List.mem_map.2 ⟨q, hq, rfl⟩) p.c (by simp) e
    · exact (List.nodup_cons.1 n2).1 (e ▸ List.mem_map.2 ⟨q, hq, rfl⟩)
  have mem : ∀ q, q ∈ A ++ (⟨p.c, 2, y⟩ : Ps) :: B ↔ (q ∈ A ∨ q ∈ B) ∨ q = ⟨p.c, 2, y⟩ := fun q => by
    simp only [List.mem_append, List.mem_cons]
    constructor
    · rintro (h | h | h)
      · exact Or.inl (Or.inl h)
      · exact Or.inr h
      · exact Or.inl (Or.inr h)
    · rintro ((h | h) | h)
      · exact Or.inl h
      · exact Or.inr (Or.inr h)
      · exact Or.inr (Or.inl h)
  have memo : ∀ q, (q ∈ A ∨ q ∈ B) → q ∈ A ++ p :: B := fun q hq => by
    simp only [List.mem_append, List.mem_cons]
    rcases hq with h | h
    · exact Or.inl h
    · exact Or.inr (Or.inr h)
  refine ⟨r', hg, ?_, fun c => ?_, fun q hq => ?_, ?_, fun s i hm h1 h2 => ?_, fun q hq => ?_⟩
  · have := h.nd
    rw [List.map_append, List.map_cons] at this ⊢
    exact this
  · rw [eo, h.g.opn.mem_erase_iff, h.op c]
    constructor
    · rintro ⟨hne, q, hq, q1, q2⟩
      refine ⟨q, (mem q).2 (Or.inl ?_), q1, q2⟩
      simp only [List.mem_append, List.mem_cons] at hq
      rcases hq with hq | rfl | hq
      · exact Or.inl hq
      · exact absurd (q1.symm.trans hc) hne
      · exact Or.inr hq
    · rintro ⟨q, hq, q1, q2⟩
      rcases (mem q).1 hq with hq | rfl
      · exact ⟨fun e => hpA q hq (q1.trans (e.trans hc.symm)), q, memo q hq, q1, q2⟩
      · simp at q2
  · rcases (mem q).1 hq with hq | rfl
    · exact h.st q (memo q hq)
    · exact Or.inr ⟨rfl, by rw [hc], by rw [hc]⟩
  · have hrp := h.rp
    rw [List.filter_append, List.filter_cons_of_neg (by simp [hs]), List.map_append] at hrp
    rw [List.filter_append, List.filter_cons_of_pos (by simp), List.map_append, List.map_cons]
    exact List.perm_middle.trans ((List.Perm.cons y hrp).trans (List.perm_append_comm (l₁ := [y])))
  · rw [el] at h2
    obtain ⟨q, hq, e⟩ := h.cov s i hm h1 h2
    simp only [List.mem_append, List.mem_cons] at hq
    rcases hq with hq | rfl | hq
    · exact ⟨q, (mem q).2 (Or.inl (Or.inl hq)), e⟩
    · exact ⟨_, (mem _).2 (Or.inr rfl), e⟩
    · exact ⟨q, (mem q).2 (Or.inl (Or.inr hq)), e⟩
  · rw [el]
    rcases (mem q).1 hq with hq | rfl
    · exact h.ins q (memo q hq)
    · exact h.ins p hpl
theorem Ps.len (p : Ps) : p.row.length = 7 := rfl
theorem flatP_len : ∀ l : List Ps, (flatP l).length = 7 * l.length
  | [] => rfl
  | p :: t => by
    have := flatP_len t
    unfold flatP at this ⊢
    rw [List.flatMap_cons, List.length_append, this, Ps.len, List.length_cons]
    omega
theorem flatP_app (A B : List Ps) : flatP (A ++ B) = flatP A ++ flatP B := by unfold flatP; rw [List.flatMap_append]
theorem flatP_set (A B : List Ps) (p : Ps) (y : Rp) (j : Nat) (hj : j = A.length) :
    (((((flatP (A ++ p :: B)).set (j * 7 + 2) (.int .i64 2)).set (j * 7 + 3) (.int .i64 y.s)).set (j * 7 + 3 + 1) (.int .i64 y.i)).set (j * 7 + 3 + 2) (.int .i64 y.e)).set (j * 7 + 3 + 3) (.int .i64 y.v) = flatP (A ++ ⟨p.c, 2, y⟩ :: B) := by
  have hl := flatP_len A
  have e : ∀ q : Ps, flatP (A ++ q :: B) = flatP A ++ (q.row ++ flatP B) := fun q => by rw [flatP_app]; unfold flatP; rw [List.flatMap_cons]
  rw [e, e]
  have s : ∀ (X : List Value) (t : Nat) (u : Value), (flatP A ++ X).set (j * 7 + t) u = flatP A ++ X.set t u := fun X t u => by
    rw [List.set_append_right _ _ (by omega), show j * 7 + t - (flatP A).length = t by omega]
  rw [show j * 7 + 3 + 1 = j * 7 + 4 by omega, show j * 7 + 3 + 2 = j * 7 + 5 by omega, show j * 7 + 3 + 3 = j * 7 + 6 by omega, s, s, s, s, s]
  rfl
/-- One of the rows is answered. -/
theorem row_write {w : World} {L g cap n j : Nat} {A B : List Ps} {p : Ps} (h : w.ownsRow L 38 7 (.slice (some ⟨g, 0, none⟩) n cap) n (flatP (A ++ p :: B))) (hj : j = A.length) (y : Rp) :
    ((((((w.setCell ⟨g, j * 7 + 2, none⟩ (.int .i64 2)).setCell ⟨g, j * 7 + 3, none⟩ (.int .i64 y.s)).setCell ⟨g, j * 7 + 3 + 1, none⟩ (.int .i64 y.i)).setCell ⟨g, j * 7 + 3 + 2, none⟩ (.int .i64 y.e)).setCell ⟨g, j * 7 + 3 + 3, none⟩ (.int .i64 y.v))).ownsRow L 38 7 (.slice (some ⟨g, 0, none⟩) n cap) n (flatP (A ++ ⟨p.c, 2, y⟩ :: B)) ∧
    Chg (fun q => (Value.slice (some ⟨g, 0, none⟩) n cap).ownBlock = some q) w ((((((w.setCell ⟨g, j * 7 + 2, none⟩ (.int .i64 2)).setCell ⟨g, j * 7 + 3, none⟩ (.int .i64 y.s)).setCell ⟨g, j * 7 + 3 + 1, none⟩ (.int .i64 y.i)).setCell ⟨g, j * 7 + 3 + 2, none⟩ (.int .i64 y.e)).setCell ⟨g, j * 7 + 3 + 3, none⟩ (.int .i64 y.v))) := by
  obtain ⟨h1, g1⟩ := World.ownsRow.stored h (j * 7 + 2) (.int .i64 2)
  obtain ⟨h2, g2⟩ := World.ownsRow.stored h1 (j * 7 + 3) (.int .i64 y.s)
  obtain ⟨h3, g3⟩ := World.ownsRow.stored h2 (j * 7 + 3 + 1) (.int .i64 y.i)
  obtain ⟨h4, g4⟩ := World.ownsRow.stored h3 (j * 7 + 3 + 2) (.int .i64 y.e)
  obtain ⟨h5, g5⟩ := World.ownsRow.stored h4 (j * 7 + 3 + 3) (.int .i64 y.v)
  rw [flatP_set A B p y j hj] at h5
  have s1 : ∀ (W : World) (t : Nat) (u : Value), Chg (fun q => (Value.slice (some ⟨g, 0, none⟩) n cap).ownBlock = some q) W (W.setCell ⟨g, t, none⟩ u) := fun W t u => (setCell_chg W g t u).mono (fun k _ e => by subst e; rfl)
  exact ⟨h5, ((((s1 _ _ _).trans (s1 _ _ _) (fun _ _ e => e)).trans (s1 _ _ _) (fun _ _ e => e)).trans (s1 _ _ _) (fun _ _ e => e)).trans (s1 _ _ _) (fun _ _ e => e)⟩
theorem row_cell {w : World} {L g cap n j t : Nat} {l : List Ps} {p : Ps} {u : Value} (h : w.ownsRow L 38 7 (.slice (some ⟨g, 0, none⟩) n cap) n (flatP l)) (hp : l[j]? = some p) (hu : p.row[t]? = some u) : w.cell? ⟨g, j * 7 + t, none⟩ = some u := by
  have ht : t < 7 := by have := (List.getElem?_eq_some_iff.1 hu).1; exact this
  have := h.cells (g := g) rfl (j * 7 + t) u (by unfold flatP; rw [flat_at Ps.row 7 (fun _ => rfl) l j t p hp ht]; exact hu)
  rwa [addr_add, Nat.zero_add] at this
/-- What is held: the cache, the list, and what else. -/
def OnA (w : World) (a : CA) (x : CX) (v : Value) (l : List Ps) (ex : List (Ent w.heap.size)) (wr : World) : Prop := AS (fun _ => False) w (cmE w.heap.size a x :: rowE w.heap.size 38 7 v l.length (flatP l) :: ex) wr
section
variable {w wr wr' : World} {a : CA} {x x' : CX} {v v' : Value} {l l' : List Ps} {ex : List (Ent w.heap.size)}
theorem OnA.below (h : OnA w a x v l ex wr) : Below w.heap.size w wr := h.chg.below (Nat.le_refl _) (fun _ e => e.elim)
theorem OnA.cm (h : OnA w a x v l ex wr) : CM a x wr := (AS.head h).1
theorem OnA.row (h : OnA w a x v l ex wr) : wr.ownsRow w.heap.size 38 7 v l.length (flatP l) := AS.get h (e := rowE w.heap.size 38 7 v l.length (flatP l)) (by simp)
theorem OnA.get (h : OnA w a x v l ex wr) {e : Ent w.heap.size} (he : e ∈ ex) : e.P wr := AS.get h (by simp [he])
theorem OnA.more (h : OnA w a x v l ex wr) (hb : Below wr.heap.size wr wr') : OnA w a x v l ex wr' := AS.more h hb
theorem OnA.cache (h : OnA w a x v l ex wr) (hm : CM a x' wr') (hc : Chg a.own wr wr') : OnA w a x' v l ex wr' := AS.swap (e' := cmE w.heap.size a x') h hc ⟨hm, (AS.head h).2⟩ (fun k hk => Or.inl hk)
theorem OnA.list (h : OnA w a x v l ex wr) (hr : wr'.ownsRow w.heap.size 38 7 v' l'.length (flatP l')) (hc : Chg (fun k => v.ownBlock = some k) wr wr') (hu : ∀ k, v'.ownBlock = some k → v.ownBlock = some k ∨ wr.heap.size ≤ k) : OnA w a x v' l' ex wr' := AS.mid (A := [cmE w.heap.size a x]) (e' := rowE w.heap.size 38 7 v' l'.length (flatP l')) h hc hr hu
theorem OnA.drop (h : OnA w a x v l ex wr) : OnA w a x v l [] wr := by
  have h1 : AS (fun _ => False) w (ex ++ [cmE w.heap.size a x, rowE w.heap.size 38 7 v l.length (flatP l)]) wr := AS.perm h (List.perm_append_comm (l₁ := [cmE w.heap.size a x, rowE w.heap.size 38 7 v l.length (flatP l)]))
  clear h
  induction ex with
  | nil => exact h1
  | cons e t ih => exact ih (AS.drop h1)
theorem OnA.box (h : OnA w a x v l ex wr) (C : Array Value) (T : TypeId) : OnA w a x v l (boxE w.heap.size wr.heap.size C T :: ex) (wr.alloc (.cells C T)) := by
  have := AS.fresh (e := boxE w.heap.size wr.heap.size C T) h ((Below.refl _ _).alloc (Nat.le_refl _) (.cells C T)) ⟨heap_alloc_new wr _, h.chg.size⟩ (fun k hk => by have e : k = wr.heap.size := hk; omega)
  exact this.perm (List.perm_middle (l₁ := [cmE w.heap.size a x, rowE w.heap.size 38 7 v l.length (flatP l)])).symm
end
end Go.Proofs.Ytadfmnlkfcigoaa
namespace Go.Proofs.Ytadfmnlkfcigoaa
open Go.RowKit Go.PlainAid
set_option linter.unusedVariables false
set_option linter.unusedSimpArgs false
section
variable {w wr wr' : World} {a : CA} {x x1 : CX} {v : Value} {l : List Ps} {r : RS} {ex : List (Ent w.heap.size)}
theorem OnA.beg (h : OnA w a x v l ex wr) (hR : OnR a l x r) {s i : Int} (hs : In64 s) {R : Rp} {kn : Bool} {f : Int} (e : resB a (x.la s) (isIn (s, i) x.op) (rfind i (x.rg s)) s i = (R, kn, f)) (e1 : begX a x s i = x1) :
    Calls Try.prog 13 #[.pointer (some ⟨a.cb, 0, none⟩), .agg #[.int .i64 s, .int .i64 i]] wr fun q w' => q = .returned (.tuple #[.agg #[.int .i64 R.s, .int .i64 R.i, .int .i64 R.e, .int .i64 R.v], .bool kn, .int .i64 f]) ∧ OnA w a x1 v l ex w' := by
  refine (begin_all s i wr h.cm hs (fun hm => hR.g.bd s hm) (fun c hc => (hR.g.opb c hc).2.2)).mono ?_
  rintro q w' ⟨rfl, h1, h2⟩
  rw [e1] at h1
  rw [e]
  exact ⟨rfl, h.cache h1 h2⟩
theorem OnA.fini (h : OnA w a x v l ex wr) {s i e' v' : Int} (hs : In64 s) {f : Int} (e : resE a (x.la s) (isIn (s, i) x.op) s i = f) :
    Calls Try.prog 12 #[.pointer (some ⟨a.cb, 0, none⟩), .agg #[.int .i64 s, .int .i64 i, .int .i64 e', .int .i64 v']] wr fun q w' => q = .returned (.int .i64 f) ∧ ∃ x', OnA w a x' v l ex w' ∧ XEnd a x x' ⟨s, i, e', v'⟩ := by
  refine (end_all ⟨s, i, e', v'⟩ wr h.cm hs).mono ?_
  rintro q w' ⟨rfl, ⟨x', h1, h2⟩, h3⟩
  exact ⟨by simp only [e], x', h.cache h1 h3, h2⟩
end
end Go.Proofs.Ytadfmnlkfcigoaa
