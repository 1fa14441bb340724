import Derived.Test.YtnphkmdanicemaaGreatDoorJD
import Derived.Test.YtnphkmdanicemaaGreatDoorGv
import Derived.Test.YtnphkmdanicemaaGreatDoorJH
import Derived.Test.YtnphkmdanicemaaGreatDoorJN
import Derived.Test.YtnphkmdanicemaaGreatDoorJE
namespace Go.Proofs.YtnphkmdanicemaaGreatDoor
open Go.RowKit Go.PlainAid
set_option linter.unusedVariables false
set_option linter.unusedSimpArgs false
/-- A place: its gossip, ledger and views. -/
structure Pl where
  gb : Nat
  mb : Nat
  lb : Nat
  hb : Nat
  vb : Nat
  L : GL
  s : Led.LS
  V : List Ent
def Pl.own (p : Pl) (k : Nat) : Prop := k = p.gb ∨ k = p.mb ∨ k = p.lb ∨ k = p.hb ∨ k = p.vb
structure Pl.At (L0 : Nat) (N me : Int) (p : Pl) (w : World) : Prop where
  gs : Gs p.gb p.mb me N p.L w
  ld : Blk w p.lb p.s.cs 82
  vw : Vw p.hb p.vb me N p.V w
  lo : ∀ k, p.own k → L0 ≤ k
  ne : p.mb ≠ p.vb
section
variable {L0 : Nat} {N me : Int} {p : Pl} {w w' : World}
theorem Pl.At.lt (h : p.At L0 N me w) {k : Nat} (hk : p.own k) : k < w.heap.size := by
  rcases hk with e | e | e | e | e <;> rw [e]
  · exact h.gs.blk.lt
  · exact h.gs.map.lt
  · exact h.ld.lt
  · exact h.vw.blk.lt
  · exact h.vw.map.lt
theorem Pl.At.same (h : p.At L0 N me w) (hk : ∀ k, p.own k → w'.heap[k]? = w.heap[k]?) : p.At L0 N me w' :=
  ⟨⟨(hk _ (.inl rfl)).trans h.gs.blk, h.gs.map.same (hk _ (.inr (.inl rfl)))⟩, (hk _ (.inr (.inr (.inl rfl)))).trans h.ld, ⟨(hk _ (.inr (.inr (.inr (.inl rfl))))).trans h.vw.blk, h.vw.map.same (hk _ (.inr (.inr (.inr (.inr rfl)))))⟩, h.lo, h.ne⟩
theorem Pl.At.notT (h : p.At L0 N me w) {b : Nat} {D : Array Value} {T : TypeId} (hB : Blk w b D T) (h1 : T ≠ 72) (h2 : T ≠ 82) (h3 : T ≠ 98) : ¬ p.own b := by
  rintro (e | e | e | e | e)
  · exact Blk.ne_t hB h.gs.blk h1 e
  · exact h.gs.map.ne_b hB e
  · exact Blk.ne_t hB h.ld h2 e
  · exact Blk.ne_t hB h.vw.blk h3 e
  · exact h.vw.map.ne_b hB e
/-- The gossip's map has changed. -/
theorem Pl.At.setL (h : p.At L0 N me w) {L' : GL} (hg : Gs p.gb p.mb me N L' w') (hc : Chg (fun b => b = p.mb) w w') : ({ p with L := L' } : Pl).At L0 N me w' :=
  ⟨hg, hc.blk h.ld (h.gs.map.ne_b h.ld), h.vw.keep hc (h.gs.map.ne_b h.vw.blk) (fun e => h.ne e.symm), h.lo, h.ne⟩
/-- The ledger has changed. -/
theorem Pl.At.setS (h : p.At L0 N me w) {s' : Led.LS} (hl : Blk w' p.lb s'.cs 82) (hc : Chg (fun b => b = p.lb) w w') : ({ p with s := s' } : Pl).At L0 N me w' :=
  ⟨h.gs.keep hc (Blk.ne_t h.gs.blk h.ld (by decide)) (fun e => h.gs.map.ne_b h.ld e.symm), hl, h.vw.keep hc (Blk.ne_t h.vw.blk h.ld (by decide)) (fun e => h.vw.map.ne_b h.ld e.symm), h.lo, h.ne⟩
/-- The views' map has changed. -/
theorem Pl.At.setV (h : p.At L0 N me w) {V' : List Ent} (hv : Vw p.hb p.vb me N V' w') (hc : Chg (fun b => b = p.vb) w w') : ({ p with V := V' } : Pl).At L0 N me w' :=
  ⟨h.gs.keep hc (h.vw.map.ne_b h.gs.blk) h.ne, hc.blk h.ld (h.vw.map.ne_b h.ld), hv, h.lo, h.ne⟩
end
/-- Some places, apart from one another; the i-th is the replica i of N. -/
structure Pls (L0 : Nat) (N : Int) (ps : List Pl) (w : World) : Prop where
  all : ∀ (i : Nat) (p : Pl), ps[i]? = some p → p.At L0 N (i : Int) w
  ap : ∀ (i j : Nat) (p q : Pl), i ≠ j → ps[i]? = some p → ps[j]? = some q → ∀ k, p.own k → ¬ q.own k
def ownL (ps : List Pl) (k : Nat) : Prop := ∃ (i : Nat) (p : Pl), ps[i]? = some p ∧ Pl.own p k
section
variable {L0 : Nat} {N : Int} {ps : List Pl} {w w' : World}
theorem Pls.more (h : Pls L0 N ps w) (hb : Below w.heap.size w w') : Pls L0 N ps w' :=
  ⟨fun i p hp => (h.all i p hp).same fun k hk => hb.block k ((h.all i p hp).lt hk), h.ap⟩
theorem Pls.keep (h : Pls L0 N ps w) {A : Nat → Prop} (hc : Chg A w w') (hA : ∀ k, A k → ¬ ownL ps k) : Pls L0 N ps w' :=
  ⟨fun i p hp => (h.all i p hp).same fun k hk => hc.block k ((h.all i p hp).lt hk) (fun a => hA k a ⟨i, p, hp, hk⟩), h.ap⟩
theorem set_some {α : Type} {l : List α} {i j : Nat} {a b : α} (h : (l.set i b)[j]? = some a) : (j = i ∧ a = b) ∨ (j ≠ i ∧ l[j]? = some a) := by
  rw [List.getElem?_set] at h
  by_cases e : i = j
  · rw [if_pos e] at h
    split at h
    · cases h; exact .inl ⟨e.symm, rfl⟩
    · cases h
  · rw [if_neg e] at h
    exact .inr ⟨fun x => e x.symm, h⟩
theorem Pls.set (h : Pls L0 N ps w) {i : Nat} {p p' : Pl} (hp : ps[i]? = some p) (hc : Chg p.own w w') (ho : ∀ k, p'.own k → p.own k) (ha : p'.At L0 N (i : Int) w') : Pls L0 N (ps.set i p') w' := by
  refine ⟨fun j q hq => ?_, fun a b x y hab hx hy k hk => ?_⟩
  · rcases set_some hq with ⟨rfl, rfl⟩ | ⟨hne, hq⟩
    · exact ha
    · exact (h.all j q hq).same fun k hk => hc.block k ((h.all j q hq).lt hk) (fun hh => h.ap i j p q (fun e => hne e.symm) hp hq k hh hk)
  · rcases set_some hx with ⟨ea, ex⟩ | ⟨hna, hx2⟩
    · rcases set_some hy with ⟨eb, ey⟩ | ⟨hnb, hy2⟩
      · exact absurd (ea.trans eb.symm) hab
      · exact h.ap i b p y (fun e => hnb e.symm) hp hy2 k (ho k (by rw [← ex]; exact hk))
    · rcases set_some hy with ⟨eb, ey⟩ | ⟨hnb, hy2⟩
      · exact fun hh => h.ap a i x p hna hx2 hp k hk (ho k (by rw [← ey]; exact hh))
      · exact h.ap a b x y hab hx2 hy2 k hk
theorem Pls.add (h : Pls L0 N ps w) {p : Pl} (hb : Below w.heap.size w w') (ha : p.At w.heap.size N (ps.length : Int) w') (hL : L0 ≤ w.heap.size) : Pls L0 N (ps ++ [p]) w' := by
  have hcase : ∀ (j : Nat) (q : Pl), (ps ++ [p])[j]? = some q → (ps[j]? = some q) ∨ (j = ps.length ∧ q = p) := fun j q hq => by
    rw [List.getElem?_append] at hq
    split at hq
    · exact .inl hq
    · rename_i hlt
      refine .inr ?_
      have : j - ps.length = 0 := by
        by_cases e : j - ps.length = 0
        · exact e
        · rw [List.getElem?_eq_none (by simp; omega)] at hq; cases hq
      rw [this] at hq
      cases hq
      exact ⟨by omega, rfl⟩
  refine ⟨fun j q hq => ?_, fun a b x y hab hx hy k hk => ?_⟩
  · rcases hcase j q hq with h1 | ⟨rfl, rfl⟩
    · exact (h.more hb).all j q h1
    · exact ⟨ha.gs, ha.ld, ha.vw, fun k hk => Nat.le_trans hL (ha.lo k hk), ha.ne⟩
  · rcases hcase a x hx with h1 | ⟨rfl, rfl⟩
    · rcases hcase b y hy with h2 | ⟨rfl, rfl⟩
      · exact h.ap a b x y hab h1 h2 k hk
      · intro hh
        have := (h.all a x h1).lt hk
        have := ha.lo k hh
        omega
    · rcases hcase b y hy with h2 | ⟨rfl, rfl⟩
      · intro hh
        have := (h.all b y h2).lt hh
        have := ha.lo k hk
        omega
      · exact absurd rfl hab
end
theorem ownL_set {ps : List Pl} {i : Nat} {p p' : Pl} (hp : ps[i]? = some p) (ho : ∀ k, p'.own k → p.own k) {k : Nat} (h : ownL (ps.set i p') k) : ownL ps k := by
  obtain ⟨j, q, hq, hk⟩ := h
  rcases set_some hq with ⟨rfl, rfl⟩ | ⟨_, hq⟩
  · exact ⟨j, p, hp, ho k hk⟩
  · exact ⟨j, q, hq, hk⟩
def plV (p : Pl) : List Value := [.pointer (some ⟨p.gb, 0, none⟩), .pointer (some ⟨p.lb, 0, none⟩), .pointer (some ⟨p.hb, 0, none⟩)]
def flatP (ps : List Pl) : List Value := ps.flatMap plV
theorem flatP_length : ∀ ps : List Pl, (flatP ps).length = ps.length * 3
  | [] => rfl
  | e :: t => by
    have := flatP_length t
    simp only [flatP, List.flatMap_cons, List.length_append, List.length_cons] at this ⊢
    rw [this]
    simp [plV]
    omega
theorem flatP_get : ∀ (es : List Pl) (i j : Nat) (e : Pl), es[i]? = some e → j < 3 → (flatP es)[i * 3 + j]? = (plV e)[j]?
  | [], _, _, _, h, _ => by simp at h
  | x :: t, 0, j, e, h, hj => by
    simp at h
    subst h
    simp only [flatP, List.flatMap_cons, Nat.zero_mul, Nat.zero_add]
    exact List.getElem?_append_left (by simp [plV]; omega)
  | x :: t, i + 1, j, e, h, hj => by
    have ih := flatP_get t i j e (by simpa using h) hj
    simp only [flatP, List.flatMap_cons] at ih ⊢
    rw [List.getElem?_append_right (by simp [plV]; omega)]
    rw [← ih]
    congr 1
    simp [plV]
    omega
theorem flatP_append (a b : List Pl) : flatP (a ++ b) = flatP a ++ flatP b := by simp [flatP]
theorem flatP_set : ∀ (ps : List Pl) (i : Nat) (p p' : Pl), ps[i]? = some p → plV p' = plV p → flatP (ps.set i p') = flatP ps
  | [], _, _, _, h, _ => by simp at h
  | x :: t, 0, p, p', h, he => by
    simp at h
    subst h
    simp [flatP, he]
  | x :: t, i + 1, p, p', h, he => by
    have := flatP_set t i p p' (by simpa using h) he
    simp only [flatP, List.set_cons_succ, List.flatMap_cons] at this ⊢
    rw [this]
/-- The places and the row that holds them. -/
structure All (L0 N ab cap : Nat) (ps : List Pl) (w : World) : Prop where
  pls : Pls L0 (N : Int) ps w
  len : ps.length = N
  row : w.ownsRow L0 34 3 (.slice (some ⟨ab, 0, none⟩) N cap) N (flatP ps)
section
variable {L0 N ab cap : Nat} {ps : List Pl} {w w' : World}
theorem All.cells (h : All L0 N ab cap ps w) {i : Nat} {p : Pl} (hp : ps[i]? = some p) : w.cell? ⟨ab, i * 3, none⟩ = some (.pointer (some ⟨p.gb, 0, none⟩)) ∧ w.cell? ⟨ab, i * 3 + 1, none⟩ = some (.pointer (some ⟨p.lb, 0, none⟩)) ∧ w.cell? ⟨ab, i * 3 + 2, none⟩ = some (.pointer (some ⟨p.hb, 0, none⟩)) := by
  have hg := fun j v hv => h.row.cells (g := ab) rfl j v hv
  refine ⟨?_, ?_, ?_⟩
  · have := hg (i * 3 + 0) _ (flatP_get ps i 0 p hp (by omega))
    rw [addr_add] at this
    simpa using this
  · have := hg (i * 3 + 1) _ (flatP_get ps i 1 p hp (by omega))
    rw [addr_add] at this
    simpa using this
  · have := hg (i * 3 + 2) _ (flatP_get ps i 2 p hp (by omega))
    rw [addr_add] at this
    simpa using this
theorem All.notab (h : All L0 N ab cap ps w) : ¬ ownL ps ab := by
  rintro ⟨i, p, hp, hk⟩
  obtain ⟨cur, hcur⟩ := ownsRow_type h.row (g := ab) rfl
  exact (h.pls.all i p hp).notT (show Blk w ab cur 34 from hcur) (by decide) (by decide) (by decide) hk
theorem All.more (h : All L0 N ab cap ps w) (hb : Below w.heap.size w w') : All L0 N ab cap ps w' :=
  ⟨h.pls.more hb, h.len, ownsRow_same h.row fun g hg => hb.block g (ownsRow_lt h.row hg).2⟩
theorem All.ablt (h : All L0 N ab cap ps w) : L0 ≤ ab ∧ ab < w.heap.size := ownsRow_lt h.row (g := ab) rfl
theorem All.keep (h : All L0 N ab cap ps w) {A : Nat → Prop} (hc : Chg A w w') (hA : ∀ k, A k → ¬ ownL ps k) (ha : ¬ A ab) : All L0 N ab cap ps w' :=
  ⟨h.pls.keep hc hA, h.len, ownsRow_same h.row fun g hg => hc.block g (ownsRow_lt h.row hg).2 (fun e => ha (by cases hg; exact e))⟩
theorem All.set (h : All L0 N ab cap ps w) {i : Nat} {p p' : Pl} (hp : ps[i]? = some p) (hc : Chg p.own w w') (ho : ∀ k, p'.own k → p.own k) (hv : plV p' = plV p) (ha : p'.At L0 N (i : Int) w') : All L0 N ab cap (ps.set i p') w' :=
  ⟨h.pls.set hp hc ho ha, by rw [List.length_set]; exact h.len, by rw [flatP_set ps i p p' hp hv]; exact ownsRow_same h.row fun g hg => hc.block g (ownsRow_lt h.row hg).2 (fun e => h.notab ⟨i, p, hp, by cases hg; exact e⟩)⟩
theorem All.setL (h : All L0 N ab cap ps w) {i : Nat} {p : Pl} (hp : ps[i]? = some p) {L' : GL} (hg : Gs p.gb p.mb i N L' w') (hc : Chg (fun b => b = p.mb) w w') : All L0 N ab cap (ps.set i { p with L := L' }) w' :=
  h.set hp (hc.mono fun _ _ e => .inr (.inl e)) (fun _ e => e) rfl ((h.pls.all i p hp).setL hg hc)
theorem All.setS (h : All L0 N ab cap ps w) {i : Nat} {p : Pl} (hp : ps[i]? = some p) {s' : Led.LS} (hl : Blk w' p.lb s'.cs 82) (hc : Chg (fun b => b = p.lb) w w') : All L0 N ab cap (ps.set i { p with s := s' }) w' :=
  h.set hp (hc.mono fun _ _ e => .inr (.inr (.inl e))) (fun _ e => e) rfl ((h.pls.all i p hp).setS hl hc)
theorem All.setV (h : All L0 N ab cap ps w) {i : Nat} {p : Pl} (hp : ps[i]? = some p) {V' : List Ent} (hv : Vw p.hb p.vb i N V' w') (hc : Chg (fun b => b = p.vb) w w') : All L0 N ab cap (ps.set i { p with V := V' }) w' :=
  h.set hp (hc.mono fun _ _ e => .inr (.inr (.inr (.inr e)))) (fun _ e => e) rfl ((h.pls.all i p hp).setV hv hc)
theorem All.below (h : All L0 N ab cap ps w) (hc : Chg (ownL ps) w w') : Below L0 w w' :=
  hc.below (Nat.le_of_lt (Nat.lt_of_le_of_lt h.ablt.1 h.ablt.2)) fun k ⟨i, p, hp, hk⟩ => (h.pls.all i p hp).lo k hk
end
end Go.Proofs.YtnphkmdanicemaaGreatDoor
namespace Go.Proofs.YtnphkmdanicemaaGreatDoor
open Go.RowKit Go.PlainAid
set_option linter.unusedVariables false
set_option linter.unusedSimpArgs false
def K1 : List UInt8 := [107]
/-- What holds of a replica's views: all of one name, each replica's once. -/
structure VOk (me : Int) (t : Nat) (V : List Ent) : Prop where
  kn : KN V
  nm : ∀ e ∈ V, e.n = K1 ∧ e.right = true
  ov : ∀ e ∈ V, e.r = me → e.v ≤ (t : Int)
  len : V.length ≤ t
theorem VOk.nil (me : Int) : VOk me 0 [] := ⟨List.Pairwise.nil, (fun _ h => by cases h), (fun _ h => by cases h), Nat.le_refl _⟩
section
variable {me : Int} {t : Nat} {V : List Ent}
theorem VOk.mono {t' : Nat} (h : VOk me t V) (ht : t ≤ t') : VOk me t' V := ⟨h.kn, h.nm, fun e he hr => by have := h.ov e he hr; omega, Nat.le_trans h.len ht⟩
theorem VOk.put (h : VOk me t V) {e : Ent} (hn : e.n = K1) (hr : e.right = true) (hv : e.r = me → e.v ≤ (t : Int) + 1) : VOk me (t + 1) (putE e V) := by
  refine ⟨h.kn.put, fun x hx => ?_, fun x hx hh => ?_, ?_⟩
  · rcases mem_put hx with rfl | hx
    · exact ⟨hn, hr⟩
    · exact h.nm x hx
  · rcases mem_put hx with rfl | hx
    · have := hv hh; omega
    · have := h.ov x hx hh; omega
  · have := put_len e V
    have := h.len
    omega
theorem VOk.own_le (h : VOk me t V) (r : Int) : (ownV r V).length ≤ 1 := by
  have hp : (ownV r V).Pairwise fun a b => ¬ (a.r = b.r ∧ a.n = b.n) := h.kn.filter _
  match hq : ownV r V, hp with
  | [], _ => simp
  | [a], _ => simp
  | a :: b :: l, hp =>
    exfalso
    have ha : a ∈ ownV r V := by rw [hq]; simp
    have hb : b ∈ ownV r V := by rw [hq]; simp
    have h1 := List.mem_filter.1 ha
    have h2 := List.mem_filter.1 hb
    refine (List.pairwise_cons.1 hp).1 b (List.mem_cons_self ..) ⟨?_, ?_⟩
    · have e1 : a.r = r := by simpa using h1.2
      have e2 : b.r = r := by simpa using h2.2
      rw [e1, e2]
    · rw [(h.nm a h1.1).1, (h.nm b h2.1).1]
theorem cntR_own (r : Int) (V : List Ent) : cntR r V = (ownV r V).length := by unfold cntR ownV; rw [List.countP_eq_length_filter]
theorem VOk.own_look (h : VOk me t V) {r : Int} {x : Ent} (hl : look r K1 V = some x) : ownV r V = [x] := by
  obtain ⟨hm, hr, hn⟩ := look_key hl
  have hx : x ∈ ownV r V := List.mem_filter.2 ⟨hm, by simp [hr]⟩
  have hlen := h.own_le r
  match hq : ownV r V with
  | [] => rw [hq] at hx; cases hx
  | [a] => rw [hq] at hx; rw [List.mem_singleton.1 hx]
  | a :: b :: l => rw [hq] at hlen; simp at hlen
end
def E0 (me d u : Int) : Ent := ⟨me, K1, 1000, 0, 1, d, u, 0⟩
theorem right_v (me d u v : Int) (hv : 1 ≤ v) (hd : 0 ≤ d) (hu : 0 ≤ u) (hs : d + u ≤ 1000) : (Ent.mk me K1 1000 0 v d u 0).right = true := by
  have hn : nameB K1 = true := by decide
  unfold Ent.right
  simp only [hn, fitsL, Bool.true_and, Bool.and_eq_true, decide_eq_true_eq]
  rw [if_neg (by omega), if_neg (by omega), if_neg (by omega)]
  refine ⟨⟨⟨⟨by decide, by decide⟩, by decide⟩, hv⟩, rfl⟩
section
variable {me : Int} {t : Nat} {V : List Ent}
theorem isK1 {r : Int} {e : Ent} (hn : e.n = K1) : isK r K1 e = decide (r = e.r) := by
  unfold isK
  rw [hn]
  by_cases h : r = e.r <;> simp [h]
theorem VOk.tell (h : VOk me t V) {d u : Int} (hd : 0 ≤ d) (hu : 0 ≤ u) (hs : d + u ≤ 1000) :
    tellCode me V (E0 me d u) = 0 ∧ VOk me (t + 1) (tellNext me V (E0 me d u)) ∧ (∀ r, r ≠ me → look r K1 (tellNext me V (E0 me d u)) = look r K1 V) ∧ ∃ x, look me K1 (tellNext me V (E0 me d u)) = some x ∧ x.d = d ∧ x.u = u ∧ ((look me K1 V = some x) ∨ (lookD me K1 V).v < x.v) := by
  have hr : (E0 me d u).right = true := right_v me d u 1 (by decide) hd hu hs
  have hr' : ¬ (E0 me d u).right = false := by rw [hr]; decide
  have hE : (E0 me d u).n = K1 := rfl
  have hc : ¬ 64 ≤ cntR me V := by rw [cntR_own]; have := h.own_le me; omega
  cases hl : look me K1 V with
  | none =>
    have hz : lookD me K1 V = zed := by unfold lookD; rw [hl]; rfl
    have hs0 : ¬ (look me (E0 me d u).n V).isSome = true := by show ¬ (look me K1 V).isSome = true; rw [hl]; simp
    have tc : tellCode me V (E0 me d u) = 0 := by unfold tellCode; rw [if_neg hr', if_neg hs0, if_neg hc]
    have tn : tellNext me V (E0 me d u) = putE (E0 me d u) V := by unfold tellNext; rw [if_neg hr', if_neg hs0, if_neg hc]; rfl
    rw [tc, tn]
    refine ⟨rfl, h.put hE hr (fun _ => ?_), fun r hne => ?_, E0 me d u, ?_, rfl, rfl, .inr ?_⟩
    · show (1 : Int) ≤ (t : Int) + 1; omega
    · rw [look_put, isK1 hE, if_neg (by simp [E0, hne])]
    · rw [look_put, isK1 hE, if_pos (by simp [E0])]
    · rw [hz]; show (0 : Int) < 1; decide
  | some o =>
    obtain ⟨hm, hor, hon⟩ := look_key hl
    have hz : lookD me K1 V = o := by unfold lookD; rw [hl]; rfl
    have hg := right_good (h.nm o hm).2
    have hov := h.ov o hm hor
    have hs0 : (look me (E0 me d u).n V).isSome = true := by show (look me K1 V).isSome = true; rw [hl]; rfl
    have hz' : lookD me (E0 me d u).n V = o := hz
    have tc : tellCode me V (E0 me d u) = 0 := by unfold tellCode; rw [if_neg hr', if_pos hs0]
    rw [tc]
    by_cases hsm : sameV (Ent.mk me K1 1000 0 o.v d u 0) o = true
    · have tn : tellNext me V (E0 me d u) = V := by
        unfold tellNext
        rw [if_neg hr', if_pos hs0, hz']
        exact if_pos hsm
      rw [tn]
      refine ⟨rfl, h.mono (Nat.le_succ _), fun r hne => rfl, o, hl, ?_, ?_, .inl rfl⟩
      · simp [sameV] at hsm; omega
      · simp [sameV] at hsm; omega
    · have tn : tellNext me V (E0 me d u) = putE (Ent.mk me K1 1000 0 (o.v + 1) d u 0) V := by
        unfold tellNext
        rw [if_neg hr', if_pos hs0, hz']
        exact if_neg hsm
      have hw := right_v me d u (o.v + 1) (by have := hg.v; omega) hd hu hs
      rw [tn]
      refine ⟨rfl, h.put rfl hw (fun _ => ?_), fun r hne => ?_, ⟨me, K1, 1000, 0, o.v + 1, d, u, 0⟩, ?_, rfl, rfl, .inr ?_⟩
      · show o.v + 1 ≤ (t : Int) + 1; omega
      · rw [look_put, isK1 rfl, if_neg (by simpa using hne)]
      · rw [look_put, isK1 rfl, if_pos (by simp)]
      · rw [hz]; show o.v < o.v + 1; omega
theorem VOk.take (h : VOk me t V) {N r : Int} {x : Ent} (hn : x.n = K1) (hx : x.right = true) (h0 : 0 ≤ r) (hN : r < N) (hne : r ≠ me) :
    takeCode me N r V [x] = 0 ∧ VOk me (t + 1) (takeNext me N r V [x]).1 ∧ ∀ q, look q K1 (takeNext me N r V [x]).1 = if q = r ∧ (lookD r K1 V).v < x.v then some { x with r := r } else look q K1 V := by
  obtain ⟨xr, xn, xc, xrc, xv, xd, xu, xh⟩ := x
  have hn : xn = K1 := hn
  subst hn
  have hc := h.own_le r
  rw [← cntR_own] at hc
  have hst := strangeC_le r V [Ent.mk xr K1 xc xrc xv xd xu xh]
  simp only [List.length_cons, List.length_nil] at hst
  have hcode : takeCode me N r V [Ent.mk xr K1 xc xrc xv xd xu xh] = 0 := by
    unfold takeCode
    rw [if_neg (by omega), if_neg (by simp), if_neg (by simp [dgB, hx]), if_neg (by omega)]
  refine ⟨hcode, ?_⟩
  unfold takeNext
  rw [if_pos hcode]
  show VOk me (t + 1) (takeStep r (V, 0) (Ent.mk xr K1 xc xrc xv xd xu xh)).1 ∧ ∀ q, look q K1 (takeStep r (V, 0) (Ent.mk xr K1 xc xrc xv xd xu xh)).1 = _
  unfold takeStep
  by_cases hv : (lookD r K1 V).v < xv
  · rw [if_pos (show (lookD r K1 V).v < xv from hv)]
    refine ⟨h.put (e := Ent.mk r K1 xc xrc xv xd xu xh) rfl hx (fun e => absurd e hne), fun q => ?_⟩
    show look q K1 (putE (Ent.mk r K1 xc xrc xv xd xu xh) V) = _
    rw [look_put, isK1 (e := Ent.mk r K1 xc xrc xv xd xu xh) rfl]
    by_cases e : q = r
    · rw [if_pos (by simpa using e), if_pos ⟨e, hv⟩]
    · rw [if_neg (by simp [e]), if_neg (fun hh => e hh.1)]
  · rw [if_neg (show ¬ (lookD r K1 V).v < xv from hv)]
    exact ⟨h.mono (Nat.le_succ _), fun q => by rw [if_neg (fun hh => hv hh.2)]⟩
theorem VOk.sane (h : VOk me t V) {e : Ent} (he : e ∈ V) : e.sane := by
  have hg := right_good (h.nm e he).2
  have := hg.n; have := hg.c; have := hg.d; have := hg.u; have := hg.h; have := hg.s
  exact ⟨by omega, ⟨by omega, by omega⟩, ⟨by omega, by omega⟩, ⟨by omega, by omega⟩⟩
end
end Go.Proofs.YtnphkmdanicemaaGreatDoor
namespace Go.Proofs.YtnphkmdanicemaaGreatDoor
open Go.RowKit Go.PlainAid
set_option linter.unusedVariables false
set_option linter.unusedSimpArgs false
theorem sizeP : (Tryz.prog.info? 34).map (fun i => (i.zero, i.size, i.bytes)) = some (some (.agg #[.pointer none, .pointer none, .pointer none]), 3, 24) := by kernel_rfl
theorem wpList_appP {w : World} {ops : Array Oper} {rest : List Oper} {o : Oper} {a : Act} {Q : Exit → Act → World → Prop} (hgd : o.guard = none) (s x : Operand)
    (ho : o.op = .call { callee := .builtin .append, args := #[s, x], argTypes := #[25, 25] })
    (base k : Nat) (v : Value) (es : List Pl) (hs : a.eval s = v) (hown : w.ownsRow base 34 3 v k (flatP es)) (e : Pl) {g : Nat} (hx : a.eval x = .slice (some ⟨g, 0, none⟩) 1 1) (hgs : g = w.heap.size) (hlen : (k + 1) * 24 ≤ 140737488355328) (hbase : base ≤ w.heap.size)
    (h : ∀ v' w', w'.ownsRow base 34 3 v' (k + 1) (flatP (es ++ [e])) → Grew w w' v v' → wpList Tryz.prog ops Q rest (a.put o.dst v') w') :
    wpList Tryz.prog ops Q (o :: rest) a (w.alloc (.cells #[.pointer (some ⟨e.gb, 0, none⟩), .pointer (some ⟨e.lb, 0, none⟩), .pointer (some ⟨e.hb, 0, none⟩)] 34)) := by
  subst hgs
  refine wpList_app 25 34 (.agg #[.pointer none, .pointer none, .pointer none]) 3 24 Tryz.underlying25 sizeP rfl (by decide) (by decide) hgd s x ho base k v (flatP es) hs (hown.alloc _) ⟨w.heap.size, 0, none⟩ 1 1 (plV e) hx rfl (fun j u hu => ?_) (fun u hu => by simp [plV] at hu; rcases hu with rfl | rfl | rfl <;> rfl) hlen (by rw [World.size_alloc]; omega) ?_
  · rw [addr_add, Nat.zero_add]
    have hB : Blk (w.alloc (.cells #[.pointer (some ⟨e.gb, 0, none⟩), .pointer (some ⟨e.lb, 0, none⟩), .pointer (some ⟨e.hb, 0, none⟩)] 34)) w.heap.size #[.pointer (some ⟨e.gb, 0, none⟩), .pointer (some ⟨e.lb, 0, none⟩), .pointer (some ⟨e.hb, 0, none⟩)] 34 := heap_alloc_new w _
    rw [hB.cell j]
    simpa [plV] using hu
  · intro v' w' h1 h2 _
    refine h v' w' ?_ h2.ofAlloc
    rw [flatP_append]
    have : flatP [e] = plV e := by simp [flatP]
    rw [this]
    exact h1
def s1000 : Led.LS := Led.LS.mk 0 0 0 1000 0
/-- Places as they begin. -/
def New0 (p : Pl) : Prop := p.L = [] ∧ p.s = s1000 ∧ p.V = []
structure Beg (L0 : Nat) (N i : Nat) (ps : List Pl) (v : Value) (w w' : World) : Prop where
  pls : Pls L0 (N : Int) ps w'
  len : ps.length = i
  row : w'.ownsRow L0 34 3 v i (flatP ps)
  new : ∀ p ∈ ps, New0 p
  bel : Below L0 w w'
theorem Beg.step {L0 N i : Nat} {ps : List Pl} {v v' : Value} {w a b c d X w' : World} (h : Beg L0 N i ps v w a) (hL : L0 ≤ a.heap.size) (hgb : Gs (a.heap.size + 1) a.heap.size (i : Int) N [] b) (hb : Below a.heap.size a b) (hbs : b.heap.size = a.heap.size + 2) (hc : c = b.alloc (.cells s1000.cs 82)) (hd : Vw (c.heap.size + 1) c.heap.size (i : Int) N [] d) (hcd : Below c.heap.size c d) (hX : d = X)
    (hr : w'.ownsRow L0 34 3 v' (i + 1) (flatP (ps ++ [⟨a.heap.size + 1, a.heap.size, b.heap.size, c.heap.size + 1, c.heap.size, [], s1000, []⟩]))) (hg : Grew X w' v v') : Beg L0 N (i + 1) (ps ++ [⟨a.heap.size + 1, a.heap.size, b.heap.size, c.heap.size + 1, c.heap.size, [], s1000, []⟩]) v' w w' := by
  subst hX
  have hcs : c.heap.size = b.heap.size + 1 := by rw [hc, World.size_alloc]
  have hbc : Below b.heap.size b c := by rw [hc]; exact (Below.refl _ _).alloc (Nat.le_refl _) _
  have had : Below a.heap.size a d := (hb.trans (hbc.mono hb.size)).trans (hcd.mono (Nat.le_trans hb.size hbc.size))
  have hds : c.heap.size + 1 < d.heap.size := hd.blk.lt
  have hbd : Below b.heap.size b d := hbc.trans (hcd.mono hbc.size)
  have hg0 : Gs (a.heap.size + 1) a.heap.size (i : Int) N [] d := hgb.more hbd
  have hl0 : Blk d b.heap.size s1000.cs 82 := by
    have : Blk c b.heap.size s1000.cs 82 := by rw [hc]; exact heap_alloc_new b _
    exact this.below hcd this.lt
  have hrow : d.ownsRow L0 34 3 v i (flatP ps) := ownsRow_same h.row fun g hg => had.block g (ownsRow_lt h.row hg).2
  have hnb : ∀ k, v.ownBlock = some k → k < a.heap.size := fun k hk => (ownsRow_lt h.row hk).2
  have hpl : Pls L0 (N : Int) (ps ++ [⟨a.heap.size + 1, a.heap.size, b.heap.size, c.heap.size + 1, c.heap.size, [], s1000, []⟩]) d := by
    refine h.pls.add had ⟨by rw [h.len]; exact hg0, hl0, by rw [h.len]; exact hd, fun k hk => ?_, show a.heap.size ≠ c.heap.size by omega⟩ hL
    rcases hk with e | e | e | e | e <;> rw [e] <;> simp only <;> omega
  refine ⟨hpl.keep hg.chg fun k hk => ?_, by rw [List.length_append, h.len]; rfl, hr, fun p hp => ?_, h.bel.trans ((had.mono hL).trans (hg.below (fun k hk => (ownsRow_lt hrow hk).1) (Nat.le_trans hL had.size)))⟩
  · rintro ⟨j, p, hp, hkp⟩
    obtain ⟨cur, hcur⟩ := ownsRow_type hrow hk
    exact (hpl.all j p hp).notT (show Blk d k cur 34 from hcur) (by decide) (by decide) (by decide) hkp
  · rcases List.mem_append.1 hp with hp | hp
    · exact h.new p hp
    · rw [List.mem_singleton.1 hp]; exact ⟨rfl, rfl, rfl⟩
end Go.Proofs.YtnphkmdanicemaaGreatDoor
