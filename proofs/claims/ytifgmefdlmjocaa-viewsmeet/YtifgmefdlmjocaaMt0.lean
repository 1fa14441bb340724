import Derived.Test.YtifgmefdlmjocaaGk
import Derived.Test.YtifgmefdlmjocaaKn
import Derived.Test.YtifgmefdlmjocaaJoinF
namespace Go.Proofs.Ytifgmefdlmjocaa
open Go.RowKit Go.PlainAid Go.MapKept
set_option linter.unusedVariables false
set_option linter.unusedSimpArgs false
theorem said_rightR (r : Int) {j : Nat} (hj : j < 4) {v d u h : Int} (hv : 1 ≤ v) (hd : 0 ≤ d ∧ d < 31) (hu : 0 ≤ u ∧ u < 31) (hh : 0 ≤ h ∧ h < 31) : Ent.right ⟨r, nm4 j, 100, 0, v, d, u, h⟩ = true := said_right hj hv hd hu hh
def reR (u : Int) (x : Ent) : Ent := { x with r := u }
/-- A view that the replica u has had of the name j. -/
def IsV (Hs : Nat → List Ent) (u j : Nat) (e : Ent) : Prop := ∃ (p : Nat) (x : Ent), (Hs (u * 4 + j))[p]? = some x ∧ e = reR u x
structure HOk (j p : Nat) (x : Ent) : Prop where
  r : x.r = 0
  n : x.n = nm4 j
  c : x.c = 100
  rc : x.rc = 0
  v : x.v = (p : Int) + 1
  d : 0 ≤ x.d ∧ x.d < 31
  u : 0 ≤ x.u ∧ x.u < 31
  h : 0 ≤ x.h ∧ x.h < 31
structure MI (n K : Nat) (LV : Nat → List Ent) (Hs : Nat → List Ent) : Prop where
  kn : ∀ r, r < n → KN (LV r)
  at' : ∀ r, r < n → ∀ e ∈ LV r, ∃ u j, u < n ∧ j < 4 ∧ IsV Hs u j e
  own : ∀ r, r < n → ∀ j, j < 4 → look (r : Int) (nm4 j) (LV r) = ((Hs (r * 4 + j)).getLast?).map (reR r)
  hs : ∀ u j, u < n → j < 4 → ∀ p x, (Hs (u * 4 + j))[p]? = some x → HOk j p x
  len : ∀ i, (Hs i).length ≤ K
  ll : ∀ r, r < n → (LV r).length ≤ 4 * K
theorem nm4_inj {i j : Nat} (hi : i < 4) (hj : j < 4) (h : nm4 i = nm4 j) : i = j := by
  match i, j, hi, hj with
  | 0, 0, _, _ => rfl
  | 1, 1, _, _ => rfl
  | 2, 2, _, _ => rfl
  | 3, 3, _, _ => rfl
  | 0, 1, _, _ => simp [nm4] at h
  | 0, 2, _, _ => simp [nm4] at h
  | 0, 3, _, _ => simp [nm4] at h
  | 1, 0, _, _ => simp [nm4] at h
  | 1, 2, _, _ => simp [nm4] at h
  | 1, 3, _, _ => simp [nm4] at h
  | 2, 0, _, _ => simp [nm4] at h
  | 2, 1, _, _ => simp [nm4] at h
  | 2, 3, _, _ => simp [nm4] at h
  | 3, 0, _, _ => simp [nm4] at h
  | 3, 1, _, _ => simp [nm4] at h
  | 3, 2, _, _ => simp [nm4] at h
theorem nm4_up {i j : Nat} (hj : j < 4) (h : i < j) : nlt (nm4 i) (nm4 j) = true := by
  rcases (by omega : (i = 0 ∧ j = 1) ∨ (i = 0 ∧ j = 2) ∨ (i = 0 ∧ j = 3) ∨ (i = 1 ∧ j = 2) ∨ (i = 1 ∧ j = 3) ∨ (i = 2 ∧ j = 3)) with ⟨rfl, rfl⟩ | ⟨rfl, rfl⟩ | ⟨rfl, rfl⟩ | ⟨rfl, rfl⟩ | ⟨rfl, rfl⟩ | ⟨rfl, rfl⟩ <;> rfl
theorem idx_inj {u j u' j' : Nat} (hj : j < 4) (hj' : j' < 4) (h : u * 4 + j = u' * 4 + j') : u = u' ∧ j = j' := by omega
section
variable {n K : Nat} {LV Hs Hs' : Nat → List Ent} {u j r : Nat} {e x : Ent} {D : List Ent}
theorem MI.facts (h : MI n K LV Hs) (hu : u < n) (hj : j < 4) (hi : IsV Hs u j e) : e.r = u ∧ e.n = nm4 j ∧ e.c = 100 ∧ e.rc = 0 ∧ 1 ≤ e.v ∧ e.v ≤ ((Hs (u * 4 + j)).length : Int) ∧ (0 ≤ e.d ∧ e.d < 31) ∧ (0 ≤ e.u ∧ e.u < 31) ∧ (0 ≤ e.h ∧ e.h < 31) := by
  obtain ⟨p, x, hp, rfl⟩ := hi
  have ho := h.hs u j hu hj p x hp
  have hl : p < (Hs (u * 4 + j)).length := (List.getElem?_eq_some_iff.1 hp).1
  refine ⟨rfl, ho.n, ho.c, ho.rc, ?_, ?_, ho.d, ho.u, ho.h⟩
  · show 1 ≤ x.v; rw [ho.v]; omega
  · show x.v ≤ _; rw [ho.v]; omega
theorem MI.right (h : MI n K LV Hs) (hu : u < n) (hj : j < 4) (hi : IsV Hs u j e) : e.right = true := by
  obtain ⟨f1, f2, f3, f4, f5, f6, f7, f8, f9⟩ := h.facts hu hj hi
  obtain ⟨er, en, ec, erc, ev, ed, eu, eh⟩ := e
  simp only at *
  subst f2 f3 f4
  exact said_rightR er hj f5 f7 f8 f9
theorem MI.key (h : MI n K LV Hs) (hr : r < n) (he : e ∈ LV r) (hu : u < n) (hj : j < 4) (h1 : e.r = u) (h2 : e.n = nm4 j) : IsV Hs u j e := by
  obtain ⟨u', j', hu', hj', hi⟩ := h.at' r hr e he
  obtain ⟨f1, f2, _⟩ := h.facts hu' hj' hi
  have e1 : u' = u := by rw [f1] at h1; exact_mod_cast h1
  have e2 : j' = j := nm4_inj hj' hj (f2.symm.trans h2)
  subst e1 e2
  exact hi
theorem MI.look (h : MI n K LV Hs) (hr : r < n) (hu : u < n) (hj : j < 4) (hl : look (u : Int) (nm4 j) (LV r) = some e) : IsV Hs u j e := by
  obtain ⟨k1, k2, k3⟩ := look_key hl
  exact h.key hr k1 hu hj k2 k3
theorem cnt4 {L : List Ent} (hk : KN L) (hn : ∀ e ∈ L, ∃ j, j < 4 ∧ e.n = nm4 j) (r : Int) : cntR r L ≤ 4 := by
  have h1 : cntR r L = (L.filter (fun e => e.r == r)).length := List.countP_eq_length_filter ..
  have h2 : NDn (L.filter (fun e => e.r == r)) := by
    unfold NDn
    rw [List.pairwise_filter]
    refine hk.imp fun {a b} hh ha hb e => hh ⟨?_, e⟩
    have ha : (a.r == r) = true := ha
    have hb : (b.r == r) = true := hb
    rw [eq_of_beq ha, eq_of_beq hb]
  have h3 := len_four (L.filter (fun e => e.r == r)) (fun e he => hn e (List.mem_filter.1 he).1)
  have a := cnt_one (nm4 0) h2
  have b := cnt_one (nm4 1) h2
  have c := cnt_one (nm4 2) h2
  have d := cnt_one (nm4 3) h2
  omega
theorem MI.cnt (h : MI n K LV Hs) (hr : r < n) (q : Int) : cntR q (LV r) ≤ 4 := cnt4 (h.kn r hr) (fun e he => by
  obtain ⟨u, j, hu, hj, hi⟩ := h.at' r hr e he
  exact ⟨j, hj, (h.facts hu hj hi).2.1⟩) q
theorem MI.vers (h : MI n K LV Hs) (hr : r < n) (he : e ∈ LV r) : 1 ≤ e.v ∧ e.v ≤ (K : Int) := by
  obtain ⟨u, j, hu, hj, hi⟩ := h.at' r hr e he
  obtain ⟨_, _, _, _, f5, f6, _⟩ := h.facts hu hj hi
  have := h.len (u * 4 + j)
  omega
def GrowH (Hs Hs' : Nat → List Ent) : Prop := ∀ i, ∃ t, Hs' i = Hs i ++ t
theorem IsV.grow (h : IsV Hs u j e) (hg : GrowH Hs Hs') : IsV Hs' u j e := by
  obtain ⟨p, x, hp, rfl⟩ := h
  obtain ⟨t, ht⟩ := hg (u * 4 + j)
  exact ⟨p, x, by rw [ht, List.getElem?_append_left (List.getElem?_eq_some_iff.1 hp).1]; exact hp, rfl⟩
theorem hadNext_grow (l : List Ent) (e : Ent) : ∃ t, hadNext l e = l ++ t := by
  unfold hadNext
  split
  · exact ⟨_, rfl⟩
  · split
    · exact ⟨[], by simp⟩
    · exact ⟨_, rfl⟩
theorem growH_upd (i : Nat) (e : Ent) : GrowH Hs (updL Hs i (hadNext (Hs i) e)) := fun k => by
  unfold updL
  split
  · rename_i h
    subst h
    exact hadNext_grow _ _
  · exact ⟨[], by simp⟩
theorem MI.mono (h : MI n K LV Hs) : MI n (K + 1) LV Hs := ⟨h.kn, h.at', h.own, h.hs, fun i => Nat.le_succ_of_le (h.len i), fun r hr => by have := h.ll r hr; omega⟩
/-- What both sides do when a replica tells: the program's views, and the law's list of what was had. -/
theorem tell_both {L l : List Ent} {r : Int} {j : Nat} {d u hh : Int} (hl : look r (nm4 j) L = (l.getLast?).map (reR r)) (hr1 : Ent.right ⟨r, nm4 j, 100, 0, 1, d, u, hh⟩ = true) (hc : cntR r L ≤ 4) (hv : ∀ x, l.getLast? = some x → x.n = nm4 j ∧ x.c = 100 ∧ x.rc = 0 ∧ x.v = (l.length : Int)) :
    tellCode r L ⟨r, nm4 j, 100, 0, 1, d, u, hh⟩ = 0 ∧ ((tellNext r L ⟨r, nm4 j, 100, 0, 1, d, u, hh⟩ = L ∧ hadNext l ⟨0, nm4 j, 100, 0, 0, d, u, hh⟩ = l) ∨ (tellNext r L ⟨r, nm4 j, 100, 0, 1, d, u, hh⟩ = putE ⟨r, nm4 j, 100, 0, (l.length : Int) + 1, d, u, hh⟩ L ∧ hadNext l ⟨0, nm4 j, 100, 0, 0, d, u, hh⟩ = l ++ [⟨0, nm4 j, 100, 0, (l.length : Int) + 1, d, u, hh⟩])) := by
  constructor
  · unfold tellCode
    rw [if_neg (by rw [hr1]; simp)]
    split
    · rfl
    · rw [if_neg (by omega)]
  · unfold tellNext hadNext
    rw [if_neg (by rw [hr1]; simp)]
    simp only
    cases hg : l.getLast? with
    | none =>
      rw [hg] at hl
      have hl0 : l = [] := List.getLast?_eq_none_iff.1 hg
      rw [if_neg (by rw [hl]; simp), if_neg (by omega)]
      right
      subst hl0
      exact ⟨rfl, rfl⟩
    | some x =>
      rw [hg] at hl
      obtain ⟨v1, v2, v3, v4⟩ := hv x hg
      have hD : lookD r (nm4 j) L = reR r x := by unfold lookD; rw [hl]; rfl
      rw [if_pos (by rw [hl]; rfl), hD]
      have e1 : (sameV ⟨r, nm4 j, 100, 0, (reR r x).v, d, u, hh⟩ (reR r x) = true) ↔ (sameV { x with v := (l.length : Int) + 1 } ⟨0, nm4 j, 100, 0, (l.length : Int) + 1, d, u, hh⟩ = true) := by
        unfold sameV reR
        simp only [v1, v2, v3, beq_self_eq_true, Bool.true_and, Bool.and_eq_true, beq_iff_eq]
        constructor
        · rintro ⟨⟨h1, h2⟩, h3⟩
          exact ⟨⟨h1.symm, h2.symm⟩, h3.symm⟩
        · rintro ⟨⟨h1, h2⟩, h3⟩
          exact ⟨⟨h1.symm, h2.symm⟩, h3.symm⟩
      by_cases hs : sameV { x with v := (l.length : Int) + 1 } ⟨0, nm4 j, 100, 0, (l.length : Int) + 1, d, u, hh⟩ = true
      · rw [if_pos (e1.2 hs)]
        left
        refine ⟨rfl, ?_⟩
        simp only [hs, if_true]
      · rw [if_neg (fun hx => hs (e1.1 hx))]
        right
        refine ⟨?_, ?_⟩
        · show putE ⟨r, nm4 j, 100, 0, x.v + 1, d, u, hh⟩ L = _
          rw [v4]
        · simp only [hs, if_false, Bool.false_eq_true]
theorem MI.tell (h : MI n K LV Hs) (hr : r < n) (hj : j < 4) {d v hh : Int} (hd : 0 ≤ d ∧ d < 31) (hv : 0 ≤ v ∧ v < 31) (hhh : 0 ≤ hh ∧ hh < 31) :
    tellCode (r : Int) (LV r) ⟨(r : Int), nm4 j, 100, 0, 1, d, v, hh⟩ = 0 ∧ MI n (K + 1) (updL LV r (tellNext (r : Int) (LV r) ⟨(r : Int), nm4 j, 100, 0, 1, d, v, hh⟩)) (updL Hs (r * 4 + j) (hadNext (Hs (r * 4 + j)) ⟨0, nm4 j, 100, 0, 0, d, v, hh⟩)) := by
  have hlast : ∀ x, (Hs (r * 4 + j)).getLast? = some x → x.n = nm4 j ∧ x.c = 100 ∧ x.rc = 0 ∧ x.v = ((Hs (r * 4 + j)).length : Int) := fun x hx => by
    rw [List.getLast?_eq_getElem?] at hx
    have ho := h.hs r j hr hj _ x hx
    have := (List.getElem?_eq_some_iff.1 hx).1
    refine ⟨ho.n, ho.c, ho.rc, ?_⟩
    rw [ho.v]
    omega
  obtain ⟨h1, h2⟩ := tell_both (d := d) (u := v) (hh := hh) (h.own r hr j hj) (said_rightR r hj (by decide) hd hv hhh) (h.cnt hr r) hlast
  refine ⟨h1, ?_⟩
  rcases h2 with ⟨t1, t2⟩ | ⟨t1, t2⟩
  · rw [t1, t2, updL_self rfl, updL_self rfl]
    exact h.mono
  · rw [t1, t2]
    obtain ⟨l, hl⟩ : ∃ l, l = Hs (r * 4 + j) := ⟨_, rfl⟩
    obtain ⟨z, hz⟩ : ∃ z : Ent, z = ⟨0, nm4 j, 100, 0, (l.length : Int) + 1, d, v, hh⟩ := ⟨_, rfl⟩
    rw [← hl, ← hz]
    have hze : (⟨(r : Int), nm4 j, 100, 0, (l.length : Int) + 1, d, v, hh⟩ : Ent) = reR r z := by rw [hz]; rfl
    rw [hze]
    have hgr : GrowH Hs (updL Hs (r * 4 + j) (l ++ [z])) := fun k => by
      unfold updL
      split
      · rename_i e; rw [e, ← hl]; exact ⟨_, rfl⟩
      · exact ⟨[], by simp⟩
    have hupd : ∀ u' j', j' < 4 → ¬ (u' = r ∧ j' = j) → updL Hs (r * 4 + j) (l ++ [z]) (u' * 4 + j') = Hs (u' * 4 + j') := fun u' j' hj' hne => by
      unfold updL
      rw [if_neg (fun e => hne (idx_inj hj' hj e))]
    have hself : updL Hs (r * 4 + j) (l ++ [z]) (r * 4 + j) = l ++ [z] := by unfold updL; rw [if_pos rfl]
    have hzn : z.n = nm4 j := by rw [hz]
    refine ⟨fun q hq => ?_, fun q hq e he => ?_, fun q hq j' hj' => ?_, fun u' j' hu' hj' p x hp => ?_, fun i => ?_, fun q hq => ?_⟩
    · unfold updL
      split
      · exact (h.kn r hr).put
      · exact h.kn q hq
    · unfold updL at he
      split at he
      · rcases mem_put he with rfl | he
        · exact ⟨r, j, hr, hj, l.length, z, by rw [hself]; simp, rfl⟩
        · obtain ⟨u', j', a, b, c⟩ := h.at' r hr e he
          exact ⟨u', j', a, b, c.grow hgr⟩
      · obtain ⟨u', j', a, b, c⟩ := h.at' q hq e he
        exact ⟨u', j', a, b, c.grow hgr⟩
    · by_cases hqr : q = r
      · subst hqr
        have e1 : updL LV q (putE (reR q z) (LV q)) q = putE (reR q z) (LV q) := by unfold updL; rw [if_pos rfl]
        rw [e1, look_put]
        by_cases hjj : j' = j
        · subst hjj
          have hk : isK (q : Int) (nm4 j') (reR q z) = true := isK_iff.2 ⟨rfl, hzn.symm⟩
          rw [if_pos hk, hself]
          simp
        · have hk : ¬ isK (q : Int) (nm4 j') (reR q z) = true := fun e => hjj (nm4_inj hj' hj ((isK_iff.1 e).2.trans hzn))
          rw [if_neg hk, hupd q j' hj' (fun e => hjj e.2)]
          exact h.own q hq j' hj'
      · have e1 : updL LV r (putE (reR r z) (LV r)) q = LV q := by unfold updL; rw [if_neg hqr]
        rw [e1, hupd q j' hj' (fun e => hqr e.1)]
        exact h.own q hq j' hj'
    · by_cases hq : u' = r ∧ j' = j
      · obtain ⟨rfl, rfl⟩ := hq
        rw [hself] at hp
        by_cases hpl : p < l.length
        · rw [List.getElem?_append_left hpl, hl] at hp
          exact h.hs _ _ hr hj p x hp
        · have hp2 : p = l.length := by
            have := (List.getElem?_eq_some_iff.1 hp).1
            simp at this
            omega
          subst hp2
          simp at hp
          subst hp
          rw [hz]
          exact ⟨rfl, rfl, rfl, rfl, rfl, hd, hv, hhh⟩
      · rw [hupd u' j' hj' hq] at hp
        exact h.hs u' j' hu' hj' p x hp
    · unfold updL
      split
      · have := h.len (r * 4 + j)
        rw [← hl] at this
        simp
        omega
      · exact Nat.le_succ_of_le (h.len i)
    · unfold updL
      split
      · have := put_len (reR r z) (LV r)
        have := h.ll r hr
        omega
      · have := h.ll q hq
        omega
/-- A digest of the replica u. -/
structure DgM (Hs : Nat → List Ent) (u : Nat) (D : List Ent) : Prop where
  dig : dgB D = true
  nd : NDn D
  len : D.length ≤ 4
  is : ∀ e ∈ D, ∃ j, j < 4 ∧ IsV Hs u j e
theorem DgM.grow (h : DgM Hs u D) (hg : GrowH Hs Hs') : DgM Hs' u D := ⟨h.dig, h.nd, h.len, fun e he => by obtain ⟨j, hj, hi⟩ := h.is e he; exact ⟨j, hj, hi.grow hg⟩⟩
/-- What each replica has had last, by rising names. -/
def lastH (Hs : Nat → List Ent) (u j : Nat) : Option Ent := ((Hs (u * 4 + j)).getLast?).map (reR u)
def digL (Hs : Nat → List Ent) (u : Nat) (k : Nat) : List Ent := (List.range k).filterMap (lastH Hs u)
theorem digL_succ (Hs : Nat → List Ent) (u k : Nat) : digL Hs u (k + 1) = digL Hs u k ++ (lastH Hs u k).toList := by
  unfold digL
  rw [List.range_succ, List.filterMap_append]
  rfl
theorem MI.lastN (h : MI n K LV Hs) (hu : u < n) (hj : j < 4) (hl : lastH Hs u j = some e) : e.n = nm4 j ∧ IsV Hs u j e := by
  unfold lastH at hl
  cases hg : (Hs (u * 4 + j)).getLast? with
  | none => rw [hg] at hl; cases hl
  | some x =>
    rw [hg] at hl
    cases hl
    rw [List.getLast?_eq_getElem?] at hg
    exact ⟨(h.hs u j hu hj _ x hg).n, _, x, hg, rfl⟩
theorem MI.mem_dig (h : MI n K LV Hs) (hu : u < n) (e : Ent) : e ∈ digL Hs u 4 ↔ e ∈ LV u ∧ e.r = u := by
  unfold digL
  rw [List.mem_filterMap]
  constructor
  · rintro ⟨j, hj, hl⟩
    have hj := List.mem_range.1 hj
    unfold lastH at hl
    rw [← h.own u hu j hj] at hl
    obtain ⟨k1, k2, _⟩ := look_key hl
    exact ⟨k1, k2⟩
  · rintro ⟨h1, h2⟩
    obtain ⟨u', j, hu', hj, hi⟩ := h.at' u hu e h1
    obtain ⟨f1, f2, _⟩ := h.facts hu' hj hi
    have := (h.kn u hu).look h1
    rw [h2, f2, h.own u hu j hj] at this
    exact ⟨j, List.mem_range.2 hj, this⟩
theorem MI.digest (h : MI n K LV Hs) (hu : u < n) (ht : Told (u : Int) (LV u) D) : D = digL Hs u 4 ∧ DgM Hs u D := by
  obtain ⟨hp, hs⟩ := ht
  have hm : ∀ e, e ∈ D ↔ e ∈ LV u ∧ e.r = u := fun e => by rw [hp.mem_iff]; unfold Go.Proofs.Ytifgmefdlmjocaa.own; rw [List.mem_filter]; simp
  have hk : D.Pairwise fun a b => ¬ (a.r = b.r ∧ a.n = b.n) := (hp.pairwise_iff (fun {a b} hh e => hh ⟨e.1.symm, e.2.symm⟩)).2 ((h.kn u hu).filter _)
  have hup : D.Pairwise fun a b => nlt a.n b.n = true := by
    refine (hs.and hk).imp_of_mem fun {a b} ha hb hh => ?_
    rcases nlt_or hh.1 with e | e
    · exact absurd ⟨((hm a).1 ha).2.trans ((hm b).1 hb).2.symm, e.symm⟩ hh.2
    · exact e
  have hdu : ∀ k, k ≤ 4 → (digL Hs u k).Pairwise (fun a b => nlt a.n b.n = true) ∧ ∀ e ∈ digL Hs u k, ∃ j, j < k ∧ e.n = nm4 j := by
    intro k
    induction k with
    | zero => intro _; exact ⟨List.Pairwise.nil, (fun e he => by cases he)⟩
    | succ k ih =>
      intro hk4
      obtain ⟨i1, i2⟩ := ih (by omega)
      rw [digL_succ]
      cases hl : lastH Hs u k with
      | none =>
        simp only [Option.toList_none, List.append_nil]
        exact ⟨i1, fun e he => by obtain ⟨j, hj, hn⟩ := i2 e he; exact ⟨j, by omega, hn⟩⟩
      | some y =>
        simp only [Option.toList_some]
        have hy := (h.lastN hu (by omega) hl).1
        refine ⟨List.pairwise_append.2 ⟨i1, List.pairwise_singleton _ _, fun a ha b hb => ?_⟩, fun e he => ?_⟩
        · rw [List.mem_singleton.1 hb, hy]
          obtain ⟨j, hj, hn⟩ := i2 a ha
          rw [hn]
          exact nm4_up (by omega) hj
        · rcases List.mem_append.1 he with he | he
          · obtain ⟨j, hj, hn⟩ := i2 e he; exact ⟨j, by omega, hn⟩
          · rw [List.mem_singleton.1 he]; exact ⟨k, by omega, hy⟩
  have hnm : D.map Ent.n = (digL Hs u 4).map Ent.n := by
    refine ups_ext (by unfold Ups; rw [List.pairwise_map]; exact hup) (by unfold Ups; rw [List.pairwise_map]; exact (hdu 4 (by omega)).1) fun y => ?_
    simp only [List.mem_map]
    constructor
    · rintro ⟨e, he, rfl⟩; exact ⟨e, (h.mem_dig hu e).2 ((hm e).1 he), rfl⟩
    · rintro ⟨e, he, rfl⟩; exact ⟨e, (hm e).2 ((h.mem_dig hu e).1 he), rfl⟩
  have hg : ∀ l : List Ent, (∀ e ∈ l, e ∈ LV u ∧ e.r = u) → l = (l.map Ent.n).map (fun nm => lookD u nm (LV u)) := fun l hl => by
    rw [List.map_map]
    conv => lhs; rw [← List.map_id l]
    refine List.map_congr_left fun e he => ?_
    obtain ⟨a, b⟩ := hl e he
    have := (h.kn u hu).look a
    rw [b] at this
    show e = lookD u e.n (LV u)
    unfold lookD
    rw [this]
    rfl
  have hD : D = digL Hs u 4 := by
    rw [hg D (fun e he => (hm e).1 he), hg (digL Hs u 4) (fun e he => (h.mem_dig hu e).1 he), hnm]
  have hnd : NDn D := hup.imp fun {a b} hh e => by rw [e, nlt_irrefl] at hh; cases hh
  have his : ∀ e ∈ D, ∃ j, j < 4 ∧ IsV Hs u j e := fun e he => by
    obtain ⟨a, b⟩ := (hm e).1 he
    obtain ⟨u', j, hu', hj, hi⟩ := h.at' u hu e a
    have := (h.facts hu' hj hi).2.1
    exact ⟨j, hj, h.key hu a hu hj b this⟩
  refine ⟨hD, dgB_iff.2 ⟨fun e he => ?_, fun i a b ha hb => ?_⟩, hnd, ?_, his⟩
  · obtain ⟨j, hj, hi⟩ := his e he
    exact h.right hu hj hi
  · obtain ⟨hi, ha'⟩ := List.getElem?_eq_some_iff.1 ha
    obtain ⟨hj, hb'⟩ := List.getElem?_eq_some_iff.1 hb
    have h1 := List.pairwise_iff_getElem.1 hup i (i + 1) hi hj (by omega)
    rw [ha', hb'] at h1
    exact h1
  · have h3 := len_four D (fun e he => by obtain ⟨j, hj, hi⟩ := his e he; exact ⟨j, hj, (h.facts hu hj hi).2.1⟩)
    have a := cnt_one (nm4 0) hnd
    have b := cnt_one (nm4 1) hnd
    have c := cnt_one (nm4 2) hnd
    have d := cnt_one (nm4 3) hnd
    omega
/-- What a fold of taken views does to what is looked up. -/
theorem fold_look {q : Int} : ∀ (D L : List Ent) (m : Nat) (r : Int) (nm : List UInt8), NDn D → look r nm (D.foldl (takeStep q) (L, m)).1 = if r = q then (match D.find? (fun e => e.n == nm) with | none => look r nm L | some e => if (lookD q nm L).v < e.v then some (reR q e) else look r nm L) else look r nm L
  | [], L, m, r, nm, _ => by simp
  | y :: t, L, m, r, nm, hnd => by
    obtain ⟨h1, h2⟩ := List.pairwise_cons.1 hnd
    rw [List.foldl_cons]
    obtain ⟨L1, m1, hst⟩ : ∃ L1 m1, takeStep q (L, m) y = (L1, m1) := ⟨_, _, rfl⟩
    rw [hst, fold_look t L1 m1 r nm h2]
    have hL1 : ∀ r' nm', look r' nm' L1 = if r' = q ∧ nm' = y.n ∧ (lookD q y.n L).v < y.v then some (reR q y) else look r' nm' L := fun r' nm' => by
      unfold takeStep at hst
      simp only at hst
      by_cases hlt : (lookD q y.n L).v < y.v
      · rw [if_pos hlt] at hst
        cases hst
        rw [look_put]
        by_cases hk : isK r' nm' { y with r := q } = true
        · rw [if_pos hk, if_pos ⟨(isK_iff.1 hk).1, (isK_iff.1 hk).2, hlt⟩]
          rfl
        · rw [if_neg hk, if_neg (fun e => hk (isK_iff.2 ⟨e.1, e.2.1⟩))]
      · rw [if_neg hlt] at hst
        cases hst
        rw [if_neg (fun e => hlt e.2.2)]
    by_cases hrq : r = q
    · subst hrq
      rw [if_pos rfl, if_pos rfl]
      by_cases hny : y.n = nm
      · subst hny
        have hf : t.find? (fun e => e.n == y.n) = none := List.find?_eq_none.2 fun e he hh => h1 e he (eq_of_beq hh).symm
        rw [hf, List.find?_cons_of_pos (by simp)]
        simp only
        rw [hL1]
        by_cases hlt : (lookD r y.n L).v < y.v
        · rw [if_pos ⟨rfl, rfl, hlt⟩, if_pos hlt]
        · rw [if_neg (fun e => hlt e.2.2), if_neg hlt]
      · rw [List.find?_cons_of_neg (by simpa using hny)]
        have e1 : look r nm L1 = look r nm L := by rw [hL1, if_neg (fun e => hny e.2.1.symm)]
        have e2 : lookD r nm L1 = lookD r nm L := by unfold lookD; rw [e1]
        rw [e1, e2]
    · rw [if_neg hrq, if_neg hrq, hL1, if_neg (fun e => hrq e.1)]
theorem fold_keep {q : Int} : ∀ (D L : List Ent) (m : Nat), KN L → KN (D.foldl (takeStep q) (L, m)).1 ∧ (∀ e ∈ (D.foldl (takeStep q) (L, m)).1, e ∈ L ∨ ∃ y ∈ D, e = reR q y) ∧ (D.foldl (takeStep q) (L, m)).1.length ≤ L.length + D.length
  | [], L, m, h => ⟨h, fun e he => Or.inl he, by simp⟩
  | y :: t, L, m, h => by
    rw [List.foldl_cons]
    unfold takeStep
    simp only
    split
    · obtain ⟨a, b, c⟩ := fold_keep t (putE { y with r := q } L) (m + 1) h.put
      refine ⟨a, fun e he => ?_, ?_⟩
      · rcases b e he with h1 | ⟨z, hz, rfl⟩
        · rcases mem_put h1 with rfl | h1
          · exact Or.inr ⟨y, List.mem_cons_self .., rfl⟩
          · exact Or.inl h1
        · exact Or.inr ⟨z, List.mem_cons_of_mem _ hz, rfl⟩
      · have := put_len { y with r := q } L
        have e1 : (List.foldl (takeStep q) (putE { y with r := q } L, m + 1) t).1.length ≤ _ := c
        simp only [List.length_cons]
        exact Nat.le_trans e1 (by omega)
    · obtain ⟨a, b, c⟩ := fold_keep t L m h
      refine ⟨a, fun e he => ?_, ?_⟩
      · rcases b e he with h1 | ⟨z, hz, rfl⟩
        · exact Or.inl h1
        · exact Or.inr ⟨z, List.mem_cons_of_mem _ hz, rfl⟩
      · simp only [List.length_cons]
        exact Nat.le_trans c (by omega)
theorem MI.take {q : Nat} (h : MI n K LV Hs) (hr : r < n) (hq : q < n) (hne : q ≠ r) (hD : DgM Hs q D) :
    takeCode (r : Int) (n : Int) (q : Int) (LV r) D = 0 ∧ (takeNext (r : Int) (n : Int) (q : Int) (LV r) D).1 = (D.foldl (takeStep q) (LV r, 0)).1 ∧ MI n (K + 1) (updL LV r (takeNext (r : Int) (n : Int) (q : Int) (LV r) D).1) Hs := by
  have hc : takeCode (r : Int) (n : Int) (q : Int) (LV r) D = 0 := by
    unfold takeCode
    have a := h.cnt hr q
    have b := strangeC_le q (LV r) D
    have c := hD.len
    rw [if_neg (by omega), if_neg (by omega), if_neg (by rw [hD.dig]; simp), if_neg (by omega)]
  have hn : (takeNext (r : Int) (n : Int) (q : Int) (LV r) D).1 = (D.foldl (takeStep q) (LV r, 0)).1 := by unfold takeNext; rw [if_pos hc]; rfl
  refine ⟨hc, hn, ?_⟩
  rw [hn]
  obtain ⟨a, b, c⟩ := fold_keep (q := q) D (LV r) 0 (h.kn r hr)
  refine ⟨fun p hp => ?_, fun p hp e he => ?_, fun p hp j hj => ?_, h.hs, fun i => Nat.le_succ_of_le (h.len i), fun p hp => ?_⟩
  · unfold updL
    split
    · exact a
    · exact h.kn p hp
  · unfold updL at he
    split at he
    · rcases b e he with h1 | ⟨y, hy, rfl⟩
      · exact h.at' r hr e h1
      · obtain ⟨j, hj, hi⟩ := hD.is y hy
        have hyr := (h.facts hq hj hi).1
        refine ⟨q, j, hq, hj, ?_⟩
        obtain ⟨p', x', hx', rfl⟩ := hi
        exact ⟨p', x', hx', rfl⟩
    · exact h.at' p hp e he
  · unfold updL
    split
    · rename_i hpr
      subst hpr
      rw [fold_look D (LV p) 0 p (nm4 j) hD.nd, if_neg (by omega)]
      exact h.own p hp j hj
    · exact h.own p hp j hj
  · unfold updL
    split
    · have := hD.len
      have := h.ll r hr
      omega
    · have := h.ll p hp
      omega
/-- The replica r knows the last that q has said. -/
def Meets (LV Hs : Nat → List Ent) (r q : Nat) : Prop := ∀ j, j < 4 → look (q : Int) (nm4 j) (LV r) = lastH Hs q j
theorem MI.meets_take {q : Nat} (h : MI n K LV Hs) (hr : r < n) (hq : q < n) (hne : q ≠ r) (hD : DgM Hs q D) (hd : D = digL Hs q 4) : Meets (updL LV r (takeNext (r : Int) (n : Int) (q : Int) (LV r) D).1) Hs r q := fun j hj => by
  obtain ⟨_, hn, _⟩ := h.take hr hq hne hD
  have e1 : updL LV r (takeNext (r : Int) (n : Int) (q : Int) (LV r) D).1 r = (D.foldl (takeStep q) (LV r, 0)).1 := by unfold updL; rw [if_pos rfl, hn]
  rw [e1, fold_look D (LV r) 0 q (nm4 j) hD.nd, if_pos rfl]
  cases hl : lastH Hs q j with
  | none =>
    have hf : D.find? (fun e => e.n == nm4 j) = none := List.find?_eq_none.2 fun e he hh => by
      rw [hd, (show e ∈ digL Hs q 4 ↔ _ from List.mem_filterMap)] at he
      obtain ⟨j', hj', hl'⟩ := he
      have := (h.lastN hq (List.mem_range.1 hj') hl').1
      have e2 := nm4_inj (List.mem_range.1 hj') hj (this.symm.trans (eq_of_beq hh))
      subst e2
      rw [hl] at hl'
      cases hl'
    rw [hf]
    simp only
    cases hk : Go.Proofs.Ytifgmefdlmjocaa.look (q : Int) (nm4 j) (LV r) with
    | none => rfl
    | some e =>
      obtain ⟨p, x, hp, _⟩ := h.look hr hq hj hk
      unfold lastH at hl
      rw [Option.map_eq_none_iff, List.getLast?_eq_none_iff] at hl
      rw [hl] at hp
      simp at hp
  | some y =>
    obtain ⟨hyn, hyi⟩ := h.lastN hq hj hl
    have hyD : y ∈ D := by rw [hd]; exact List.mem_filterMap.2 ⟨j, List.mem_range.2 hj, hl⟩
    have hf : D.find? (fun e => e.n == nm4 j) = some y := by
      cases hg : D.find? (fun e => e.n == nm4 j) with
      | none => exact absurd (by simp [hyn]) (List.find?_eq_none.1 hg y hyD)
      | some z =>
        have hz := List.mem_of_find?_eq_some hg
        have hzn := List.find?_some hg
        rw [hd, (show z ∈ digL Hs q 4 ↔ _ from List.mem_filterMap)] at hz
        obtain ⟨j', hj', hl'⟩ := hz
        have := (h.lastN hq (List.mem_range.1 hj') hl').1
        have e2 := nm4_inj (List.mem_range.1 hj') hj (this.symm.trans (eq_of_beq hzn))
        subst e2
        rw [hl] at hl'
        exact hl'.symm
    rw [hf]
    simp only
    have hyv : y.v = ((Hs (q * 4 + j)).length : Int) := by
      unfold lastH at hl
      cases hg : (Hs (q * 4 + j)).getLast? with
      | none => rw [hg] at hl; cases hl
      | some x =>
        rw [hg] at hl
        cases hl
        rw [List.getLast?_eq_getElem?] at hg
        have hv := (h.hs q j hq hj _ x hg).v
        have := (List.getElem?_eq_some_iff.1 hg).1
        show x.v = _
        rw [hv]
        omega
    have hyr : reR q y = y := by
      obtain ⟨p, x, _, rfl⟩ := hyi
      rfl
    split
    · rw [hyr]
    · rename_i hnl
      cases hk : Go.Proofs.Ytifgmefdlmjocaa.look (q : Int) (nm4 j) (LV r) with
      | none =>
        exfalso
        apply hnl
        unfold lookD
        rw [hk]
        have := (h.facts hq hj hyi).2.2.2.2.1
        show (0 : Int) < y.v
        omega
      | some e =>
        have hei := h.look hr hq hj hk
        have hev := (h.facts hq hj hei).2.2.2.2.2.1
        unfold lookD at hnl
        rw [hk] at hnl
        have hnl : ¬ e.v < y.v := hnl
        have hee : e.v = y.v := by omega
        obtain ⟨p, x, hp, rfl⟩ := hei
        obtain ⟨p', x', hp', rfl⟩ := hyi
        have v1 := (h.hs q j hq hj p x hp).v
        have v2 := (h.hs q j hq hj p' x' hp').v
        have hee : x.v = x'.v := hee
        have : p = p' := by omega
        subst this
        rw [hp] at hp'
        cases hp'
        rfl
theorem MI.meets_other {q p : Nat} (h : MI n K LV Hs) (hr : r < n) (hq : q < n) (hne : q ≠ r) (hD : DgM Hs q D) {r' : Nat} (hm : Meets LV Hs r' p) (hx : ¬ (r' = r ∧ p = q)) : Meets (updL LV r (takeNext (r : Int) (n : Int) (q : Int) (LV r) D).1) Hs r' p := fun j hj => by
  by_cases hrr : r' = r
  · subst hrr
    obtain ⟨_, hn, _⟩ := h.take hr hq hne hD
    have e1 : updL LV r' (takeNext (r' : Int) (n : Int) (q : Int) (LV r') D).1 r' = (D.foldl (takeStep q) (LV r', 0)).1 := by unfold updL; rw [if_pos rfl, hn]
    rw [e1, fold_look D (LV r') 0 p (nm4 j) hD.nd, if_neg (by omega)]
    exact hm j hj
  · have e1 : updL LV r (takeNext (r : Int) (n : Int) (q : Int) (LV r) D).1 r' = LV r' := by unfold updL; rw [if_neg hrr]
    rw [e1]
    exact hm j hj
end
end Go.Proofs.Ytifgmefdlmjocaa
