import Derived.Test.YtgajmiibkakobaaDo1
namespace Go.Proofs.Ytgajmiibkakobaa
open Go.RowKit Go.PlainAid Go.MapKept
set_option linter.unusedVariables false
set_option linter.unusedSimpArgs false
theorem sum_put (q a : Int) : ∀ H : List (Int × Int), sumH (Gm.putM q a H) = sumH H + a - (Gm.look q H).getD 0
  | [] => by simp [Gm.putM, sumH, Gm.look]
  | y :: t => by
    have ih := sum_put q a t
    by_cases e : q = y.1
    · have e2 : Gm.look q (y :: t) = some y.2 := by simp [Gm.look, List.find?_cons, e]
      rw [e2]
      simp only [Gm.putM, if_pos e, sumH, List.map_cons, List.sum_cons, Option.getD_some]
      omega
    · have e2 : Gm.look q (y :: t) = Gm.look q t := by simp [Gm.look, List.find?_cons, e]
      rw [e2]
      simp only [Gm.putM, if_neg e, sumH, List.map_cons, List.sum_cons] at ih ⊢
      omega
theorem pos_put {q a : Int} {H : List (Int × Int)} (ha : 0 ≤ a) (hp : ∀ p ∈ H, 0 ≤ p.2) : ∀ p ∈ Gm.putM q a H, 0 ≤ p.2 := fun p h => by
  rcases putM_mem h with rfl | ⟨h, _⟩ | ⟨h, _⟩
  · exact ha
  · exact hp p h
  · exact hp p h
theorem look_put {K V : Type} [DecidableEq K] (k j : K) (v : V) : ∀ L : List (K × V), Gm.look j (Gm.putM k v L) = if j = k then some v else Gm.look j L
  | [] => by
    by_cases e : j = k <;> simp [Gm.putM, Gm.look, List.find?_cons, e]
  | y :: t => by
    have ih := look_put k j v t
    by_cases e : k = y.1
    · by_cases e2 : j = k
      · subst e2
        simp [Gm.putM, Gm.look, List.find?_cons, e]
      · have e3 : ¬ j = y.1 := fun h => e2 (by rw [h, e])
        simp [Gm.putM, Gm.look, List.find?_cons, e, e2, e3, fun h : j = y.1 => e3 h]
    · simp only [Gm.putM, if_neg e]
      by_cases e2 : j = y.1
      · have e3 : ¬ j = k := fun h => e (by rw [← h, e2])
        simp [Gm.look, List.find?_cons, e2, if_neg (fun h : y.1 = k => e h.symm)]
      · have e4 : ∀ M : List (K × V), Gm.look j (y :: M) = Gm.look j M := fun M => by simp [Gm.look, List.find?_cons, e2]
        rw [e4, e4, ih]
/-- What an op comes to is right again. -/
theorem ctO_ok {c : Ct} (hc : c.Ok) (k A B q : Int) (ho : opB k A B = true) (n : List UInt8) (hb' : Nat) (h0 : (ctO k A B q c).1.2 = 0) (hk1 : k ≠ 1) :
    (Ct.mk n (ctO k A B q c).2.1 (ctO k A B q c).2.2.1 (ctO k A B q c).2.2.2.1 (some hb') (ctO k A B q c).2.2.2.2).Ok := by
  obtain ⟨l1, l2⟩ := hc.lim
  have l3 := hc.val
  have l4 := hc.sum
  have l5 := hc.heldnn
  have l6 := hc.held
  unfold ctO at h0 ⊢
  by_cases c2 : k = 2
  · simp only [if_pos c2] at h0 ⊢
    subst c2
    simp [opB] at ho
    have b := amtB_yes ho.1
    unfold incO at h0 ⊢
    by_cases hq : c.lim < c.val + c.held + A
    · rw [if_pos hq] at h0; simp at h0
    · rw [if_neg hq]
      exact ⟨⟨l1, l2⟩, by simp only; omega, by simp only; omega, l6, hc.pos, hc.kd⟩
  by_cases c3 : k = 3
  · simp only [if_neg c2, if_pos c3] at h0 ⊢
    subst c3
    simp [opB] at ho
    have b := amtB_yes ho.1
    unfold decO at h0 ⊢
    by_cases hq : c.val < A
    · rw [if_pos hq] at h0; simp at h0
    · rw [if_neg hq]
      exact ⟨⟨l1, l2⟩, by simp only; omega, by simp only; omega, l6, hc.pos, hc.kd⟩
  by_cases c4 : k = 4
  · simp only [if_neg c2, if_neg c3, if_pos c4] at h0 ⊢
    subst c4
    simp [opB] at ho
    have b := amtB_yes ho.1
    unfold holdO at h0 ⊢
    by_cases hq : c.val < A
    · rw [if_pos hq] at h0; simp at h0
    · rw [if_neg hq] at h0 ⊢
      by_cases hu : q < 1 ∨ (Gm.look q c.H).isSome = true
      · rw [if_pos hu] at h0; simp at h0
      · rw [if_neg hu]
        have hz : (Gm.look q c.H).getD 0 = 0 := by
          cases hl : Gm.look q c.H with
          | none => rfl
          | some x => exact absurd (Or.inr (by rw [hl]; rfl)) hu
        refine ⟨⟨l1, l2⟩, by simp only; omega, by simp only; omega, ?_, pos_put (by omega) hc.pos, putM_kd hc.kd⟩
        simp only
        rw [sum_put, hz, ← l6]
        omega
  by_cases c5 : k = 5 ∨ k = 6 ∨ k = 12
  · simp only [if_neg c2, if_neg c3, if_neg c4, if_pos c5] at h0 ⊢
    have b := hc.amt A
    unfold endO at h0 ⊢
    by_cases hq : amt A c = 0
    · rw [if_pos hq] at h0; simp at h0
    · rw [if_neg hq]
      have hs : c.held - amt A c = sumH (Gm.putM A 0 c.H) := by
        rw [sum_put, ← l6]
        unfold amt
        omega
      by_cases c55 : k = 5
      · simp only [if_pos c55]
        exact ⟨⟨l1, l2⟩, l3, by simp only; omega, hs, pos_put (Int.le_refl _) hc.pos, putM_kd hc.kd⟩
      · simp only [if_neg c55]
        exact ⟨⟨l1, l2⟩, by simp only; omega, by simp only; omega, hs, pos_put (Int.le_refl _) hc.pos, putM_kd hc.kd⟩
  by_cases c8 : k = 8
  · simp only [if_neg c2, if_neg c3, if_neg c4, if_neg c5, if_pos c8] at h0 ⊢
    subst c8
    simp [opB] at ho
    have b := amtB_yes ho.2
    unfold takeO at h0 ⊢
    by_cases hv : c.val ≠ A
    · rw [if_pos hv] at h0; simp at h0
    · rw [if_neg hv] at h0 ⊢
      by_cases hq : c.val < B
      · rw [if_pos hq] at h0; simp at h0
      · rw [if_neg hq]
        exact ⟨⟨l1, l2⟩, by simp only; omega, by simp only; omega, l6, hc.pos, hc.kd⟩
  by_cases c9 : k = 9
  · simp only [if_neg c2, if_neg c3, if_neg c4, if_neg c5, if_neg c8, if_pos c9] at h0 ⊢
    subst c9
    simp [opB] at ho
    have b := valB_yes ho.1
    unfold resetO at h0 ⊢
    by_cases hq : c.lim < A + c.held
    · rw [if_pos hq] at h0; simp at h0
    · rw [if_neg hq]
      exact ⟨⟨l1, l2⟩, by simp only; omega, by simp only; omega, l6, hc.pos, hc.kd⟩
  by_cases c10 : k = 10
  · simp only [if_neg c2, if_neg c3, if_neg c4, if_neg c5, if_neg c8, if_neg c9, if_pos c10] at h0 ⊢
    subst c10
    simp [opB] at ho
    have b := amtB_yes ho.1
    unfold recapO at h0 ⊢
    by_cases hq : A < c.val + c.held
    · rw [if_pos hq] at h0; simp at h0
    · rw [if_neg hq]
      exact ⟨⟨by simp only; omega, by simp only; omega⟩, l3, by simp only; omega, l6, hc.pos, hc.kd⟩
  · simp only [if_neg c2, if_neg c3, if_neg c4, if_neg c5, if_neg c8, if_neg c9, if_neg c10] at h0 ⊢
    exact ⟨⟨l1, l2⟩, l3, l4, l6, hc.pos, hc.kd⟩
theorem mapO_ok {L : List (List UInt8 × Ct)} (hL : ∀ p ∈ L, p.2.Ok) (k A B q : Int) (n : List UInt8) (hb' : Nat) (h0 : (mapO k A B q n L).1.2 = 0) :
    (Ct.mk n (mapO k A B q n L).2.1 (mapO k A B q n L).2.2.1 (mapO k A B q n L).2.2.2.1 (some hb') (mapO k A B q n L).2.2.2.2).Ok := by
  unfold mapO at h0 ⊢
  by_cases hr : (nameB n && opB k A B) = false
  · rw [if_pos hr] at h0; simp at h0
  · rw [if_neg hr] at h0 ⊢
    have ho : opB k A B = true := by
      rw [Bool.not_eq_false, Bool.and_eq_true] at hr
      exact hr.2
    cases hl : Gm.look n L with
    | none =>
      rw [hl] at h0
      by_cases hk : k = 1
      · simp only [if_pos hk] at h0 ⊢
        subst hk
        simp [opB] at ho
        have b1 := amtB_yes ho.1
        have b2 := valB_yes ho.2
        unfold createO at h0 ⊢
        by_cases hq : A < B
        · rw [if_pos hq] at h0; simp at h0
        · rw [if_neg hq]
          exact ⟨⟨by simp only; omega, by simp only; omega⟩, by simp only; omega, by simp only; omega, by simp [sumH], (fun p hp => by cases hp), List.Pairwise.nil⟩
      · simp only [if_neg hk] at h0
        simp at h0
    | some c =>
      rw [hl] at h0
      by_cases hk : k = 1
      · simp only [if_pos hk] at h0
        simp at h0
      · simp only [if_neg hk] at h0 ⊢
        exact ctO_ok (hL _ (look_mem hl)) k A B q ho n hb' h0 hk
theorem hbOf_in {k : Int} {n : List UInt8} {L : List (List UInt8 × Ct)} (x : Nat) (h : hbOf k n L = some x) : ∃ c, (n, c) ∈ L ∧ c.hb = some x := by
  unfold hbOf at h
  by_cases hk : k = 1
  · rw [if_pos hk] at h; cases h
  · rw [if_neg hk] at h
    cases hl : Gm.look n L with
    | none => rw [hl] at h; cases h
    | some c => rw [hl] at h; exact ⟨c, look_mem hl, h⟩
/-- The counters behind an op. -/
def doL (R : Out) (n : List UInt8) (hb' : Nat) (L : List (List UInt8 × Ct)) : List (List UInt8 × Ct) := if R.1.2 = 0 then Gm.putM n ⟨n, R.2.1, R.2.2.1, R.2.2.2.1, some hb', R.2.2.2.2⟩ L else L
/-- Which blocks are a map's. -/
def ownA (mb : Nat) (L : List (List UInt8 × Ct)) (k : Nat) : Prop := k = mb ∨ ∃ p ∈ L, p.2.hb = some k
end Go.Proofs.Ytgajmiibkakobaa
