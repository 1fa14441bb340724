import Derived.Test.YtnphkmdanicemaaGreatDoorVAsk
namespace Go.Proofs.YtnphkmdanicemaaGreatDoor
set_option linter.unusedVariables false
/-- Every place is looked at. -/
theorem place_all (me : Int) (n j : Nat) (hj : j < n) : ∃ k, k < n ∧ placeOf me n k = j := by
  have hf := fromOf_le me n
  unfold placeOf
  generalize fromOf me n = f at *
  by_cases h : f ≤ j
  · exact ⟨j - f, by omega, by rw [show f + (j - f) = j by omega]; exact Nat.mod_eq_of_lt hj⟩
  · exact ⟨j + n - f, by omega, by rw [show f + (j + n - f) = j + n by omega, Nat.add_mod_right]; exact Nat.mod_eq_of_lt hj⟩
/-- What is found behind k rounds. -/
def AskIs (me : Int) (zs : List Int) (k : Nat) (acc : Int × Int) : Prop :=
  (acc = (-1, 0) ∧ ∀ i, i < k → (placeOf me zs.length i : Int) ≠ me → at0 zs (placeOf me zs.length i) ≤ 0) ∨
    ∃ p : Nat, p < zs.length ∧ acc = ((p : Int), at0 zs p) ∧ (p : Int) ≠ me ∧ 0 < at0 zs p ∧ ∀ i, i < k → (placeOf me zs.length i : Int) ≠ me → at0 zs (placeOf me zs.length i) ≤ at0 zs p
theorem ask_is (me : Int) (zs : List Int) (k : Nat) (hk : k ≤ zs.length) : AskIs me zs k (askTo me zs k) := by
  induction k with
  | zero => exact .inl ⟨rfl, fun i h => by omega⟩
  | succ k ih =>
    have hp : placeOf me zs.length k < zs.length := placeOf_lt (by omega)
    rw [show askTo me zs (k + 1) = askStep me zs (askTo me zs k) (placeOf me zs.length k) from rfl]
    have hstep : ∀ (b : Int), (((placeOf me zs.length k : Nat) : Int) ≠ me → at0 zs (placeOf me zs.length k) ≤ b) → (∀ i, i < k → (placeOf me zs.length i : Int) ≠ me → at0 zs (placeOf me zs.length i) ≤ b) → ∀ i, i < k + 1 → (placeOf me zs.length i : Int) ≠ me → at0 zs (placeOf me zs.length i) ≤ b := by
      intro b h1 h2 i hi hne
      by_cases e : i = k
      · subst e; exact h1 hne
      · exact h2 i (by omega) hne
    rcases ih (by omega) with ⟨ha, hb⟩ | ⟨p, hpl, ha, hpm, hp0, hb⟩
    · rw [ha]
      by_cases hm : ((placeOf me zs.length k : Nat) : Int) = me
      · rw [askStep_me hm]
        exact .inl ⟨rfl, hstep 0 (fun h => absurd hm h) hb⟩
      · by_cases hz : (0 : Int) < at0 zs (placeOf me zs.length k)
        · rw [askStep_yes hm hz]
          refine .inr ⟨_, hp, rfl, hm, hz, hstep _ (fun _ => Int.le_refl _) (fun i hi hne => ?_)⟩
          have := hb i hi hne
          omega
        · rw [askStep_le hz]
          exact .inl ⟨rfl, hstep 0 (fun _ => by omega) hb⟩
    · rw [ha]
      by_cases hm : ((placeOf me zs.length k : Nat) : Int) = me
      · rw [askStep_me hm]
        exact .inr ⟨p, hpl, rfl, hpm, hp0, hstep _ (fun h => absurd hm h) hb⟩
      · by_cases hz : at0 zs p < at0 zs (placeOf me zs.length k)
        · rw [askStep_yes hm hz]
          refine .inr ⟨_, hp, rfl, hm, by omega, hstep _ (fun _ => Int.le_refl _) (fun i hi hne => ?_)⟩
          have := hb i hi hne
          omega
        · rw [askStep_le hz]
          exact .inr ⟨p, hpl, rfl, hpm, hp0, hstep _ (fun _ => by omega) hb⟩
/-- Whom Ask finds. -/
theorem ask_found (me : Int) (zs : List Int) : ((askTo me zs zs.length).1 = -1 ∧ ∀ j, j < zs.length → (j : Int) ≠ me → at0 zs j ≤ 0) ∨
    ∃ p : Nat, p < zs.length ∧ (askTo me zs zs.length).1 = (p : Int) ∧ (p : Int) ≠ me ∧ 0 < at0 zs p ∧ ∀ j, j < zs.length → (j : Int) ≠ me → at0 zs j ≤ at0 zs p := by
  rcases ask_is me zs zs.length (Nat.le_refl _) with ⟨ha, hb⟩ | ⟨p, hpl, ha, hpm, hp0, hb⟩
  · refine .inl ⟨by rw [ha], fun j hj hne => ?_⟩
    obtain ⟨k, hk, rfl⟩ := place_all me zs.length j hj
    exact hb k hk hne
  · refine .inr ⟨p, hpl, by rw [ha], hpm, hp0, fun j hj hne => ?_⟩
    obtain ⟨k, hk, rfl⟩ := place_all me zs.length j hj
    exact hb k hk hne
end Go.Proofs.YtnphkmdanicemaaGreatDoor
