import Derived.Test.YtgohjkamikpdcaaTh0
namespace Go.Proofs.Ytgohjkamikpdcaa
set_option linter.unusedVariables false
set_option linter.unusedSimpArgs false
/-- What rounding down gives, and what it leaves. -/
def parts0 (total : Int) (cs : List Int) : List Int := cs.map fun z => total * z / cs.sum
def rests0 (total : Int) (cs : List Int) : List Int := cs.map fun z => total * z % cs.sum
def leftOf (total : Int) (cs : List Int) : Int := total - (parts0 total cs).sum
theorem sum_split (total S : Int) (cs : List Int) : (cs.map fun z => total * z / S).sum * S + (cs.map fun z => total * z % S).sum = total * cs.sum := by
  induction cs with
  | nil => simp
  | cons c cs ih =>
    simp only [List.map_cons, List.sum_cons, Int.add_mul, Int.mul_add]
    have := Int.mul_ediv_add_emod (total * c) S
    rw [Int.mul_comm S] at this
    omega
theorem sum_rest (total : Int) (cs : List Int) : (rests0 total cs).sum = leftOf total cs * cs.sum := by
  have := sum_split total cs.sum cs
  unfold leftOf parts0 rests0
  rw [Int.sub_mul]
  omega
theorem sum_bound (l : List Int) (B : Int) (h : ∀ z ∈ l, 0 ≤ z ∧ z ≤ B) : 0 ≤ l.sum ∧ l.sum ≤ l.length * B := by
  induction l with
  | nil => simp
  | cons a l ih =>
    have h1 := ih fun z hz => h z (by simp [hz])
    have h2 := h a (by simp)
    simp only [List.sum_cons, List.length_cons, Int.natCast_add, Int.natCast_one, Int.add_mul]
    omega
theorem rest_range {total S : Int} (hS : 0 < S) (z : Int) : 0 ≤ total * z % S ∧ total * z % S ≤ S - 1 := by
  have h1 := Int.emod_nonneg (total * z) (show S ≠ 0 by omega)
  have h2 := Int.emod_lt_of_pos (total * z) hS
  omega
theorem left_bounds (total : Int) (cs : List Int) (hS : 0 < cs.sum) : 0 ≤ leftOf total cs ∧ leftOf total cs ≤ cs.length := by
  have h1 := sum_rest total cs
  have h2 := sum_bound (rests0 total cs) (cs.sum - 1) (fun z hz => by
    unfold rests0 at hz
    rw [List.mem_map] at hz
    obtain ⟨c, _, rfl⟩ := hz
    exact rest_range hS c)
  rw [h1] at h2
  have hl : (rests0 total cs).length = cs.length := by simp [rests0]
  rw [hl] at h2
  refine ⟨?_, ?_⟩
  · apply Classical.byContradiction
    intro h
    have := Int.mul_lt_mul_of_pos_right (show leftOf total cs < 0 by omega) hS
    omega
  · apply Classical.byContradiction
    intro h
    have := Int.mul_le_mul_of_nonneg_right (show (cs.length : Int) + 1 ≤ leftOf total cs by omega) (Int.le_of_lt hS)
    rw [Int.add_mul] at this
    rw [Int.mul_sub] at h2
    omega
theorem sum_take_succ (l : List Int) (k : Nat) (h : k < l.length) : (l.take (k + 1)).sum = (l.take k).sum + at0 l k := by
  rw [take_snoc l k h, List.sum_append, at0_lt h]
  simp
theorem sum_pos {l : List Int} (h : ∀ z ∈ l, 0 ≤ z) {j : Nat} (hj : j < l.length) (h1 : 0 < at0 l j) : 0 < l.sum := by
  induction l generalizing j with
  | nil => simp at hj
  | cons a l ih =>
    have ha := h a (by simp)
    have hs : 0 ≤ l.sum := by
      have : ∀ l : List Int, (∀ z ∈ l, 0 ≤ z) → 0 ≤ l.sum := by
        intro l
        induction l with
        | nil => simp
        | cons a l ih => intro h; have := h a (by simp); have := ih fun z hz => h z (by simp [hz]); simp only [List.sum_cons]; omega
      exact this l fun z hz => h z (by simp [hz])
    simp only [List.sum_cons]
    cases j with
    | zero => simp [at0] at h1; omega
    | succ j =>
      have := ih (fun z hz => h z (by simp [hz])) (j := j) (by simpa using hj) (by simpa [at0] using h1)
      omega
/-- The first k numbers turned by f, the rest 0. -/
def mapTo (f : Int → Int) (k : Nat) (cs : List Int) : List Int := (cs.take k).map f ++ List.replicate (cs.length - k) 0
theorem mapTo_zero (f : Int → Int) (cs : List Int) : mapTo f 0 cs = List.replicate cs.length 0 := by simp [mapTo]
theorem mapTo_all (f : Int → Int) (cs : List Int) {n : Nat} (h : cs.length = n) : mapTo f n cs = cs.map f := by subst h; simp [mapTo]
theorem mapTo_set {f : Int → Int} {k : Nat} {cs : List Int} (h : k < cs.length) : (mapTo f k cs).set k (f (at0 cs k)) = mapTo f (k + 1) cs := by
  unfold mapTo
  rw [List.set_append_right _ _ (by simp; omega), take_snoc cs k h, at0_lt h]
  obtain ⟨m, hm⟩ : ∃ m, cs.length = k + m + 1 := ⟨cs.length - k - 1, by omega⟩
  rw [hm]
  simp only [List.length_map, List.length_take, hm, List.map_append, List.map_cons, List.map_nil]
  rw [show k - min k (k + m + 1) = 0 by omega, show k + m + 1 - k = m + 1 by omega, show k + m + 1 - (k + 1) = m by omega, List.replicate_succ, List.set_cons_zero]
  simp
theorem mapTo_at {f : Int → Int} {k : Nat} {cs : List Int} (h : k < cs.length) : at0 (mapTo f (k + 1) cs) k = f (at0 cs k) := by
  rw [← mapTo_set h, at0_set (by simp [mapTo]; omega), if_pos rfl]
end Go.Proofs.Ytgohjkamikpdcaa
