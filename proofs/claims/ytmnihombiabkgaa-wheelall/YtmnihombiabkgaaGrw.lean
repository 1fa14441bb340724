import Derived.Test.YtmnihombiabkgaaOrdT
import Derived.Shelf.Spec.SlicesGrow
namespace Go.Proofs.Ytmnihombiabkgaa
open Go.RowKit Go.PlainAid Go.MapKept Go.Shelf
set_option linter.unusedVariables false
set_option linter.unusedSimpArgs false
def grow_ren : Go.Shelf.Ren := ⟨fun | 4 => 34 | n => n, fun | 22 => 33 | 25 => 50 | n => n, fun | n => n⟩
theorem growL : Go.Proofs.Lays8.n4 Try.prog grow_ren := {
  mixed := by kernel_rfl
  f4 := ⟨Try.f34.name, by decide, Try.func34.trans (congrArg some (by kernel_rfl))⟩
  t0 := Try.underlying0
  a0 := Try.isAgg0
  z0 := Try.sizeOf0
  v0 := Try.zeroValue0
  t3 := Try.underlying3
  a3 := Try.isAgg3
  z3 := Try.sizeOf3
  v3 := Try.zeroValue3
  t4 := Try.underlying4
  a4 := Try.isAgg4
  z4 := Try.sizeOf4
  v4 := Try.zeroValue4
  t9 := Try.underlying9
  a9 := Try.isAgg9
  z9 := Try.sizeOf9
  v9 := Try.zeroValue9
  t20 := Try.underlying20
  a20 := Try.isAgg20
  z20 := Try.sizeOf20
  v20 := Try.zeroValue20
  t22 := Try.underlying33
  a22 := Try.isAgg33
  z22 := Try.sizeOf33
  v22 := Try.zeroValue33 }
/-- Room for so many more behind nothing: a new row, of length 0. -/
theorem grow_any (n : Nat) (hn : n ≤ 1000000) (w : World) : Calls Try.prog 34 #[.slice none 0 0, .int .i64 (n : Int)] w fun e w' => ∃ v, e = .returned v ∧ w'.ownsRow w.heap.size 50 4 v 0 [] ∧ Below w.heap.size w w' := by
  by_cases h0 : n = 0
  · subst h0
    exact (grow_0 w).mono fun e w' ⟨h1, h2⟩ => ⟨_, h1, World.ownsRow_nil _ _ _ _, by rw [h2]; exact Below.refl _ _⟩
  · obtain ⟨i0, hi, hz0, hz1, hz2⟩ := info_parts info50
    have hc := Any8.slices_Grow_grow growL i0 _ hi hz0 (by rw [hz1]; decide) none 0 0 n [] w (Nat.le_refl _) (by omega) (by rw [hz2]; omega) (by omega) (by simp) (fun _ => rfl) (fun a h => by cases h)
    refine Calls.mono hc ?_
    rintro e w' ⟨rfl, rfl⟩
    refine ⟨_, rfl, ⟨by simp, Or.inr ⟨w.heap.size, _, _, rfl, Nat.le_refl _, heap_alloc_new w.drew _, Nat.zero_le _, ?_, ?_, by simp⟩⟩, (Below.drew (Below.refl _ _)).alloc (Nat.le_refl _) _⟩
    · exact grownCap_le_maxLen _ _ _ _ (by unfold maxLen; omega)
    · have := grownCap_ge w (0 + n) 0 (grow_ren.t 25)
      simp [Builtin.zeroCells, Value.cells]
      simp at this
      omega
/-- All rows of the first k slots, one behind the other. -/
def catT (u : Int) (A : List Tm) : Nat → List Tm
  | 0 => []
  | k + 1 => catT u A k ++ slotOf u A k
theorem filter_or (A : List Tm) (p q : Tm → Bool) (h : ∀ t, p t = true → q t = false) : (A.filter p ++ A.filter q).Perm (A.filter fun t => p t || q t) := by
  induction A with
  | nil => exact List.Perm.refl _
  | cons a A ih =>
    by_cases h1 : p a = true
    · have h2 := h a h1
      simp only [List.filter_cons, h1, h2, if_true, Bool.true_or]
      exact List.Perm.cons a ih
    · have h1' : p a = false := by simpa using h1
      by_cases h2 : q a = true
      · simp only [List.filter_cons, h1', h2, if_true, Bool.false_or]
        exact List.perm_middle.trans (List.Perm.cons a ih)
      · have h2' : q a = false := by simpa using h2
        simp only [List.filter_cons, h1', h2', Bool.false_or]
        exact ih
theorem cat_perm (u : Int) (A : List Tm) : ∀ k, (catT u A k).Perm (A.filter fun t => decide (pl u t < k))
  | 0 => by
    have : A.filter (fun t => decide (pl u t < 0)) = [] := List.filter_eq_nil_iff.2 (fun t _ => by simp)
    rw [this]
    exact List.Perm.refl _
  | k + 1 => by
    rw [catT]
    refine ((cat_perm u A k).append (List.Perm.refl _)).trans ?_
    unfold slotOf
    refine (filter_or A _ _ (fun t h => ?_)).trans ?_
    · simp only [decide_eq_true_eq] at h
      simp
      omega
    · refine List.Perm.of_eq (List.filter_congr (fun t _ => ?_))
      by_cases h1 : pl u t < k
      · simp [h1]; omega
      · by_cases h2 : pl u t = k
        · simp [h1, h2]
        · have : ¬ pl u t < k + 1 := by omega
          simp [h1, h2, this]
theorem cat_all {u : Int} {n : Nat} (hu : u = (n : Int)) (h1 : 1 ≤ n) (A : List Tm) : (catT u A n).Perm A := by
  have h := cat_perm u A n
  have e : A.filter (fun t => decide (pl u t < n)) = A := List.filter_eq_self.2 (fun t _ => by
    have h2 := Int.emod_lt_of_pos t.due (show 0 < u by omega)
    have h3 := Int.emod_nonneg t.due (show u ≠ 0 by omega)
    simp only [decide_eq_true_eq]
    unfold pl
    omega)
  rwa [e] at h
theorem cat_len (u : Int) (A : List Tm) (k : Nat) : (catT u A k).length ≤ A.length := by
  rw [(cat_perm u A k).length_eq]
  exact List.length_filter_le _ _
set_option maxRecDepth 100000 in
set_option maxHeartbeats 3200000 in
theorem concat_any {base whb n : Nat} {u : Int} {A : List Tm} (w : World) (hn : n ≤ 64) (hA : A.length ≤ 1000000) (hc : ∀ i, i < n → ∃ v, w.cell? ⟨whb, i, none⟩ = some v ∧ w.ownsRow base 50 4 v (slotOf u A i).length (flatT (slotOf u A i))) :
    Calls Try.prog 24 #[.slice (some ⟨whb, 0, none⟩) n 64] w fun e w' => ∃ v, e = .returned v ∧ w'.ownsRow w.heap.size 50 4 v (catT u A n).length (flatT (catT u A n)) ∧ Below w.heap.size w w' := by
  have HC : Hid (∀ i, i < n → ∃ v, w.cell? ⟨whb, i, none⟩ = some v ∧ w.ownsRow base 50 4 v (slotOf u A i).length (flatT (slotOf u A i))) := hc
  have HLE : Hid (∀ k, (catT u A k).length ≤ 1000000) := fun k => Nat.le_trans (cat_len u A k) hA
  clear hc hA
  go_enter Try.func24, Try.ntmps24
  go_wp2_with fail
  go_loopw [11, 3, 5] (fun s11 s3 _ wr => ∃ k q : Nat, k ≤ n ∧ s11 = .int .i64 k ∧ s3 = .int .i64 (q : Int) ∧ Hid (q = (catT u A k).length) ∧ wr = w) (fun s11 _ _ _ => n - (intOf s11).toNat)
  case atStart => exact ⟨0, 0, by omega, rfl, rfl, rfl, rfl⟩
  case round =>
    obtain ⟨k, q, hk, rfl, rfl, HQ, hwr⟩ := hrel
    replace hwr := hwr.symm
    subst hwr
    by_cases hlt : k < n
    · obtain ⟨v, hv, hr⟩ := HC.out k hlt
      obtain ⟨ao, cap, rfl, _⟩ := own_slice hr
      have HQ1 : Hid (q + (slotOf u A k).length = (catT u A (k + 1)).length) := show q + (slotOf u A k).length = (catT u A (k + 1)).length from by rw [catT, List.length_append, HQ.out]
      have hq1 := HLE.out (k + 1)
      rw [← HQ1.out] at hq1
      generalize (slotOf u A k).length = sl at *
      clear hr
      go_wp2_with fail
      go_roundw
      case rel => exact ⟨k + 1, q + sl, by omega, by go_num, by go_num, HQ1, by first | rfl | trivial⟩
      case measure => simp [intOf]; omega
    · obtain rfl : k = n := by omega
      have hq1 := HLE.out k
      rw [← HQ.out] at hq1
      have HGR : Hid _ := grow_any q hq1 w
      go_wp2_with fail
      refine Calls.mono HGR.out ?_
      rintro e w1 ⟨v1, rfl, hr1, hb1⟩
      have HR1 : Hid (w1.ownsRow w.heap.size 50 4 v1 (catT u A 0).length (flatT (catT u A 0))) := hr1
      have HB1 : Hid (Below w.heap.size w w1) := hb1
      clear hr1 hb1 HGR
      go_wp2_with fail
      go_loopw [27, 6, 8] (fun s27 s6 _ wr => ∃ vd, vd = s6 ∧ ∃ j : Nat, j ≤ k ∧ s27 = .int .i64 j ∧ wr.ownsRow w.heap.size 50 4 vd (catT u A j).length (flatT (catT u A j)) ∧ Below w.heap.size w wr) (fun s27 _ _ _ => k - (intOf s27).toNat)
      case atStart => exact ⟨_, rfl, 0, by omega, rfl, HR1.out, HB1.out⟩
      case round =>
        clear HR1 HB1
        obtain ⟨vd, rfl, j, hj, rfl, hrow, hbe⟩ := hrel
        by_cases hlt2 : j < k
        · obtain ⟨v, hv, hr⟩ := HC.out j hlt2
          have hv' : wr.cell? ⟨whb, j, none⟩ = some v := (hbe.cell (p := ⟨whb, j, none⟩) (World.block_lt_of_cell? w _ hv)).trans hv
          have hr' : wr.ownsRow base 50 4 v (slotOf u A j).length (flatT (slotOf u A j)) := ownsRow_same hr (fun g e => hbe.block g (ownsRow_lt hr e).2)
          obtain ⟨ao, cap, hvv, hcc⟩ := own_slice hr
          subst hvv
          have hle := HLE.out (j + 1)
          rw [catT, List.length_append] at hle
          obtain ⟨v5, w5, hr5, ho5, hg5⟩ := app_rows 33 50 (.agg #[.int .i64 0, .int .i64 0, .int .i64 0, .int .i64 0]) 4 32 Try.underlying33 info50 rfl (by decide) (by decide) hrow (ao := ao) (m := (slotOf u A j).length) (cap := cap) (ys := flatT (slotOf u A j)) (by rw [flatT_len]) (fun e => by
            subst e
            rcases hr.2 with ⟨h1, h2⟩ | ⟨g2, c, cur, h1, _⟩
            · simp only [Value.slice.injEq] at h1
              exact ⟨h2, h1.2.2⟩
            · cases h1) (fun ad had i x hx => by
            subst had
            rcases hr'.2 with ⟨h1, h2⟩ | ⟨g2, c, cur, h1, _⟩
            · cases h1
            · cases h1
              exact hr'.cells (g := g2) rfl i x hx) (flatT_one _) (by omega) hbe.size
          have HHR : Hid (∀ ty, (Builtin.append_ #[33, 33] ty #[vd, .slice ao (slotOf u A j).length cap]).run Try.prog wr = .ok v5 w5) := hr5
          have HR5 : Hid (w5.ownsRow w.heap.size 50 4 v5 (catT u A (j + 1)).length (flatT (catT u A (j + 1)))) := show World.ownsRow _ _ _ _ _ _ _ from by rw [catT, List.length_append, flatT_app]; exact ho5
          have HB5 : Hid (Below w.heap.size w w5) := hbe.trans (hg5.below (fun q hq => (ownsRow_lt hrow hq).1) hbe.size)
          generalize (slotOf u A j).length = sl at *
          clear hrow hbe hr hr' hv hr5 ho5 hg5 hcc hle
          go_wp2_with (at_builtin; refine wpList_runs rfl _ _ 33 rfl rfl rfl HHR.out ?_)
          go_roundw
          case rel => exact ⟨_, rfl, j + 1, by omega, by go_num, HR5.out, HB5.out⟩
          case measure => simp [intOf]; omega
        · obtain rfl : j = k := by omega
          have HRW : Hid _ := hrow
          have HBE : Hid (Below w.heap.size w wr) := hbe
          clear hrow hbe
          go_wp2_with fail
          go_ret
          exact ⟨_, rfl, HRW.out, HBE.out⟩
end Go.Proofs.Ytmnihombiabkgaa
