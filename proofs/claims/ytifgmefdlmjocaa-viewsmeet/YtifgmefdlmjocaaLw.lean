import Derived.Test.YtifgmefdlmjocaaDgt
namespace Go.Proofs.Ytifgmefdlmjocaa
open Go.RowKit Go.PlainAid Go.MapKept
set_option linter.unusedVariables false
set_option linter.unusedSimpArgs false
def wx (x m : Int) : Int := (if x < 0 then -(x + 1) else x) % m
theorem wx_in (x m : Int) (h : 0 < m) : 0 ≤ wx x m ∧ wx x m < m := ⟨Int.emod_nonneg _ (by omega), Int.emod_lt_of_pos _ h⟩
set_option maxRecDepth 100000 in
set_option maxHeartbeats 1600000 in
theorem within_any (x lo hi : Int) (W : World) (h1 : -9223372036854775808 ≤ x) (h2 : x ≤ 9223372036854775807) (h3 : 0 ≤ lo) (h4 : lo ≤ hi) (h5 : hi ≤ 100000) :
    Calls Try.prog 10 #[.int .i64 x, .int .i64 lo, .int .i64 hi] W fun e w' => e = .returned (.int .i64 (lo + wx x (hi - lo + 1))) ∧ w' = W := by
  have hw1 : IntKind.i64.wrap (hi - lo) = hi - lo := by rw [IntKind.wrap_i64]; omega
  have hw2 : IntKind.i64.wrap (hi - lo + 1) = hi - lo + 1 := by rw [IntKind.wrap_i64]; omega
  have hin := wx_in x (hi - lo + 1) (by omega)
  have hnz : hi - lo + 1 ≠ 0 := by omega
  have hnzb : (hi - lo + 1 == 0) = false := by simpa using hnz
  have hw3 : IntKind.i64.wrap (lo + wx x (hi - lo + 1)) = lo + wx x (hi - lo + 1) := by rw [IntKind.wrap_i64]; omega
  by_cases hx : x < 0
  · have hw4 : IntKind.i64.wrap (x + 1) = x + 1 := by rw [IntKind.wrap_i64]; omega
    have hw5 : IntKind.i64.wrap (-(x + 1)) = -(x + 1) := by rw [IntKind.wrap_i64]; omega
    have hw6 : IntKind.i64.wrap ((-(x + 1)).tmod (hi - lo + 1)) = wx x (hi - lo + 1) := by
      have e : (-(x + 1)).tmod (hi - lo + 1) = wx x (hi - lo + 1) := by unfold wx; rw [if_pos hx, Int.tmod_eq_emod_of_nonneg (by omega)]
      rw [e, IntKind.wrap_i64]; omega
    have e9 : -((x + 1).tmod (hi - lo + 1)) = wx x (hi - lo + 1) := by rw [← Int.neg_tmod]; unfold wx; rw [if_pos hx, Int.tmod_eq_emod_of_nonneg (by omega)]
    have HE9 : Hid _ := e9
    have HW3 : Hid _ := hw3
    clear hin e9 hw3 hw6
    go_enter Try.func10, Try.ntmps10
    go_wp2_with fail
    go_ret
    refine ⟨ret_i64 ?_, rfl⟩
    rw [HE9.out]
    have := wx_in x (hi - lo + 1) (by omega)
    unfold wrap64
    omega
  · have hw6 : IntKind.i64.wrap (x.tmod (hi - lo + 1)) = wx x (hi - lo + 1) := by
      have e : x.tmod (hi - lo + 1) = wx x (hi - lo + 1) := by unfold wx; rw [if_neg hx, Int.tmod_eq_emod_of_nonneg (by omega)]
      rw [e, IntKind.wrap_i64]; omega
    have e9 : x % (hi - lo + 1) = wx x (hi - lo + 1) := by unfold wx; rw [if_neg hx]
    have HE9 : Hid _ := e9
    have HW3 : Hid _ := hw3
    clear hin e9 hw3 hw6
    go_enter Try.func10, Try.ntmps10
    go_wp2_with fail
    go_ret
    refine ⟨ret_i64 ?_, rfl⟩
    rw [HE9.out]
    have := wx_in x (hi - lo + 1) (by omega)
    unfold wrap64
    omega
theorem sameRights_any (a b c d : Int) (W : World) : Calls Try.prog 18 #[.agg #[.int .i64 a, .int .i64 b], .agg #[.int .i64 c, .int .i64 d]] W fun e w' => e = .returned (.bool (a == c && b == d)) ∧ Below W.heap.size W w' := by
  cases h1 : a == c <;> cases h2 : b == d
  all_goals
    go_enter Try.func18, Try.ntmps18
    go_wp2_with fail
    go_ret
    exact ⟨rfl, by go_grown⟩
set_option maxRecDepth 100000 in
set_option maxHeartbeats 1600000 in
/-- ref.New. -/
theorem rnew_any (me n : Int) (w : World) (h : newCode me n = 0) :
    Calls Try.prog 35 #[.int .i64 me, .int .i64 n] w fun e w' => e = .returned (.tuple #[.pointer (some ⟨w.heap.size, 0, none⟩), .int .i64 0]) ∧ Below w.heap.size w w' := by
  have h2 : ¬ n < 2 ∧ ¬ 16 < n ∧ ¬ me < 0 ∧ ¬ n ≤ me := by
    unfold newCode at h
    split at h
    · cases h
    · split at h
      · cases h
      · omega
  obtain ⟨a1, a2, a3, a4⟩ := h2
  clear h
  go_enter Try.func35, Try.ntmps35
  go_wp2_with fail
  go_ret2
  exact ⟨rfl, by go_grown⟩
set_option maxRecDepth 100000 in
set_option maxHeartbeats 1600000 in
/-- made: both, at once. -/
theorem made_yes (me n : Int) (w : World) (h : newCode me n = 0) :
    Calls Try.prog 21 #[.int .i64 me, .int .i64 n] w fun e w' => ∃ pb hb mb, e = .returned (.tuple #[.pointer (some ⟨pb, 0, none⟩), .bool true]) ∧ Vw hb mb me n [] w' ∧ w'.cell? ⟨pb, 0, none⟩ = some (.pointer (some ⟨hb, 0, none⟩)) ∧ w.heap.size ≤ hb ∧ w.heap.size ≤ mb ∧ Below w.heap.size w w' := by
  have HN : Hid _ := new_any me n w h
  have HR : Hid (∀ w, _) := fun w => rnew_any me n w h
  clear h
  go_enter Try.func21, Try.ntmps21
  go_wp2_with fail
  refine Calls.mono HN.out ?_
  rintro e w1 ⟨rfl, hV1, hb1, hs1⟩
  have HV1 : Hid _ := hV1
  have HB1 : Hid _ := hb1
  clear hV1 hb1 hs1 HN
  go_wp2_with fail
  refine Calls.mono (HR.out _) ?_
  rintro e w2 ⟨rfl, hb2⟩
  have HV2 : Hid _ := HV1.out.more hb2
  have HB2 : Hid (Below w.heap.size w w2) := HB1.out.trans (hb2.mono HB1.out.size)
  clear hb2 HV1 HB1 HR
  go_wp2_with fail
  go_ret2
  have hg : ∀ (a b : Obj), Below w2.heap.size w2 ((w2.alloc a).alloc b) := fun a b => ((Below.refl _ _).alloc (Nat.le_refl _) _).alloc (by simp) _
  refine ⟨w2.heap.size + 1, w.heap.size + 1, w.heap.size, rfl, HV2.out.more (hg _ _), by simp, by omega, Nat.le_refl _, HB2.out.trans ((hg _ _).mono HB2.out.size)⟩
end Go.Proofs.Ytifgmefdlmjocaa
