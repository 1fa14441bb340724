import Derived.Test.YtmnihombiabkgaaNw
import Derived.Test.YtmnihombiabkgaaMix2
import Derived.Deep.Cut
namespace Go.Proofs.Ytmnihombiabkgaa
open Go.RowKit Go.PlainAid Go.MapKept
set_option linter.unusedVariables false
set_option linter.unusedSimpArgs false
set_option maxRecDepth 100000 in
theorem isNaN_any (x : Int) (w : World) : Calls Try.prog 44 #[.int .i64 x] w fun r w' => r = .returned (.bool false) ∧ w' = w := by
  go_enter Try.func44, Try.ntmps44
  go_wp2
  go_ret
  exact ⟨by simp, rfl⟩
def cmpI (x y : Int) : Int := if x < y then -1 else if x > y then 1 else 0
set_option maxRecDepth 100000 in
theorem compare_any (x y : Int) (w : World) : Calls Try.prog 33 #[.int .i64 x, .int .i64 y] w fun r w' => r = .returned (.int .i64 (cmpI x y)) ∧ w' = w := by
  by_cases h1 : x < y
  · have e : cmpI x y = -1 := by simp [cmpI, h1]
    rw [e]
    go_enter Try.func33, Try.ntmps33
    go_wp2_with (go_at_call 44; refine (isNaN_any _ _).mono ?_; rintro e w' ⟨rfl, rfl⟩)
    go_ret
    exact ⟨rfl, rfl⟩
  · by_cases h2 : y < x
    · have e : cmpI x y = 1 := by simp [cmpI, h1, h2]
      rw [e]
      go_enter Try.func33, Try.ntmps33
      go_wp2_with (go_at_call 44; refine (isNaN_any _ _).mono ?_; rintro e w' ⟨rfl, rfl⟩)
      go_ret
      exact ⟨rfl, rfl⟩
    · have e : cmpI x y = 0 := by simp [cmpI, h1, h2]
      rw [e]
      go_enter Try.func33, Try.ntmps33
      go_wp2_with (go_at_call 44; refine (isNaN_any _ _).mono ?_; rintro e w' ⟨rfl, rfl⟩)
      go_ret
      exact ⟨rfl, rfl⟩
/-- A timer as a value. -/
def Tm.v (t : Tm) : Value := .agg #[.int .i64 t.due, .int .i64 t.num, .int .i64 t.kind, .int .i64 t.id]
set_option maxRecDepth 100000 in
set_option maxHeartbeats 800000 in
theorem byNumber_any (t : Tm) (n : Int) (w : World) : Calls Try.prog 22 #[.agg #[.int .i64 t.due, .int .i64 t.num, .int .i64 t.kind, .int .i64 t.id], .int .i64 n] w fun r w' => r = .returned (.int .i64 (cmpI t.num n)) ∧ Below w.heap.size w w' := by
  obtain ⟨X, hX⟩ : ∃ X, X = w.alloc (.cells #[.int .i64 t.due, .int .i64 t.num, .int .i64 t.kind, .int .i64 t.id] 50) := ⟨_, rfl⟩
  obtain ⟨bx, hbx⟩ : ∃ bx, bx = w.heap.size := ⟨_, rfl⟩
  have c1 : X.cell? ⟨bx, 1, none⟩ = some (.int .i64 t.num) := by
    have hB : Blk X bx #[.int .i64 t.due, .int .i64 t.num, .int .i64 t.kind, .int .i64 t.id] 50 := by rw [hX, hbx]; exact heap_alloc_new w _
    exact hB.cell 1
  have HB : Hid (Below w.heap.size w X) := show Below w.heap.size w X from by rw [hX]; exact (Below.refl _ _).alloc (Nat.le_refl _) _
  go_enter Try.func22, Try.ntmps22
  go_upto_region 1 with fail
  rw [← hX, ← hbx]
  clear hX hbx
  go_wp2_with fail
  refine Calls.mono (compare_any _ _ _) ?_
  rintro e w' ⟨rfl, rfl⟩
  go_wp2_with fail
  go_ret
  exact ⟨rfl, HB.out⟩
set_option maxRecDepth 100000 in
set_option maxHeartbeats 800000 in
theorem isDue_any (t : Tm) (whb : Nat) (now : Int) (w : World) (c : w.cell? ⟨whb, 66, none⟩ = some (.int .i64 now)) : Calls Try.prog 31 #[.pointer (some ⟨whb, 0, none⟩), .agg #[.int .i64 t.due, .int .i64 t.num, .int .i64 t.kind, .int .i64 t.id]] w fun r w' => r = .returned (.bool (decide (t.due = now))) ∧ Below w.heap.size w w' := by
  obtain ⟨X, hX⟩ : ∃ X, X = w.alloc (.cells #[.int .i64 t.due, .int .i64 t.num, .int .i64 t.kind, .int .i64 t.id] 50) := ⟨_, rfl⟩
  obtain ⟨bx, hbx⟩ : ∃ bx, bx = w.heap.size := ⟨_, rfl⟩
  have c1 : X.cell? ⟨bx, 0, none⟩ = some (.int .i64 t.due) := by
    have hB : Blk X bx #[.int .i64 t.due, .int .i64 t.num, .int .i64 t.kind, .int .i64 t.id] 50 := by rw [hX, hbx]; exact heap_alloc_new w _
    exact hB.cell 0
  have HB : Hid (Below w.heap.size w X) := show Below w.heap.size w X from by rw [hX]; exact (Below.refl _ _).alloc (Nat.le_refl _) _
  have c2 : X.cell? ⟨whb, 66, none⟩ = some (.int .i64 now) := (HB.out.cell (p := ⟨whb, 66, none⟩) (World.block_lt_of_cell? w _ c)).trans c
  clear c
  go_enter Try.func31, Try.ntmps31
  go_upto_region 1 with fail
  rw [← hX, ← hbx]
  clear hX hbx
  go_wp2_with fail
  go_quiet (fail)
  go_wp2_with fail
  go_ret
  exact ⟨rfl, below_drewN HB.out _⟩
end Go.Proofs.Ytmnihombiabkgaa
