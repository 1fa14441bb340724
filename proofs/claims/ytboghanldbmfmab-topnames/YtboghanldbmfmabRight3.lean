import Derived.Test.YtboghanldbmfmabRows
import Derived.WalkKit
import Derived.WalkSpells
import Derived.WalkLawsBesides
namespace Go.Proofs.Ytboghanldbmfmab
open Go.RowKit

set_option maxHeartbeats 1000000 in
theorem right_12 (w : World) :
    Calls Try.prog 8 #[.agg #[.int .i64 16, .int .i64 16, .int .i64 0, .int .i64 1000, .int .i64 32, .int .i64 16, .int .i64 4, .int .i64 16, .int .i64 64, .int .i64 1024]] w
      fun e w' => e = .returned (.bool false) ∧ Below w.heap.size w w' := by
  go_enter Try.func8, Try.ntmps8
  go_wp2
  go_ret
  exact ⟨rfl, (Below.refl _ _).alloc (Nat.le_refl _) _⟩

set_option maxHeartbeats 1000000 in
theorem right_13 (w : World) :
    Calls Try.prog 8 #[.agg #[.int .i64 16, .int .i64 16, .int .i64 1000, .int .i64 0, .int .i64 32, .int .i64 16, .int .i64 4, .int .i64 16, .int .i64 64, .int .i64 1024]] w
      fun e w' => e = .returned (.bool false) ∧ Below w.heap.size w w' := by
  go_enter Try.func8, Try.ntmps8
  go_wp2
  go_ret
  exact ⟨rfl, (Below.refl _ _).alloc (Nat.le_refl _) _⟩

set_option maxHeartbeats 1000000 in
theorem right_14 (w : World) :
    Calls Try.prog 8 #[.agg #[.int .i64 16, .int .i64 16, .int .i64 1000, .int .i64 1000, .int .i64 0, .int .i64 16, .int .i64 4, .int .i64 16, .int .i64 64, .int .i64 1024]] w
      fun e w' => e = .returned (.bool false) ∧ Below w.heap.size w w' := by
  go_enter Try.func8, Try.ntmps8
  go_wp2
  go_ret
  exact ⟨rfl, (Below.refl _ _).alloc (Nat.le_refl _) _⟩

set_option maxHeartbeats 1000000 in
theorem right_15 (w : World) :
    Calls Try.prog 8 #[.agg #[.int .i64 16, .int .i64 16, .int .i64 1000, .int .i64 1000, .int .i64 32, .int .i64 0, .int .i64 4, .int .i64 16, .int .i64 64, .int .i64 1024]] w
      fun e w' => e = .returned (.bool false) ∧ Below w.heap.size w w' := by
  go_enter Try.func8, Try.ntmps8
  go_wp2
  go_ret
  exact ⟨rfl, (Below.refl _ _).alloc (Nat.le_refl _) _⟩

set_option maxHeartbeats 1000000 in
theorem right_16 (w : World) :
    Calls Try.prog 8 #[.agg #[.int .i64 16, .int .i64 16, .int .i64 1000, .int .i64 1000, .int .i64 32, .int .i64 16, .int .i64 0, .int .i64 16, .int .i64 64, .int .i64 1024]] w
      fun e w' => e = .returned (.bool false) ∧ Below w.heap.size w w' := by
  go_enter Try.func8, Try.ntmps8
  go_wp2
  go_ret
  exact ⟨rfl, (Below.refl _ _).alloc (Nat.le_refl _) _⟩

end Go.Proofs.Ytboghanldbmfmab
