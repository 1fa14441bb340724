import Derived.Test.YtboghanldbmfmabRows
import Derived.WalkKit
import Derived.WalkSpells
import Derived.WalkLawsBesides
namespace Go.Proofs.Ytboghanldbmfmab
open Go.RowKit

set_option maxHeartbeats 1000000 in
theorem right_6 (w : World) :
    Calls Try.prog 8 #[.agg #[.int .i64 16, .int .i64 16, .int .i64 1000, .int .i64 1000, .int .i64 32, .int .i64 16, .int .i64 5, .int .i64 16, .int .i64 64, .int .i64 1024]] w
      fun e w' => e = .returned (.bool false) ∧ Below w.heap.size w w' := by
  go_enter Try.func8, Try.ntmps8
  go_wp2
  go_ret
  exact ⟨rfl, (Below.refl _ _).alloc (Nat.le_refl _) _⟩

set_option maxHeartbeats 1000000 in
theorem right_7 (w : World) :
    Calls Try.prog 8 #[.agg #[.int .i64 16, .int .i64 16, .int .i64 1000, .int .i64 1000, .int .i64 32, .int .i64 16, .int .i64 4, .int .i64 17, .int .i64 64, .int .i64 1024]] w
      fun e w' => e = .returned (.bool false) ∧ Below w.heap.size w w' := by
  go_enter Try.func8, Try.ntmps8
  go_wp2
  go_ret
  exact ⟨rfl, (Below.refl _ _).alloc (Nat.le_refl _) _⟩

set_option maxHeartbeats 1000000 in
theorem right_8 (w : World) :
    Calls Try.prog 8 #[.agg #[.int .i64 16, .int .i64 16, .int .i64 1000, .int .i64 1000, .int .i64 32, .int .i64 16, .int .i64 4, .int .i64 16, .int .i64 65, .int .i64 1024]] w
      fun e w' => e = .returned (.bool false) ∧ Below w.heap.size w w' := by
  go_enter Try.func8, Try.ntmps8
  go_wp2
  go_ret
  exact ⟨rfl, (Below.refl _ _).alloc (Nat.le_refl _) _⟩

set_option maxHeartbeats 1000000 in
theorem right_9 (w : World) :
    Calls Try.prog 8 #[.agg #[.int .i64 16, .int .i64 16, .int .i64 1000, .int .i64 1000, .int .i64 32, .int .i64 16, .int .i64 4, .int .i64 16, .int .i64 64, .int .i64 1025]] w
      fun e w' => e = .returned (.bool false) ∧ Below w.heap.size w w' := by
  go_enter Try.func8, Try.ntmps8
  go_wp2
  go_ret
  exact ⟨rfl, (Below.refl _ _).alloc (Nat.le_refl _) _⟩

set_option maxHeartbeats 1000000 in
theorem right_10 (w : World) :
    Calls Try.prog 8 #[.agg #[.int .i64 1, .int .i64 16, .int .i64 1000, .int .i64 1000, .int .i64 32, .int .i64 16, .int .i64 4, .int .i64 16, .int .i64 64, .int .i64 1024]] w
      fun e w' => e = .returned (.bool false) ∧ Below w.heap.size w w' := by
  go_enter Try.func8, Try.ntmps8
  go_wp2
  go_ret
  exact ⟨rfl, (Below.refl _ _).alloc (Nat.le_refl _) _⟩

set_option maxHeartbeats 1000000 in
theorem right_11 (w : World) :
    Calls Try.prog 8 #[.agg #[.int .i64 16, .int .i64 0, .int .i64 1000, .int .i64 1000, .int .i64 32, .int .i64 16, .int .i64 4, .int .i64 16, .int .i64 64, .int .i64 1024]] w
      fun e w' => e = .returned (.bool false) ∧ Below w.heap.size w w' := by
  go_enter Try.func8, Try.ntmps8
  go_wp2
  go_ret
  exact ⟨rfl, (Below.refl _ _).alloc (Nat.le_refl _) _⟩

end Go.Proofs.Ytboghanldbmfmab
