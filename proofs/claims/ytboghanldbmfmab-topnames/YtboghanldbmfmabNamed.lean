import Derived.Test.YtboghanldbmfmabRows
import Derived.WalkKit
import Derived.WalkSpells
import Derived.WalkLawsBesides
import Derived.BigQuiet
import Derived.Deep.QuietTactic
namespace Go.Proofs.Ytboghanldbmfmab
open Go.RowKit

set_option maxHeartbeats 400000 in
theorem named_any (b n cap : Nat) (xs : List Int) (w : World) (hn : n ≤ 1000) (h0 : 0 < n) 
    (hc0 : ∀ k, k < n → w.cell? ⟨b, k * 2, none⟩ = some (.int .i64 (xs.getD k 0)))
    (hc1 : ∀ k, k < n → w.cell? ⟨b, k * 2 + 1, none⟩ = some (.int .i64 (xs.getD k 0))) :
    Calls Try.prog 4 #[.slice (some ⟨b, 0, none⟩) n cap] w fun e w' => e = .returned (.bool true) ∧ ∃ q, w' = w.drewN q := by
  go_enter Try.func4, Try.ntmps4
  go_wp2
  go_loopw [3] (fun i wr => ∃ k : Nat, k ≤ n ∧ i = .int .i64 k ∧ ∃ q, wr = w.drewN q) (fun i _ => n - (intOf i).toNat)
  case atStart => exact ⟨0, Nat.zero_le _, rfl, 0, rfl⟩
  case round =>
    obtain ⟨k, hk, rfl, q, rfl⟩ := hrel
    by_cases hlt : k < n
    · have c0 := hc0 k hlt
      have c1 := hc1 k hlt
      clear hc0 hc1
      go_wp2
      go_quiet (fail)
      go_wp2
      go_roundw
      case rel => exact ⟨k + 1, by omega, by go_num, _, rfl⟩
      case measure => simp [intOf]; omega
    · go_wp2
      go_ret
      exact ⟨rfl, _, rfl⟩
end Go.Proofs.Ytboghanldbmfmab
