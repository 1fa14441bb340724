import Derived.Test.YtehjdkdoalmaeaaHolds
namespace Go.Proofs.Ytehjdkdoalmaeaa
open Go.RowKit Go.PlainAid
set_option linter.unusedVariables false
set_option maxRecDepth 100000 in
set_option maxHeartbeats 800000 in
theorem letters_law (room : Int) (ao : Option Addr) (N cap : Nat) (os : List OpA) (W : World) (hN : os.length = N) (hmax : N ≤ maxLen) (hok : ∀ o ∈ os, ArgOk W o.l) (hat : 0 < N → ∃ b off, ao = some ⟨b, off, none⟩ ∧ ∀ i o, os[i]? = some o → OpAt W b (off + i * 7) o) :
    Calls Try.prog 7 #[.int .i64 room, .slice ao N cap] W fun e W' => e = .returned (.bool true) ∧ Below W.heap.size W W' := by
  have hh := holds_any room ao N cap os W hN hmax hok hat
  clear hat hok
  go_enter Try.func7, Try.ntmps7
  go_wp2_with (first | (go_at_call 26; refine hh.mono ?_; rintro e26 w26 ⟨rfl, hb⟩) | fail)
  go_ret
  exact ⟨rfl, hb⟩
end Go.Proofs.Ytehjdkdoalmaeaa
