import Derived.Test.YtifgmefdlmjocaaRs11
import Derived.Test.YtifgmefdlmjocaaRs10
import Derived.Test.YtifgmefdlmjocaaRs01
import Derived.Test.YtifgmefdlmjocaaRs00
namespace Go.Proofs.Ytifgmefdlmjocaa
open Go.RowKit Go.PlainAid Go.MapKept
set_option maxRecDepth 100000 in
theorem runs_any (me peer n lo hi : Int) (ao : Option Addr) (Ns cap : Nat) (os : List OpA) (w : World) (hcm : Ns ≤ maxLen) (hr : RunOk (fun _ => True) ao Ns os w) :
    Calls Try.prog 20 #[.int .i64 me, .int .i64 peer, .int .i64 n, .slice ao Ns cap, .int .i64 lo, .int .i64 hi] w fun e w' => e = .returned (.bool true) ∧ Below w.heap.size w w' := by
  by_cases ha : newCode me n = 0
  · by_cases hb : newCode peer n = 0
    · exact runs_11 me peer n lo hi ao Ns cap os w hcm hr ha hb
    · exact runs_10 me peer n lo hi ao Ns cap os w hcm hr ha hb
  · by_cases hb : newCode peer n = 0
    · exact runs_01 me peer n lo hi ao Ns cap os w hcm hr ha hb
    · exact runs_00 me peer n lo hi ao Ns cap os w hcm hr ha hb
end Go.Proofs.Ytifgmefdlmjocaa
namespace Go.Proofs.Ytifgmefdlmjocaa
open Go.RowKit Go.PlainAid Go.MapKept
set_option maxRecDepth 100000 in
theorem viewsKnows_law (me peer n : Int) (ao : Option Addr) (Ns cap : Nat) (os : List OpA) (w : World) (hcm : Ns ≤ maxLen) (hr : RunOk (fun _ => True) ao Ns os w) :
    Calls Try.prog 8 #[.int .i64 me, .int .i64 peer, .int .i64 n, .slice ao Ns cap] w fun e w' => e = .returned (.bool true) ∧ Below w.heap.size w w' := by
  have HH : Hid _ := runs_any me peer n 4 5 ao Ns cap os w hcm hr
  clear hr hcm
  go_enter Try.func8, Try.ntmps8
  go_wp2_with fail
  refine Calls.mono HH.out ?_
  rintro e w1 ⟨rfl, hb1⟩
  go_wp2_with fail
  go_ret
  exact ⟨rfl, hb1⟩
end Go.Proofs.Ytifgmefdlmjocaa
