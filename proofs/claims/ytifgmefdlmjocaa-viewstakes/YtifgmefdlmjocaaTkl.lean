import Derived.Test.YtifgmefdlmjocaaRn11
import Derived.Test.YtifgmefdlmjocaaRn10
import Derived.Test.YtifgmefdlmjocaaRn01
import Derived.Test.YtifgmefdlmjocaaRn00
namespace Go.Proofs.Ytifgmefdlmjocaa
open Go.RowKit Go.PlainAid Go.MapKept
set_option maxRecDepth 100000 in
theorem run_tk (me peer n : Int) (ao : Option Addr) (Ns cap : Nat) (os : List OpA) (w : World) (hcm : Ns ≤ maxLen) (hr : RunOk (fun _ => True) ao Ns os w) :
    Calls Try.prog 20 #[.int .i64 me, .int .i64 peer, .int .i64 n, .slice ao Ns cap, .int .i64 0, .int .i64 0] w fun e w' => e = .returned (.bool true) ∧ Below w.heap.size w w' := by
  by_cases ha : newCode me n = 0
  · by_cases hb : newCode peer n = 0
    · exact run_11 me peer n ao Ns cap os w hcm hr ha hb
    · exact run_10 me peer n ao Ns cap os w hcm hr ha hb
  · by_cases hb : newCode peer n = 0
    · exact run_01 me peer n ao Ns cap os w hcm hr ha hb
    · exact run_00 me peer n ao Ns cap os w hcm hr ha hb
set_option maxRecDepth 100000 in
theorem viewsTakes_law (me peer n : Int) (ao : Option Addr) (Ns cap : Nat) (os : List OpA) (w : World) (hcm : Ns ≤ maxLen) (hr : RunOk (fun _ => True) ao Ns os w) :
    Calls Try.prog 6 #[.int .i64 me, .int .i64 peer, .int .i64 n, .slice ao Ns cap] w fun e w' => e = .returned (.bool true) ∧ Below w.heap.size w w' := by
  have HH : Hid _ := run_tk me peer n ao Ns cap os w hcm hr
  clear hr hcm
  go_enter Try.func6, Try.ntmps6
  go_wp2_with fail
  refine Calls.mono HH.out ?_
  rintro e w1 ⟨rfl, hb1⟩
  go_wp2_with fail
  go_ret
  exact ⟨rfl, hb1⟩
end Go.Proofs.Ytifgmefdlmjocaa
