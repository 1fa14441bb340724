import Derived.Test.YtgnkkpcklljffabDoorRun
namespace Go.Proofs.YtgnkkpcklljffabDoor
open Go.RowKit Go.PlainAid
set_option linter.unusedVariables false
set_option maxRecDepth 100000 in
set_option maxHeartbeats 1600000 in
theorem ledgerAll_law {S : Sens} (limit other : Int) (ao : Option Addr) (N cap : Nat) (os : List OpA) (W : World) (hS : Sen S W.heap.size W) (hN : os.length = N) (hmax : N ≤ maxLen) (hat : 0 < N → ∃ b off, ao = some ⟨b, off, none⟩ ∧ ∀ i o, os[i]? = some o → OpAt W b (off + i * 4) o) :
    Calls Tryd.prog 3 #[.int .i64 limit, .int .i64 other, .slice ao N cap] W fun e W' => e = .returned (.bool true) ∧ Below W.heap.size W W' := by
  have hr := run_any limit other ao N cap os 1 12 W hS hN hmax hat
  clear hat hS hN
  go_enter Tryd.func3, Tryd.ntmps3
  go_wp2_with fail
  refine hr.mono ?_
  rintro e w' ⟨rfl, hb⟩
  have HB : Hid _ := hb
  clear hb hr
  go_wp2_with fail
  go_ret
  exact ⟨rfl, HB.out⟩
end Go.Proofs.YtgnkkpcklljffabDoor
