import Derived.Test.YtoemddibojpkpaaWholeZ
import Derived.Test.YtoemddibojpkpaaWholeP
namespace Go.Proofs.Ytoemddibojpkpaa
open Go.RowKit Go.PlainAid
set_option linter.unusedVariables false
set_option linter.unusedSimpArgs false
theorem whole_law (total : Int) (htw : IntKind.i64.wrap total = total) (ao : Option Addr) (n c : Nat) (zs : List Int) (W : World) (hl : zs.length = n) (hx : FromI W ao zs) (hn : n * 8 ≤ 140737488355328) :
    Calls Try.prog 4 #[.int .i64 total, .slice ao n c] W fun r w' => r = .returned (.bool true) ∧ Below W.heap.size W w' := by
  by_cases hz : (fairL zs).sum = 0
  · exact whole_Z total htw ao n c zs W hl hx hn hz
  · exact whole_P total htw ao n c zs W hl hx hn hz
end Go.Proofs.Ytoemddibojpkpaa
