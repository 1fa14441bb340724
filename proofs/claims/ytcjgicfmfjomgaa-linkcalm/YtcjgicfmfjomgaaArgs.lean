import Derived.Test.YtcjgicfmfjomgaaRows
import Derived.Test.YtcjgicfmfjomgaaBase
import Derived.WalkKit
import Derived.ProofKit
import Derived.OpenShut
import Derived.SizedLaws
namespace Go.Proofs.Ytcjgicfmfjomgaa
open Go.ChangeShapes Go.WideShapes Go.ChangeAt Go.RowKit Go.WideMaps Go.WideElems
theorem own : ownKnob Try.prog.godebug = none := by kernel_rfl
theorem laidOut : laidOutB Try.prog = true := by kernel_rfl
theorem wrap_of {n : Int} (h : (Lit.int .i64 n).wf = true) : IntKind.i64.wrap n = n := by
  have := bounds_i64 h
  rw [IntKind.wrap_i64]; omega
end Go.Proofs.Ytcjgicfmfjomgaa
