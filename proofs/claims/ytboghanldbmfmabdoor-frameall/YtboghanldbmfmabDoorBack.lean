import Derived.Test.YtboghanldbmfmabDoorAlive
import Derived.Test.YtboghanldbmfmabDoorTheory
namespace Go.Proofs.YtboghanldbmfmabDoor
open Go.RowKit

theorem src_keep {w w1 : World} {ao : Option Addr} {ps : List UInt8} (hs : Src w ao ps) (hb : Below w.heap.size w w1) : Src w1 ao ps := src_below rfl hb hs
end Go.Proofs.YtboghanldbmfmabDoor
