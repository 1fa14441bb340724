import Derived.Test.YtgjibihhchojoaaBase
namespace Go.Proofs.Ytgjibihhchojoaa
open Go.RowKit Go.PlainAid
theorem below_drewN {L : Nat} {w w' : World} (h : Below L w w') (q : Nat) : Below L w (w'.drewN q) := ⟨h.os, h.tape, h.output, h.size, h.block⟩
end Go.Proofs.Ytgjibihhchojoaa
