import Derived.Test.YtmnihombiabkgaaOn
import Derived.Test.YtmnihombiabkgaaLs
namespace Go.Proofs.Ytmnihombiabkgaa
open Go.RowKit Go.PlainAid Go.MapKept
theorem once_law (z : Int) (hz : -9223372036854775808 ≤ z ∧ z ≤ 9223372036854775807) (ao1 ao2 : Option Addr) (n1 n2 c1 c2 : Nat) (zs1 zs2 : List Int) (W : World) (hl1 : zs1.length = n1) (hl2 : zs2.length = n2) (hf1 : FromI W ao1 zs1) (hf2 : FromI W ao2 zs2) (hn1 : n1 * 8 ≤ 140737488355328) (hn2 : n2 * 8 ≤ 140737488355328) :
    Calls Try.prog 3 #[.int .i64 z, .slice ao1 n1 c1, .slice ao2 n2 c2] W fun r w' => r = .returned (.bool true) ∧ Below W.heap.size W w' :=
  once_law0 (fun w h hu => list_nil w h hu) z hz ao1 ao2 n1 n2 c1 c2 zs1 zs2 W hl1 hl2 hf1 hf2 hn1 hn2
end Go.Proofs.Ytmnihombiabkgaa
