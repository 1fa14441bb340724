import Derived.Test.YtmnihombiabkgaaLt
import Derived.Test.YtmnihombiabkgaaLw3
namespace Go.Proofs.Ytmnihombiabkgaa
open Go.RowKit Go.PlainAid Go.MapKept
set_option linter.unusedVariables false
set_option linter.unusedSimpArgs false
theorem Acts.more {L0 : Nat} {W W1 : World} {ao : Option Addr} {N : Nat} {os : List LA} (h : Acts L0 W ao N os) (hb : Below L0 W W1) : Acts L0 W1 ao N os := fun W' hb' i hi => h W' (hb.trans hb') i hi
set_option maxRecDepth 100000 in
set_option maxHeartbeats 1600000 in
theorem all_law (z : Int) (ao : Option Addr) (N cap : Nat) (os : List LA) (W : World) (h : ActsAt W ao N os) (hN : N ≤ maxLen) :
    Calls Try.prog 8 #[.int .i64 z, .slice ao N cap] W fun r w' => r = .returned (.bool true) ∧ Below W.heap.size W w' := by
  have HP : Hid _ := plays_any early begins_early z 1 5 ao N cap os W (Nat.le_refl _) h.acts hN
  have HA : Hid (Acts W.heap.size W ao N os) := h.acts
  clear h
  go_enter Try.func8, Try.ntmps8
  go_wp2_with fail
  refine Calls.mono HP.out ?_
  rintro e w1 ⟨rfl, hb⟩
  have HB : Hid (Below W.heap.size W w1) := hb
  have HP2 : Hid _ := plays_any late begins_late z 1 5 ao N cap os w1 hb.size (HA.out.more hb) hN
  clear hb HP
  go_wp2_with fail
  refine Calls.mono HP2.out ?_
  rintro e w2 ⟨rfl, hb2⟩
  have HB2 : Hid (Below W.heap.size W w2) := show Below W.heap.size W w2 from HB.out.trans hb2
  clear hb2 HP2
  go_wp2_with fail
  go_ret
  exact ⟨rfl, HB2.out⟩
end Go.Proofs.Ytmnihombiabkgaa
