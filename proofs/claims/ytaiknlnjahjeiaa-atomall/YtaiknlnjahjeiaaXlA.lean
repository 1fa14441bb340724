import Derived.Test.YtaiknlnjahjeiaaRn
import Derived.Deep.Cut
import Derived.BigQuiet
namespace Go.Proofs.Ytaiknlnjahjeiaa
open Go.RowKit Go.PlainAid Go.MapKept
set_option linter.unusedVariables false
set_option linter.unusedSimpArgs false
set_option maxRecDepth 100000 in
set_option maxHeartbeats 3200000 in
theorem all_law (ao : Option Addr) (KN cap : Nat) (os : List SA) (w : World) (hl : os.length = KN)
    (hat : 0 < KN → ∃ b off, ao = some ⟨b, off, none⟩ ∧ ∀ i o, os[i]? = some o → RowAt w b (off + i * 16) o.row) (hok : ∀ o ∈ os, o.Ok) (hcm : KN ≤ maxLen) :
    Calls Try.prog 8 #[.slice ao KN cap] w fun e w' => e = .returned (.bool true) ∧ Below w.heap.size w w' := by
  have HR : Hid _ := run_any ao KN cap os 2 4 w hl hat hok hcm
  clear hat hok hl hcm
  go_enter Try.func8, Try.ntmps8
  go_wp2_with fail
  refine Calls.mono HR.out ?_
  rintro e9 w1 ⟨rfl, hb1⟩
  have HB : Hid _ := hb1
  clear hb1 HR
  go_wp2_with fail
  go_ret
  exact ⟨rfl, HB.out⟩
end Go.Proofs.Ytaiknlnjahjeiaa
