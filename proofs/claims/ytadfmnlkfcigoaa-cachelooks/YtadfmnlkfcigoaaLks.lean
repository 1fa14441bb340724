import Derived.Test.YtadfmnlkfcigoaaHld
namespace Go.Proofs.Ytadfmnlkfcigoaa
open Go.RowKit Go.PlainAid
set_option maxRecDepth 100000 in
theorem looks_law (HAL : Alv Try.prog) (HAP : Apt Try.prog) (me rep ses room : Int)
    (ao : Option Addr) (N cap : Nat) (os : List OpC) (w : World) (hl : os.length = N) (hnc : N ≤ cap) (hcm : cap ≤ maxLen) (hok : ∀ o ∈ os, o.ok)
    (hat : 0 < N → ∃ b off, ao = some ⟨b, off, none⟩ ∧ ∀ i o, os[i]? = some o → RowAt w b (off + i * 5) o.row) :
    Calls Try.prog 7 #[.int .i64 me, .int .i64 rep, .int .i64 ses, .int .i64 room, .slice ao N cap] w fun e w' => e = .returned (.bool true) ∧ Below w.heap.size w w' := by
  have HH : Hid _ := holds_any HAL HAP me rep ses room 5 6 ao N cap os w hl hnc hcm hok hat
  clear hat hok hl hnc hcm
  go_enter Try.func7, Try.ntmps7
  go_wp2_with fail
  refine Calls.mono HH.out ?_
  rintro e w1 ⟨rfl, hb1⟩
  go_wp2_with fail
  go_ret
  exact ⟨rfl, hb1⟩
end Go.Proofs.Ytadfmnlkfcigoaa
