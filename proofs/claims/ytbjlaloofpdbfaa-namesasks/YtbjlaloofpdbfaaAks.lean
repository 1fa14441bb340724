import Derived.Test.YtbjlaloofpdbfaaJoinF
namespace Go.Proofs.Ytbjlaloofpdbfaa
open Go.RowKit Go.PlainAid
set_option maxRecDepth 100000 in
theorem namesAsks_law (HAL : Alv Try.prog) (HAP : Apt Try.prog) (me rep per : Int) (hrep : -9223372036854775808 ≤ rep ∧ rep ≤ 9223372036854775807)
    (ao : Option Addr) (N cap : Nat) (os : List LO) (w : World) (hl : os.length = N) (hnc : N ≤ cap) (hcm : cap ≤ maxLen) (hok : ∀ o ∈ os, o.ok)
    (hat : 0 < N → ∃ b off, ao = some ⟨b, off, none⟩ ∧ ∀ i o, os[i]? = some o → RowAt w b (off + i * 8) o.row) :
    Calls Try.prog 8 #[.int .i64 me, .int .i64 rep, .int .i64 per, .slice ao N cap] w fun e w' => e = .returned (.bool true) ∧ Below w.heap.size w w' := by
  have HH : Hid _ := holds_any HAL HAP me rep per 7 7 hrep ao N cap os w hl hnc hcm hok hat
  clear hat hok hl hrep hnc hcm
  go_enter Try.func8, Try.ntmps8
  go_wp2_with fail
  refine Calls.mono HH.out ?_
  rintro e w1 ⟨rfl, hb1⟩
  go_wp2_with fail
  go_ret
  exact ⟨rfl, hb1⟩
end Go.Proofs.Ytbjlaloofpdbfaa
