import Derived.Test.YtcnokgphioigoaaJq20
namespace Go.Proofs.Ytcnokgphioigoaa
open Go.RowKit Go.PlainAid
set_option linter.unusedVariables false
set_option linter.unusedSimpArgs false
set_option maxRecDepth 100000 in
set_option maxHeartbeats 1600000 in
theorem all_law {v : Value} {bs : List UInt8} (z : Int) (ao : Option Addr) (nn cv : Nat) (xs : List Ak) (w : World) (hz : -9223372036854775808 ≤ z ∧ z ≤ 9223372036854775807) (hb : By w v bs) (hxs : ActIn w ao xs) (hok : ∀ c ∈ xs, c.Ok w) (hn : xs.length = nn) (hnn : nn ≤ 1048576) :
    Calls Try.prog 8 #[.int .i64 z, v, .slice ao nn cv] w fun e w' => e = .returned (.bool true) ∧ Below w.heap.size w w' := by
  have HAB : Hid _ := able_yes w
  have HP : Hid (∀ W : World, Below w.heap.size w W → Calls Try.prog 29 #[.int .i64 z, v, .slice ao nn cv, .bool false] W fun e w' => e = .returned (.bool true) ∧ Below W.heap.size W w') := fun W hW => plays_any z ao nn cv xs W (earlyF W.heap.size) hz (hb.keep hW) (hxs.more hW) (fun c hc => (hok c hc).more hW) hn hnn
  have HQ : Hid (∀ W : World, Below w.heap.size w W → Calls Try.prog 29 #[.int .i64 z, v, .slice ao nn cv, .bool true] W fun e w' => e = .returned (.bool true) ∧ Below W.heap.size W w') := fun W hW => plays_any z ao nn cv xs W (lateF W.heap.size) hz (hb.keep hW) (hxs.more hW) (fun c hc => (hok c hc).more hW) hn hnn
  obtain ⟨vo, vn, vc, rfl, _⟩ := id hb
  clear hb hxs hok hn hnn hz
  go_enter Try.func8, Try.ntmps8
  go_wp2_with fail
  refine Calls.mono HAB.out ?_
  rintro e w1 ⟨rfl, hb1⟩
  have HP1 : Hid _ := HP.out w1 hb1
  have HB1 : Hid _ := hb1
  clear HAB HP hb1
  go_wp2_with fail
  refine Calls.mono HP1.out ?_
  rintro e w2 ⟨rfl, hb2⟩
  have hb2' := HB1.out.trans (hb2.mono HB1.out.size)
  have HQ1 : Hid _ := HQ.out w2 hb2'
  have HB2 : Hid _ := hb2'
  clear HP1 HQ hb2 hb2'
  go_wp2_with fail
  refine Calls.mono HQ1.out ?_
  rintro e w3 ⟨rfl, hb3⟩
  have HB3 : Hid _ := HB2.out.trans (hb3.mono HB2.out.size)
  clear hb3 HQ1
  go_wp2_with fail
  go_ret
  exact ⟨rfl, HB3.out⟩
end Go.Proofs.Ytcnokgphioigoaa
