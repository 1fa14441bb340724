import Derived.Test.YtlajcaofpmjdlaaAl0
namespace Go.Proofs.Ytlajcaofpmjdlaa
open Go.RowKit Go.PlainAid
set_option linter.unusedVariables false
set_option maxRecDepth 100000 in
theorem images_of (sec : Int) {vo : Option Addr} {vn vc : Nat} {bs : List UInt8} {v : Value} {os : List OpV} (w : World) (hb : By w (.slice vo vn vc) bs) (hS : ∀ w', Below w.heap.size w w' → Scr w.heap.size [] w' v os) (hN : os.length ≤ 9223372036854775806) (hB : ∀ o ∈ os, o.bs.length ≤ 1125899906842624) (hO : ∀ o ∈ os, o.n ≤ 9223372036854775807) (hA : ApC w.heap.size) :
    Calls Try.prog 8 #[.int .i64 sec, .slice vo vn vc, v] w fun e w' => e = .returned (.bool true) ∧ Below w.heap.size w w' := by
  have HH : Hid _ := holds_any sec 10 11 w hb hS hN hB hO (fun pb p s rb W o ho hW hs h1 h2 => telc_all o (by omega) h2 (fun w' hb' => ((hS w' (hW.trans hb')).by' o ho).1) hs) hA
  clear hb hS hN hB hO hA
  go_enter Try.func8, Try.ntmps8
  go_wp2_with fail
  refine Calls.mono HH.out ?_
  rintro e w1 ⟨rfl, hb⟩
  clear HH
  go_wp2_with fail
  go_ret
  exact ⟨rfl, hb⟩
end Go.Proofs.Ytlajcaofpmjdlaa
