import Derived.Test.YtehjdkdoalmaeaaLetter2
import Derived.Test.YtehjdkdoalmaeaaLetter3
namespace Go.Proofs.Ytehjdkdoalmaeaa
open Go.RowKit Go.PlainAid
set_option linter.unusedVariables false
/-- letter: an answer as the document's. -/
theorem letter_any {L pb hbn hbr room n : Nat} {s : PS} (w : World) (h : PInv L pb hbn hbr room s w) (hF : PFull s) (hc : PCnt n s) (hn : n ≤ 3000) (hLw : L ≤ w.heap.size) (d : Value) (bs : List UInt8) (hf : s.fl = [⟨d, bs⟩]) (hx : bs.length ≤ 1048576) (f t e : Int) (ao2 : Option Addr) (c2 : Nat) (h2 : From w ao2 bs) :
    Calls Try.prog 34 #[.pointer (some ⟨pb, 0, none⟩), .agg (letC f t d), .int .i64 e, .agg (letC f t (.slice ao2 bs.length c2)), .int .i64 e] w fun r w' => r = .returned (.bool true) ∧ ∃ s', LPost L pb hbn hbr room n s s' w w' := by
  obtain ⟨xo, xc, hd, _⟩ := own_slice (h.float ⟨d, bs⟩ (by rw [hf]; simp))
  have hd' : d = .slice xo bs.length xc := hd
  subst hd'
  by_cases hq1 : (s.turns + 1) % 3 = 0
  · exact letter_full1 w h hF hc hn hLw xo xc bs hf hx f t e ao2 c2 h2 hq1
  · by_cases hq2 : (bs.length : Int) ≤ 4194304 - s.size
    · exact letter_left w h hF hc hn hLw xo xc bs hf hx f t e ao2 c2 h2 hq1 hq2
    · exact letter_full2 w h hF hc hn hLw xo xc bs hf hx f t e ao2 c2 h2 hq1 hq2
end Go.Proofs.Ytehjdkdoalmaeaa
