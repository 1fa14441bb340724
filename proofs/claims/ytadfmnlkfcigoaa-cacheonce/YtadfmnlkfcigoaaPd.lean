import Derived.Test.YtadfmnlkfcigoaaJoinE
import Derived.Test.YtadfmnlkfcigoaaCm1
namespace Go.Proofs.Ytadfmnlkfcigoaa
open Go.RowKit Go.PlainAid Go.Sort
set_option linter.unusedVariables false
set_option linter.unusedSimpArgs false
set_option maxRecDepth 100000 in
set_option maxHeartbeats 1600000 in
theorem pending_any {a : CA} {x : CX} (w : World) (hT : CM a x w) (hL : x.op.length ≤ 100000) :
    Calls Try.prog 36 #[.pointer (some ⟨a.cb, 0, none⟩)] w fun e W' => ∃ v ys, e = .returned v ∧ ys.Perm x.op ∧ ys.Pairwise (fun a b => ltC b a = false) ∧ W'.ownsRow w.heap.size 32 2 v ys.length (flatC ys) ∧ Below w.heap.size w W' := by
  have c2 := hT.c2
  have HK : Hid (∀ w, _) := fun w => keysC_any a.mp w
  have hb1 : Below w.heap.size w (w.alloc (.cells #[.map (some a.mp)] 59)) := (Below.refl _ _).alloc (Nat.le_refl _) _
  have hB : Blk (w.alloc (.cells #[.map (some a.mp)] 59)) w.heap.size #[.map (some a.mp)] 59 := heap_alloc_new w _
  have HS : Hid _ := sortedC_any w.heap.size a.mp (x.op.map fun c => (c, ())) (w.alloc (.cells #[.map (some a.mp)] 59)) (hB.cell 0) (hT.pm.same (hb1.block a.mp hT.pm.lt)) (by simpa using hL)
  have HB1 : Hid _ := hb1
  clear hb1 hB hT
  go_enter Try.func36, Try.ntmps36
  go_wp2_with fail
  refine Calls.mono (HK.out _) ?_
  rintro e w1 ⟨rfl, hw1⟩
  subst hw1
  clear HK
  go_wp2_with fail
  refine Calls.mono HS.out ?_
  rintro e w2 ⟨v, ys, rfl, h1, h2, h3, h4⟩
  have H1 : Hid (ys.Perm x.op) := show ys.Perm x.op from by simpa [Function.comp_def] using h1
  have H2 : Hid (ys.Pairwise fun a b => ltC b a = false) := h2
  have H3 : Hid (World.ownsRow w2 w.heap.size 32 2 v ys.length (flatC ys)) := ownsRow_mono h3 (by simp)
  have H4 : Hid (Below w.heap.size w w2) := HB1.out.trans (h4.mono HB1.out.size)
  clear h1 h2 h3 h4 HS
  go_wp2_with fail
  go_ret
  exact ⟨v, ys, rfl, H1.out, H2.out, H3.out, H4.out⟩
end Go.Proofs.Ytadfmnlkfcigoaa
