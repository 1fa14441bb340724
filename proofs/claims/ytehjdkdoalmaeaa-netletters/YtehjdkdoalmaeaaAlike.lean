import Derived.Test.YtehjdkdoalmaeaaFun
namespace Go.Proofs.Ytehjdkdoalmaeaa
open Go.RowKit Go.PlainAid
set_option linter.unusedVariables false
set_option linter.unusedSimpArgs false
def alikeB (f t : Int) (xs : List UInt8) (f' t' : Int) (ys : List UInt8) : Bool := f == f' && t == t' && decide (xs = ys)
set_option maxRecDepth 100000 in
set_option maxHeartbeats 800000 in
theorem alike_any (f t f' t' : Int) (ao bo : Option Addr) (n m ca cb : Nat) (xs ys : List UInt8) (w : World) (hx : xs.length = n) (hy : ys.length = m) (hfx : From w ao xs) (hfy : From w bo ys) :
    Calls Try.prog 14 #[.agg (letC f t (.slice ao n ca)), .agg (letC f' t' (.slice bo m cb))] w fun e w' => e = .returned (.bool (alikeB f t xs f' t' ys)) ∧ Below w.heap.size w w' := by
  show Calls Try.prog 14 #[.agg #[.int .i64 f, .int .i64 t, .slice ao n ca], .agg #[.int .i64 f', .int .i64 t', .slice bo m cb]] w _
  have c1 := conv_run ((w.alloc (.cells #[.int .i64 f, .int .i64 t, .slice ao n ca] 31)).alloc (.cells #[.int .i64 f', .int .i64 t', .slice bo m cb] 31)) ao n ca xs hx ((hfx.alloc _).alloc _)
  have c2 := conv_run ((w.alloc (.cells #[.int .i64 f, .int .i64 t, .slice ao n ca] 31)).alloc (.cells #[.int .i64 f', .int .i64 t', .slice bo m cb] 31)) bo m cb ys hy ((hfy.alloc _).alloc _)
  have hbl : Below w.heap.size w ((w.alloc (.cells #[.int .i64 f, .int .i64 t, .slice ao n ca] 31)).alloc (.cells #[.int .i64 f', .int .i64 t', .slice bo m cb] 31)) := by go_grown
  have HB : Hid _ := hbl
  clear hbl
  by_cases h1 : f = f'
  · by_cases h2 : t = t'
    · subst h1 h2
      go_enter Try.func14, Try.ntmps14
      go_wp2
      go_ret
      refine ⟨ret_bool ?_, HB.out⟩
      by_cases h : xs = ys <;> simp [h, alikeB]
    · subst h1
      go_enter Try.func14, Try.ntmps14
      go_wp2
      go_ret
      exact ⟨ret_bool (by simp [alikeB, h2]), HB.out⟩
  · go_enter Try.func14, Try.ntmps14
    go_wp2
    go_ret
    exact ⟨ret_bool (by simp [alikeB, h1]), HB.out⟩
end Go.Proofs.Ytehjdkdoalmaeaa
