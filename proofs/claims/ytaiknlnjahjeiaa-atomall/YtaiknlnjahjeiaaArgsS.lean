import Derived.Test.YtaiknlnjahjeiaaArgs
import Derived.Test.YtaiknlnjahjeiaaPl4
namespace Go.Proofs.Ytaiknlnjahjeiaa
open Go.ChangeShapes Go.WideShapes Go.ChangeAt Go.RowKit Go.WideMaps Go.WideElems Go.PlainAid
set_option linter.unusedVariables false
theorem cells27 : Try.prog.cellsOf 27 = 1 := by kernel_rfl
theorem cells49 : Try.prog.cellsOf 49 = 2 := by kernel_rfl
theorem cells51 : Try.prog.cellsOf 51 = 9 := by kernel_rfl
theorem cells78 : Try.prog.cellsOf 78 = 16 := by kernel_rfl
/-- An effect. -/
structure EfA where
  st : Int
  c : Int × Int
  o : OpA
  er : Int
  va : Int
def EfA.row (x : EfA) : List Value := [.int .i64 x.st, .int .i64 x.c.1, .int .i64 x.c.2, .int .i64 x.o.k, .string ⟨x.o.n.toArray⟩, .int .i64 x.o.a, .int .i64 x.o.b, .int .i64 x.er, .int .i64 x.va]
def EfA.ok (x : EfA) : Prop := x.o.ok
section
variable {H : Type} {enc : TypeId × Value → H} {W : World} {fuel : Nat} {cs : List Value} {x : DataW H × List MemPlace}
theorem t_eff (h : DataW.trod enc Try.prog W 0 (fun _ => true) true fuel 51 cs = some x) (hw : ∀ n ∈ x.1.weights Try.prog 51, n ≤ reachBytes) :
    ∃ o : EfA, cs = o.row ∧ o.ok := by
  obtain ⟨xs, mm, _, hx, hl, hxl, hf⟩ := DataW.trod_struct Try.underlying51 h
  have hxl' : xs.length = 5 := hxl
  rw [cells51] at hl
  obtain ⟨c0, l1, rfl, k1⟩ := uncons hl
  obtain ⟨c1, l2, rfl, k2⟩ := uncons k1
  obtain ⟨c2, l3, rfl, k3⟩ := uncons k2
  obtain ⟨c3, l4, rfl, k4⟩ := uncons k3
  obtain ⟨c4, l5, rfl, k5⟩ := uncons k4
  obtain ⟨c5, l6, rfl, k6⟩ := uncons k5
  obtain ⟨c6, l7, rfl, k7⟩ := uncons k6
  obtain ⟨c7, l8, rfl, k8⟩ := uncons k7
  obtain ⟨c8, l9, rfl, k9⟩ := uncons k8
  obtain rfl := List.eq_nil_of_length_eq_zero k9
  have y0 : xs[0]? = some xs[0] := List.getElem?_eq_getElem (by omega)
  have h0 : DataW.trod enc Try.prog W 0 (fun _ => true) true mm 3 [c0] = some xs[0] := by
    have e : DataW.trod enc Try.prog W 0 (fun _ => true) true mm 3 (List.take (Try.prog.cellsOf 3) (List.drop 0 [c0, c1, c2, c3, c4, c5, c6, c7, c8])) = xs[0]? := hf 0 _ rfl
    rw [cells3, y0] at e
    exact e
  obtain ⟨z0, e0, b0⟩ := t_int Try.underlying3 h0
  have y1 : xs[1]? = some xs[1] := List.getElem?_eq_getElem (by omega)
  have h1 : DataW.trod enc Try.prog W 0 (fun _ => true) true mm 49 [c1, c2] = some xs[1] := by
    have e : DataW.trod enc Try.prog W 0 (fun _ => true) true mm 49 (List.take (Try.prog.cellsOf 49) (List.drop 1 [c0, c1, c2, c3, c4, c5, c6, c7, c8])) = xs[1]? := hf 1 _ rfl
    rw [cells49, y1] at e
    exact e
  obtain ⟨p1, q1, e1, b1, d1⟩ := t_two Try.underlying49 cells49 rfl rfl rfl rfl h1
  have y2 : xs[2]? = some xs[2] := List.getElem?_eq_getElem (by omega)
  have h2 : DataW.trod enc Try.prog W 0 (fun _ => true) true mm 31 [c3, c4, c5, c6] = some xs[2] := by
    have e : DataW.trod enc Try.prog W 0 (fun _ => true) true mm 31 (List.take (Try.prog.cellsOf 31) (List.drop 3 [c0, c1, c2, c3, c4, c5, c6, c7, c8])) = xs[2]? := hf 2 _ rfl
    rw [cells31, y2] at e
    exact e
  obtain ⟨v2, e2, b2⟩ := t_op h2 (w_part Try.underlying51 hx hw (i := 2) rfl y2)
  have y3 : xs[3]? = some xs[3] := List.getElem?_eq_getElem (by omega)
  have h3 : DataW.trod enc Try.prog W 0 (fun _ => true) true mm 27 [c7] = some xs[3] := by
    have e : DataW.trod enc Try.prog W 0 (fun _ => true) true mm 27 (List.take (Try.prog.cellsOf 27) (List.drop 7 [c0, c1, c2, c3, c4, c5, c6, c7, c8])) = xs[3]? := hf 3 _ rfl
    rw [cells27, y3] at e
    exact e
  obtain ⟨z3, e3, b3⟩ := t_int Try.underlying27 h3
  have y4 : xs[4]? = some xs[4] := List.getElem?_eq_getElem (by omega)
  have h4 : DataW.trod enc Try.prog W 0 (fun _ => true) true mm 3 [c8] = some xs[4] := by
    have e : DataW.trod enc Try.prog W 0 (fun _ => true) true mm 3 (List.take (Try.prog.cellsOf 3) (List.drop 8 [c0, c1, c2, c3, c4, c5, c6, c7, c8])) = xs[4]? := hf 4 _ rfl
    rw [cells3, y4] at e
    exact e
  obtain ⟨z4, e4, b4⟩ := t_int Try.underlying3 h4
  clear hf h hl
  obtain ⟨ok_, on_, oa_, ob_⟩ := v2
  cases e0; cases e1; cases e2; cases e3; cases e4
  exact ⟨⟨z0, (p1, q1), ⟨ok_, on_, oa_, ob_⟩, z3, z4⟩, rfl, b2⟩
theorem t_stp (h : DataW.trod enc Try.prog W 0 (fun _ => true) true fuel 78 cs = some x) (hw : ∀ n ∈ x.1.weights Try.prog 78, n ≤ reachBytes) :
    ∃ o : SA, cs = o.row ∧ o.Ok := by
  obtain ⟨xs, mm, _, hx, hl, hxl, hf⟩ := DataW.trod_struct Try.underlying78 h
  have hxl' : xs.length = 5 := hxl
  rw [cells78] at hl
  obtain ⟨c0, l1, rfl, k1⟩ := uncons hl
  obtain ⟨c1, l2, rfl, k2⟩ := uncons k1
  obtain ⟨c2, l3, rfl, k3⟩ := uncons k2
  obtain ⟨c3, l4, rfl, k4⟩ := uncons k3
  obtain ⟨c4, l5, rfl, k5⟩ := uncons k4
  obtain ⟨c5, l6, rfl, k6⟩ := uncons k5
  obtain ⟨c6, l7, rfl, k7⟩ := uncons k6
  obtain ⟨c7, l8, rfl, k8⟩ := uncons k7
  obtain ⟨c8, l9, rfl, k9⟩ := uncons k8
  obtain ⟨c9, l10, rfl, k10⟩ := uncons k9
  obtain ⟨c10, l11, rfl, k11⟩ := uncons k10
  obtain ⟨c11, l12, rfl, k12⟩ := uncons k11
  obtain ⟨c12, l13, rfl, k13⟩ := uncons k12
  obtain ⟨c13, l14, rfl, k14⟩ := uncons k13
  obtain ⟨c14, l15, rfl, k15⟩ := uncons k14
  obtain ⟨c15, l16, rfl, k16⟩ := uncons k15
  obtain rfl := List.eq_nil_of_length_eq_zero k16
  have y0 : xs[0]? = some xs[0] := List.getElem?_eq_getElem (by omega)
  have h0 : DataW.trod enc Try.prog W 0 (fun _ => true) true mm 3 [c0] = some xs[0] := by
    have e : DataW.trod enc Try.prog W 0 (fun _ => true) true mm 3 (List.take (Try.prog.cellsOf 3) (List.drop 0 [c0, c1, c2, c3, c4, c5, c6, c7, c8, c9, c10, c11, c12, c13, c14, c15])) = xs[0]? := hf 0 _ rfl
    rw [cells3, y0] at e
    exact e
  obtain ⟨z0, e0, b0⟩ := t_int Try.underlying3 h0
  have y1 : xs[1]? = some xs[1] := List.getElem?_eq_getElem (by omega)
  have h1 : DataW.trod enc Try.prog W 0 (fun _ => true) true mm 3 [c1] = some xs[1] := by
    have e : DataW.trod enc Try.prog W 0 (fun _ => true) true mm 3 (List.take (Try.prog.cellsOf 3) (List.drop 1 [c0, c1, c2, c3, c4, c5, c6, c7, c8, c9, c10, c11, c12, c13, c14, c15])) = xs[1]? := hf 1 _ rfl
    rw [cells3, y1] at e
    exact e
  obtain ⟨z1, e1, b1⟩ := t_int Try.underlying3 h1
  have y2 : xs[2]? = some xs[2] := List.getElem?_eq_getElem (by omega)
  have h2 : DataW.trod enc Try.prog W 0 (fun _ => true) true mm 3 [c2] = some xs[2] := by
    have e : DataW.trod enc Try.prog W 0 (fun _ => true) true mm 3 (List.take (Try.prog.cellsOf 3) (List.drop 2 [c0, c1, c2, c3, c4, c5, c6, c7, c8, c9, c10, c11, c12, c13, c14, c15])) = xs[2]? := hf 2 _ rfl
    rw [cells3, y2] at e
    exact e
  obtain ⟨z2, e2, b2⟩ := t_int Try.underlying3 h2
  have y3 : xs[3]? = some xs[3] := List.getElem?_eq_getElem (by omega)
  have h3 : DataW.trod enc Try.prog W 0 (fun _ => true) true mm 31 [c3, c4, c5, c6] = some xs[3] := by
    have e : DataW.trod enc Try.prog W 0 (fun _ => true) true mm 31 (List.take (Try.prog.cellsOf 31) (List.drop 3 [c0, c1, c2, c3, c4, c5, c6, c7, c8, c9, c10, c11, c12, c13, c14, c15])) = xs[3]? := hf 3 _ rfl
    rw [cells31, y3] at e
    exact e
  obtain ⟨v3, e3, b3⟩ := t_op h3 (w_part Try.underlying78 hx hw (i := 3) rfl y3)
  have y4 : xs[4]? = some xs[4] := List.getElem?_eq_getElem (by omega)
  have h4 : DataW.trod enc Try.prog W 0 (fun _ => true) true mm 51 [c7, c8, c9, c10, c11, c12, c13, c14, c15] = some xs[4] := by
    have e : DataW.trod enc Try.prog W 0 (fun _ => true) true mm 51 (List.take (Try.prog.cellsOf 51) (List.drop 7 [c0, c1, c2, c3, c4, c5, c6, c7, c8, c9, c10, c11, c12, c13, c14, c15])) = xs[4]? := hf 4 _ rfl
    rw [cells51, y4] at e
    exact e
  obtain ⟨v4, e4, b4⟩ := t_eff h4 (w_part Try.underlying78 hx hw (i := 4) rfl y4)
  clear hf h hl
  obtain ⟨ok_, on_, oa_, ob_⟩ := v3
  obtain ⟨st_, ⟨c1_, c2_⟩, ⟨ek_, en_, ea_, eb_⟩, er_, va_⟩ := v4
  cases e0; cases e1; cases e2; cases e3; cases e4
  exact ⟨⟨z0, z1, z2, ok_, on_, oa_, ob_, st_, c1_, c2_, ek_, en_, ea_, eb_, er_, va_⟩, rfl, ⟨Nat.le_trans b3.2.1 (by decide), Nat.le_trans b4.2.1 (by decide), b1, b2⟩⟩
end
end Go.Proofs.Ytaiknlnjahjeiaa
