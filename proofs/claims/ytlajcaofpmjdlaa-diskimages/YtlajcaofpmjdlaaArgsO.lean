import Derived.Test.YtlajcaofpmjdlaaArgs
import Derived.Test.YtlajcaofpmjdlaaPl
namespace Go.Proofs.Ytlajcaofpmjdlaa
open Go.ChangeShapes Go.WideShapes Go.ChangeAt Go.RowKit Go.WideMaps Go.WideElems Go.PlainAid
set_option linter.unusedVariables false
theorem cells58 : Try.prog.cellsOf 58 = 5 := by kernel_rfl
def OpV.row (o : OpV) : List Value := [.int .i64 o.kind, .int .i64 o.who, .int .i64 o.n, .int .i64 o.m, o.b]
def OpV.okW (W : World) (o : OpV) : Prop := In64 o.n ∧ By W o.b o.bs ∧ o.bs.length ≤ reachBytes
section
variable {H : Type} {enc : TypeId × Value → H} {W : World} {fuel : Nat} {cs : List Value} {x : DataW H × List MemPlace}
set_option maxRecDepth 100000
set_option maxHeartbeats 1600000
theorem t_op (h : DataW.trod enc Try.prog W 0 (fun _ => true) true fuel 58 cs = some x) (hw : ∀ n ∈ x.1.weights Try.prog 58, n ≤ reachBytes) : ∃ o : OpV, cs = o.row ∧ o.okW W := by
  obtain ⟨xs, mm, _, hx, hl, hxl, hf⟩ := DataW.trod_struct Try.underlying58 h
  have hxl' : xs.length = 5 := hxl
  rw [cells58] at hl
  obtain ⟨c0, l1, rfl, k1⟩ := uncons hl
  obtain ⟨c1, l2, rfl, k2⟩ := uncons k1
  obtain ⟨c2, l3, rfl, k3⟩ := uncons k2
  obtain ⟨c3, l4, rfl, k4⟩ := uncons k3
  obtain ⟨c4, l5, rfl, k5⟩ := uncons k4
  obtain rfl := List.eq_nil_of_length_eq_zero k5
  have y0 : xs[0]? = some xs[0] := List.getElem?_eq_getElem (by omega)
  have f0 : DataW.trod enc Try.prog W 0 (fun _ => true) true mm 3 [c0] = some xs[0] := by
    have e : DataW.trod enc Try.prog W 0 (fun _ => true) true mm 3 (List.take (Try.prog.cellsOf 3) (List.drop 0 [c0, c1, c2, c3, c4])) = xs[0]? := hf 0 _ rfl
    rw [cells3', y0] at e
    exact e
  have y1 : xs[1]? = some xs[1] := List.getElem?_eq_getElem (by omega)
  have f1 : DataW.trod enc Try.prog W 0 (fun _ => true) true mm 3 [c1] = some xs[1] := by
    have e : DataW.trod enc Try.prog W 0 (fun _ => true) true mm 3 (List.take (Try.prog.cellsOf 3) (List.drop 1 [c0, c1, c2, c3, c4])) = xs[1]? := hf 1 _ rfl
    rw [cells3', y1] at e
    exact e
  have y2 : xs[2]? = some xs[2] := List.getElem?_eq_getElem (by omega)
  have f2 : DataW.trod enc Try.prog W 0 (fun _ => true) true mm 3 [c2] = some xs[2] := by
    have e : DataW.trod enc Try.prog W 0 (fun _ => true) true mm 3 (List.take (Try.prog.cellsOf 3) (List.drop 2 [c0, c1, c2, c3, c4])) = xs[2]? := hf 2 _ rfl
    rw [cells3', y2] at e
    exact e
  have y3 : xs[3]? = some xs[3] := List.getElem?_eq_getElem (by omega)
  have f3 : DataW.trod enc Try.prog W 0 (fun _ => true) true mm 3 [c3] = some xs[3] := by
    have e : DataW.trod enc Try.prog W 0 (fun _ => true) true mm 3 (List.take (Try.prog.cellsOf 3) (List.drop 3 [c0, c1, c2, c3, c4])) = xs[3]? := hf 3 _ rfl
    rw [cells3', y3] at e
    exact e
  have y4 : xs[4]? = some xs[4] := List.getElem?_eq_getElem (by omega)
  have f4 : DataW.trod enc Try.prog W 0 (fun _ => true) true mm 30 [c4] = some xs[4] := by
    have e : DataW.trod enc Try.prog W 0 (fun _ => true) true mm 30 (List.take (Try.prog.cellsOf 30) (List.drop 4 [c0, c1, c2, c3, c4])) = xs[4]? := hf 4 _ rfl
    rw [cells30, y4] at e
    exact e
  obtain ⟨z0, e0, h0⟩ := t_int Try.underlying3 f0
  obtain ⟨z1, e1, h1⟩ := t_int Try.underlying3 f1
  obtain ⟨z2, e2, h2⟩ := t_int Try.underlying3 f2
  obtain ⟨z3, e3, h3⟩ := t_int Try.underlying3 f3
  obtain ⟨d, e4, h4, h5⟩ := t_bytes f4 (w_part (i := 4) Try.underlying58 hx hw rfl y4)
  cases e0
  cases e1
  cases e2
  cases e3
  cases e4
  exact ⟨⟨z0, z1, z2, z3, d.v, d.s⟩, rfl, h2, h4, h5⟩
end
theorem bytes58 : 1 ≤ Try.prog.bytesOf 58 := of_decide_eq_true (by kernel_rfl)
theorem rows_len {H : Type} {enc : TypeId × Value → H} {W : World} {T e : TypeId} (hu : Try.prog.underlying T = some (.slice e)) (hb : 1 ≤ Try.prog.bytesOf e) {v : Value} {d : DataW H} {p : List MemPlace} (h0 : DataW.Trod enc Try.prog W 0 (fun _ => true) true T v d p) (hsz : ∀ n ∈ d.weights Try.prog T, n ≤ reachBytes) {ao : Option Addr} {N cap : Nat} (hv : v = .slice ao N cap) : N ≤ reachBytes := by
  obtain ⟨fuel, hf⟩ := h0
  subst hv
  rcases DataW.trod_slice hu hf with ⟨hcs, hx⟩ | ⟨a, len', cap', elems, rest, m, _, hcs, hx, _, hl, hm, hel2, he, _, _⟩
  · have e1 : Value.slice ao N cap = .slice none 0 0 := by simpa [Value.cells] using hcs
    cases e1
    exact Nat.zero_le _
  · have e1 : Value.slice ao N cap = .slice (some a) len' cap' := by simpa [Value.cells] using hcs
    cases e1
    have hxd : d = .slice (elems.map (·.1)) (rest.map (·.1)) := (Prod.mk.inj hx).1
    have hm : ((elems.map (·.1)).length + (rest.map (·.1)).length) * Try.prog.bytesOf e ≤ reachBytes := hsz _ (by
      rw [hxd]
      simp only [DataW.weights, hu]
      exact List.mem_cons.2 (.inl rfl))
    rw [List.length_map] at hm
    have h1 := Nat.mul_le_mul_left (elems.length + (rest.map (·.1)).length) hb
    omega
/-- What came in is a script for what is made above it. -/
theorem scr_of {W : World} {ao : Option Addr} {N cap : Nat} {os : List OpV} (hl : os.length = N) (hok : ∀ o ∈ os, o.okW W) (hat : 0 < N → ∃ b off, ao = some ⟨b, off, none⟩ ∧ ∀ i o, os[i]? = some o → RowAt W b (off + i * 5) o.row) :
    ∀ W', Below W.heap.size W W' → Scr W.heap.size [] W' (.slice ao N cap) os := by
  intro W' hb
  refine ⟨⟨ao, cap, by rw [hl]⟩, fun i o hi => ?_, fun o ho => ⟨(hok o ho).2.1.keep hb, fun ad k c e h0 => Or.inl ?_⟩⟩
  · have hN : 0 < N := by have := (List.getElem?_eq_some_iff.1 hi).1; omega
    obtain ⟨b, off, e, h⟩ := hat hN
    subst e
    have h1 := h i o hi
    have h2 := h1.below hb (h1.lt (by simp [OpV.row]))
    exact ⟨b, off, cap, by rw [hl], h2 0 _ rfl, h2 1 _ rfl, h2 2 _ rfl, h2 3 _ rfl, h2 4 _ rfl⟩
  · obtain ⟨ao', k', c', e1, e2, e3, e4⟩ := (hok o ho).2.1
    rw [e1] at e
    cases e
    have hc := e4 ad rfl 0 _ (List.getElem?_eq_getElem (by rw [List.length_map, e2]; exact h0))
    have := World.block_lt_of_cell? W _ hc
    simpa [Addr.add] using this
theorem by_of {W : World} {ao : Option Addr} {N cap : Nat} {bs : List UInt8} (hl : bs.length = N) (hnl : ao = none → N = 0 ∧ cap = 0) (hat : 0 < N → ∃ b off, ao = some ⟨b, off, none⟩ ∧ ∀ i o, bs[i]? = some o → RowAt W b (off + i * 1) [B o]) : By W (.slice ao N cap) bs := by
  refine ⟨ao, N, cap, rfl, hl, hnl, fun ad e j u hu => ?_⟩
  rw [List.getElem?_map, Option.map_eq_some_iff] at hu
  obtain ⟨o, ho, rfl⟩ := hu
  have hN : 0 < N := by have := (List.getElem?_eq_some_iff.1 ho).1; omega
  obtain ⟨b, off, e1, h⟩ := hat hN
  rw [e1] at e
  cases e
  rw [addr_add]
  have := h j o ho 0 _ rfl
  simpa using this
end Go.Proofs.Ytlajcaofpmjdlaa
