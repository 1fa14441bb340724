import Derived.Test.YtjpdcahodmomgaaArgsL
import Derived.Test.YtjpdcahodmomgaaJn37
import Derived.Test.YtjpdcahodmomgaaJt13
namespace Go.Proofs.Ytjpdcahodmomgaa
open Go.ChangeShapes Go.WideShapes Go.ChangeAt Go.RowKit Go.WideMaps Go.WideElems Go.PlainAid
set_option linter.unusedVariables false
theorem cells55 : Try.prog.cellsOf 55 = 3 := by kernel_rfl
theorem bytes5' : 1 ≤ Try.prog.bytesOf 5 := of_decide_eq_true (by kernel_rfl)
set_option maxRecDepth 100000 in
/-- A [3]int that came in. -/
theorem open_arr3 {H : Type} {enc : TypeId × Value → H} {W : World} {base : Nat} {v : Value} {d : DataW H} {p : List MemPlace}
    (hval : Value.okWide Try.prog W .any base 55 v) (h0 : DataW.Trod enc Try.prog W 0 (fun _ => true) true 55 v d p) :
    ∃ z0 z1 z2 : Int, v = .agg #[.int .i64 z0, .int .i64 z1, .int .i64 z2] ∧ ∀ z ∈ [z0, z1, z2], -9223372036854775808 ≤ z ∧ z ≤ 9223372036854775807 := by
  simp only [Value.okWide, Try.underlying55] at hval
  obtain ⟨cs, rfl, hsz, _⟩ := hval
  rw [cells55] at hsz
  obtain ⟨fuel, hf⟩ := h0
  obtain ⟨xs, m, rfl, hx, _, hn, hel⟩ := DataW.trod_array Try.underlying55 hf
  rw [cells3'] at hel
  have each : ∀ i, i < 3 → ∃ z : Int, cs[i]? = some (.int .i64 z) ∧ In64 z := by
    intro i hi
    have h := hel i hi
    rw [List.getElem?_eq_getElem (by omega)] at h
    obtain ⟨z, e1, _, wz⟩ := DataW.trod_int Try.underlying3 h
    have hb := bounds_i64 wz
    refine ⟨z, ?_, by unfold In64; omega⟩
    have e2 := congrArg (fun l => l[0]?) e1
    simp only [Nat.mul_one, List.getElem?_take, List.getElem?_drop] at e2
    simpa [Value.cells] using e2
  obtain ⟨z0, e0, b0⟩ := each 0 (by omega)
  obtain ⟨z1, e1, b1⟩ := each 1 (by omega)
  obtain ⟨z2, e2, b2⟩ := each 2 (by omega)
  refine ⟨z0, z1, z2, ?_, fun z hz => ?_⟩
  · congr 1
    apply Array.ext_getElem?
    intro i
    match i with
    | 0 => rw [e0]; rfl
    | 1 => rw [e1]; rfl
    | 2 => rw [e2]; rfl
    | i + 3 => rw [Array.getElem?_eq_none (by omega), Array.getElem?_eq_none (by simp)]
  · simp only [List.mem_cons, List.not_mem_nil, or_false] at hz
    rcases hz with rfl | rfl | rfl
    · exact b0
    · exact b1
    · exact b2
theorem rb_of {W : World} {ao : Option Addr} {N cap : Nat} {os : List UInt8} (hb : By W (.slice ao N cap) os) (hl : os.length = N) (hc : N ≤ cap) (hn : N ≤ reachBytes) : Rb W.heap.size W 140737488351232 (Value.slice ao N cap) os :=
  ⟨⟨ao, N, cap, rfl, hc, hl, by unfold reachBytes at hn; omega⟩, fun W' hW => hb.keep hW⟩
end Go.Proofs.Ytjpdcahodmomgaa
