import Derived.Test.YtboghanldbmfmaaDoorArgs
namespace Go.Proofs.YtboghanldbmfmaaDoor
open Go.ChangeShapes Go.WideShapes Go.ChangeAt Go.RowKit Go.WideMaps Go.WideElems

theorem byte_of {x : Int} (h : (Lit.int .u8 x).wf = true) : ∃ u : UInt8, x = ((u.toNat : Nat) : Int) := by
  have hb := bounds_u8 h
  exact ⟨UInt8.ofNat x.toNat, by simp; omega⟩

theorem cells34 : Tryd.prog.cellsOf 34 = 4 := by kernel_rfl

/-- A [4]byte that came in. -/
theorem open_arr4 {H : Type} {enc : TypeId × Value → H} {W : World} {base : Nat} {v : Value} {d : DataW H} {p : List MemPlace}
    (hval : Value.okWide Tryd.prog W .any base 34 v) (h0 : DataW.Trod enc Tryd.prog W 0 (fun _ => true) true 34 v d p) :
    ∃ c0 c1 c2 c3 : UInt8, v = .agg #[B c0, B c1, B c2, B c3] := by
  simp only [Value.okWide, Tryd.underlying34] at hval
  obtain ⟨cs, rfl, hsz, _⟩ := hval
  rw [cells34] at hsz
  obtain ⟨fuel, hf⟩ := h0
  obtain ⟨xs, m, rfl, hx, _, hn, hel⟩ := DataW.trod_array Tryd.underlying34 hf
  rw [cells5] at hel
  have each : ∀ i, i < 4 → ∃ u : UInt8, cs[i]? = some (B u) := by
    intro i hi
    have h := hel i hi
    rw [List.getElem?_eq_getElem (by omega)] at h
    obtain ⟨z, e1, _, wz⟩ := DataW.trod_int Tryd.underlying5 h
    obtain ⟨u, hu⟩ := byte_of wz
    refine ⟨u, ?_⟩
    rw [hu] at e1
    have e2 := congrArg (fun l => l[0]?) e1
    simp only [Nat.mul_one, List.getElem?_take, List.getElem?_drop] at e2
    simpa [B, Value.cells] using e2
  obtain ⟨c0, e0⟩ := each 0 (by omega)
  obtain ⟨c1, e1⟩ := each 1 (by omega)
  obtain ⟨c2, e2⟩ := each 2 (by omega)
  obtain ⟨c3, e3⟩ := each 3 (by omega)
  refine ⟨c0, c1, c2, c3, ?_⟩
  congr 1
  apply Array.ext_getElem?
  intro i
  match i with
  | 0 => rw [e0]; rfl
  | 1 => rw [e1]; rfl
  | 2 => rw [e2]; rfl
  | 3 => rw [e3]; rfl
  | i + 4 => rw [Array.getElem?_eq_none (by omega), Array.getElem?_eq_none (by simp)]

theorem shut_arr4 {H : Type} {enc : TypeId × Value → H} {W W' : World} {v : Value} {d : DataW H} {p : List MemPlace}
    (h : DataW.Trod enc Tryd.prog W 0 (fun _ => true) true 34 v d p) (hb : Below W.heap.size W W') (hlt : ∀ x ∈ p, x.block < W.heap.size) :
    DataW.Trod enc Tryd.prog W' 0 (fun b => decide (b < W.heap.size)) true 34 v d p :=
  Below.trod laidOut (by kernel_rfl) (of_decide_eq_true (by kernel_rfl)) h hb hlt
end Go.Proofs.YtboghanldbmfmaaDoor
