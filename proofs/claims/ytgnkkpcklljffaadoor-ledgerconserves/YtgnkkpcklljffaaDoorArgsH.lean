import Derived.Test.YtgnkkpcklljffaaDoorArgs
import Derived.Test.YtgnkkpcklljffaaDoorCons
namespace Go.Proofs.YtgnkkpcklljffaaDoor
open Go.ChangeShapes Go.WideShapes Go.ChangeAt Go.RowKit Go.WideMaps Go.WideElems Go.PlainAid
set_option linter.unusedVariables false
theorem cells39 : Tryd.prog.cellsOf 39 = 5 := by kernel_rfl
set_option maxRecDepth 100000 in
theorem open_hand {H : Type} {enc : TypeId × Value → H} {W : World} {fuel : Nat} {ad : Addr} {y : DataW H × List MemPlace}
    (h : (W.cells? 0 ad 5).bind (DataW.trod enc Tryd.prog W 0 (fun _ => true) true fuel 39) = some y) : ∃ o b off, ad = ⟨b, off, none⟩ ∧ HandAt W b off o := by
  rw [Option.bind_eq_some_iff] at h
  obtain ⟨cs, hcs, ht⟩ := h
  obtain ⟨_, hl, hcell⟩ := World.cells?_some hcs
  obtain ⟨xs, m, _, hx, _, hxl, hf⟩ := DataW.trod_struct Tryd.underlying39 ht
  have hxl' : xs.length = 5 := hxl
  have f0 := hf 0 _ rfl
  have f1 := hf 1 _ rfl
  have f2 := hf 2 _ rfl
  have f3 := hf 3 _ rfl
  have f4 := hf 4 _ rfl
  rw [List.getElem?_eq_getElem (by omega)] at f0 f1 f2 f3 f4
  obtain ⟨z0, e0, _, w0⟩ := DataW.trod_int Tryd.underlying3 f0
  obtain ⟨z1, e1, _, w1⟩ := DataW.trod_int Tryd.underlying3 f1
  obtain ⟨z2, e2, _, w2⟩ := DataW.trod_int Tryd.underlying3 f2
  obtain ⟨z3, e3, _, w3⟩ := DataW.trod_int Tryd.underlying3 f3
  obtain ⟨z4, e4, _, w4⟩ := DataW.trod_int Tryd.underlying3 f4
  have at_ : ∀ (k : Nat) (v : Value), (cs.drop k).take 1 = [v] → cs[k]? = some v := fun k v e => by
    have := congrArg (fun l => l[0]?) e
    simpa [List.getElem?_take, List.getElem?_drop] using this
  have g0 : cs[0]? = some (.int .i64 z0) := at_ 0 _ e0
  have a0 : W.cell? ad = some (.int .i64 z0) := by
    have := hcell 0 (by omega)
    rw [g0] at this
    exact this
  obtain ⟨b, off, rfl⟩ := spot_none a0
  have hc : ∀ j, j < 5 → W.cell? ⟨b, off + j, none⟩ = cs[j]? := fun j hj => by
    have := hcell j (by omega)
    rwa [addr_add] at this
  exact ⟨⟨z0, z1, z2, z3, z4⟩, b, off, rfl, a0, (hc 1 (by omega)).trans (at_ 1 _ e1), (hc 2 (by omega)).trans (at_ 2 _ e2), (hc 3 (by omega)).trans (at_ 3 _ e3), (hc 4 (by omega)).trans (at_ 4 _ e4), wrap_of w0, wrap_of w1, wrap_of w2, wrap_of w3, wrap_of w4⟩
set_option maxRecDepth 100000 in
/-- The script that came in. -/
theorem open_hands {H : Type} {enc : TypeId × Value → H} {W : World} {base : Nat} {v : Value} {d : DataW H} {p : List MemPlace}
    (hval : Value.okWide Tryd.prog W .any base 36 v) (h0 : DataW.Trod enc Tryd.prog W 0 (fun _ => true) true 36 v d p) :
    ∃ (ao : Option Addr) (N cap : Nat) (os : List HandA), v = .slice ao N cap ∧ os.length = N ∧ N ≤ maxLen ∧ (0 < N → ∃ b off, ao = some ⟨b, off, none⟩ ∧ ∀ i o, os[i]? = some o → HandAt W b (off + i * 5) o) := by
  obtain ⟨a0, len, cap, rfl⟩ := okWide_slice Tryd.underlying36 hval
  obtain ⟨fuel, hf⟩ := h0
  rcases DataW.trod_slice Tryd.underlying36 hf with ⟨hcs, hx⟩ | ⟨a, len', cap', elems, rest, m, _, hcs, hx, _, hl, hm, hel, he, _, _⟩
  · have e : Value.slice a0 len cap = .slice none 0 0 := by simpa [Value.cells] using hcs
    cases e
    exact ⟨none, 0, 0, [], rfl, rfl, Nat.zero_le _, fun h => by omega⟩
  · have e : Value.slice a0 len cap = .slice (some a) len' cap' := by simpa [Value.cells] using hcs
    cases e
    rw [cells39] at he
    obtain ⟨cs, hcl, hc⟩ := list_of (fun i o => ∃ b off, a.add (i * 5) = ⟨b, off, none⟩ ∧ HandAt W b off o) len fun i hi => by
      have h1 := he i hi
      rw [List.getElem?_eq_getElem (by omega)] at h1
      exact open_hand h1
    refine ⟨some a, len, cap, cs, rfl, hcl, by omega, fun hN => ?_⟩
    obtain ⟨b, off, e0, _⟩ := hc 0 cs[0] (List.getElem?_eq_getElem (by omega))
    rw [Nat.zero_mul, add_zero'] at e0
    subst e0
    refine ⟨b, off, rfl, fun i c hi => ?_⟩
    obtain ⟨b2, off2, e2, h2⟩ := hc i c hi
    rw [addr_add] at e2
    cases e2
    exact h2
end Go.Proofs.YtgnkkpcklljffaaDoor
