import Derived.Test.YtifgmefdlmjocaaArgs
import Derived.Test.YtifgmefdlmjocaaOrd
import Derived.Test.YtifgmefdlmjocaaLt4
namespace Go.Proofs.Ytifgmefdlmjocaa
open Go.ChangeShapes Go.WideShapes Go.ChangeAt Go.RowKit Go.WideMaps Go.WideElems Go.PlainAid
set_option linter.unusedVariables false
set_option linter.unusedSimpArgs false
set_option maxRecDepth 100000 in
theorem open_sayW {H : Type} {enc : TypeId × Value → H} {W : World} {fuel : Nat} {ad : Addr} {y : DataW H × List MemPlace}
    (h : (W.cells? 0 ad 7).bind (DataW.trod enc Try.prog W 0 (fun _ => true) true fuel 29) = some y) : ∃ o b off, ad = ⟨b, off, none⟩ ∧ SayAt W b off o ∧ i64 o.w := by
  rw [Option.bind_eq_some_iff] at h
  obtain ⟨cs, hcs, ht⟩ := h
  obtain ⟨_, hl, hcell⟩ := World.cells?_some hcs
  obtain ⟨xs, m, _, hx, _, hxl, hf⟩ := DataW.trod_struct Try.underlying29 ht
  have hxl' : xs.length = 7 := hxl
  have f0 := hf 0 _ rfl
  have f1 := hf 1 _ rfl
  have f2 := hf 2 _ rfl
  have f3 := hf 3 _ rfl
  have f4 := hf 4 _ rfl
  have f5 := hf 5 _ rfl
  have f6 := hf 6 _ rfl
  rw [List.getElem?_eq_getElem (by omega)] at f0 f1 f2 f3 f4 f5 f6
  obtain ⟨z0, e0, _, w0⟩ := DataW.trod_int Try.underlying3 f0
  obtain ⟨z1, e1, _, w1⟩ := DataW.trod_int Try.underlying3 f1
  obtain ⟨z2, e2, _, w2⟩ := DataW.trod_int Try.underlying3 f2
  obtain ⟨z3, e3, _, w3⟩ := DataW.trod_int Try.underlying3 f3
  obtain ⟨z4, e4, _, w4⟩ := DataW.trod_int Try.underlying3 f4
  obtain ⟨z5, e5, _, w5⟩ := DataW.trod_int Try.underlying3 f5
  obtain ⟨z6, e6, _, w6⟩ := DataW.trod_int Try.underlying3 f6
  have at_ : ∀ (k : Nat) (v : Value), (cs.drop k).take 1 = [v] → cs[k]? = some v := fun k v e => by
    have := congrArg (fun l => l[0]?) e
    simpa [List.getElem?_take, List.getElem?_drop] using this
  have g0 : cs[0]? = some (.int .i64 z0) := at_ 0 _ e0
  have a0 : W.cell? ad = some (.int .i64 z0) := by
    have := hcell 0 (by omega)
    rw [g0] at this
    exact this
  obtain ⟨b, off, rfl⟩ := spot_none a0
  have hc : ∀ j, j < 7 → W.cell? ⟨b, off + j, none⟩ = cs[j]? := fun j hj => by
    have := hcell j (by omega)
    rwa [addr_add] at this
  exact ⟨⟨z0, z1, z2, z3, z4, z5, z6⟩, b, off, rfl, ⟨a0, (hc 1 (by omega)).trans (at_ 1 _ e1), (hc 2 (by omega)).trans (at_ 2 _ e2), (hc 3 (by omega)).trans (at_ 3 _ e3), (hc 4 (by omega)).trans (at_ 4 _ e4), (hc 5 (by omega)).trans (at_ 5 _ e5), (hc 6 (by omega)).trans (at_ 6 _ e6), bounds_i64 w3, bounds_i64 w4, bounds_i64 w5, bounds_i64 w6⟩, bounds_i64 w1⟩
set_option maxRecDepth 100000 in
/-- The script that came in. -/
theorem open_saysW {H : Type} {enc : TypeId × Value → H} {W : World} {base : Nat} {v : Value} {d : DataW H} {p : List MemPlace}
    (hval : Value.okWide Try.prog W .any base 22 v) (h0 : DataW.Trod enc Try.prog W 0 (fun _ => true) true 22 v d p) :
    ∃ (ao : Option Addr) (N cap : Nat) (os : List SayA), v = .slice ao N cap ∧ os.length = N ∧ N ≤ maxLen ∧ (0 < N → ∃ b off, ao = some ⟨b, off, none⟩ ∧ ∀ i o, os[i]? = some o → SayAt W b (off + i * 7) o ∧ i64 o.w) := by
  obtain ⟨a0, len, cap, rfl⟩ := okWide_slice Try.underlying22 hval
  obtain ⟨fuel, hf⟩ := h0
  rcases DataW.trod_slice Try.underlying22 hf with ⟨hcs, hx⟩ | ⟨a, len', cap', elems, rest, m, _, hcs, hx, _, hl, hm, hel, he, _, _⟩
  · have e : Value.slice a0 len cap = .slice none 0 0 := by simpa [Value.cells] using hcs
    cases e
    exact ⟨none, 0, 0, [], rfl, rfl, Nat.zero_le _, fun h => by omega⟩
  · have e : Value.slice a0 len cap = .slice (some a) len' cap' := by simpa [Value.cells] using hcs
    cases e
    rw [cells29] at he
    obtain ⟨cs, hcl, hc⟩ := list_of (fun i o => ∃ b off, a.add (i * 7) = ⟨b, off, none⟩ ∧ SayAt W b off o ∧ i64 o.w) len fun i hi => by
      have h1 := he i hi
      rw [List.getElem?_eq_getElem (by omega)] at h1
      exact open_sayW h1
    refine ⟨some a, len, cap, cs, rfl, hcl, by omega, fun hN => ?_⟩
    obtain ⟨b, off, e0, _⟩ := hc 0 cs[0] (List.getElem?_eq_getElem (by omega))
    rw [Nat.zero_mul, add_zero'] at e0
    subst e0
    refine ⟨b, off, rfl, fun i c hi => ?_⟩
    obtain ⟨b2, off2, e2, h2⟩ := hc i c hi
    rw [addr_add] at e2
    cases e2
    exact h2
theorem cells3 : Try.prog.cellsOf 3 = 1 := by kernel_rfl
theorem cells9 : Try.prog.cellsOf 9 = 1 := by kernel_rfl
theorem cells44 : Try.prog.cellsOf 44 = 2 := by kernel_rfl
theorem cells46 : Try.prog.cellsOf 46 = 7 := by kernel_rfl
theorem uncons {α : Type} {l : List α} {n : Nat} (h : l.length = n + 1) : ∃ a t, l = a :: t ∧ t.length = n := by
  cases l with
  | nil => simp at h
  | cons a t => exact ⟨a, t, rfl, by simpa using h⟩
def In64 (z : Int) : Prop := (-9223372036854775808 : Int) ≤ z ∧ z < 9223372036854775808
section
variable {H : Type} {enc : TypeId × Value → H} {W : World} {fuel : Nat} {cs : List Value} {x : DataW H × List MemPlace}
set_option maxRecDepth 100000
set_option maxHeartbeats 1600000
theorem t_int {t : TypeId} (hu : Try.prog.underlying t = some (.int .i64)) (h : DataW.trod enc Try.prog W 0 (fun _ => true) true fuel t cs = some x) : ∃ z, cs = [.int .i64 z] ∧ In64 z := by
  obtain ⟨z, e, _, hw⟩ := DataW.trod_int hu h
  have := bounds_i64 hw
  exact ⟨z, e, by unfold In64; omega⟩
theorem t_str {t : TypeId} (hu : Try.prog.underlying t = some .string) (h : DataW.trod enc Try.prog W 0 (fun _ => true) true fuel t cs = some x) (hw : ∀ n ∈ x.1.weights Try.prog t, n ≤ reachBytes) : ∃ s : List UInt8, cs = [.string ⟨s.toArray⟩] ∧ s.length ≤ 140737488351232 := by
  obtain ⟨s, e, hx, _⟩ := DataW.trod_string hu h
  refine ⟨s.data.toList, e, ?_⟩
  have := hw s.data.toList.length (by rw [hx]; simp [DataW.weights])
  exact this
theorem t_two {t : TypeId} {f0 f1 : Field} (hu : Try.prog.underlying t = some (.struct #[f0, f1])) (hc : Try.prog.cellsOf t = 2) (t0 : f0.type = 3) (t1 : f1.type = 3) (o0 : f0.offset = 0) (o1 : f1.offset = 1)
    (h : DataW.trod enc Try.prog W 0 (fun _ => true) true fuel t cs = some x) : ∃ a b, cs = [.int .i64 a, .int .i64 b] ∧ In64 a ∧ In64 b := by
  obtain ⟨xs, m, _, hx, hl, hxl, hf⟩ := DataW.trod_struct hu h
  have hxl' : xs.length = 2 := hxl
  rw [hc] at hl
  obtain ⟨c0, l1, rfl, k1⟩ := uncons hl
  obtain ⟨c1, l2, rfl, k2⟩ := uncons k1
  obtain rfl := List.eq_nil_of_length_eq_zero k2
  have h0 := hf 0 f0 rfl
  have h1 := hf 1 f1 rfl
  rw [t0, o0, cells3, List.getElem?_eq_getElem (by omega)] at h0
  rw [t1, o1, cells3, List.getElem?_eq_getElem (by omega)] at h1
  obtain ⟨a, ea, ha⟩ := t_int Try.underlying3 h0
  obtain ⟨b, eb, hb⟩ := t_int Try.underlying3 h1
  simp only [List.drop_zero, List.take_succ_cons, List.take_zero, List.cons.injEq, and_true, List.drop_succ_cons] at ea eb
  exact ⟨a, b, by rw [ea, eb], ha, hb⟩
theorem w_part {t t' : TypeId} {fs : Array Field} {xs : List (DataW H × List MemPlace)} {i : Nat} {y : DataW H × List MemPlace} (hu : Try.prog.underlying t = some (.struct fs)) (hx : x = (.agg (xs.map (·.1)), xs.flatMap (·.2))) (hw : ∀ n ∈ x.1.weights Try.prog t, n ≤ reachBytes)
    (ht : (fs.toList.map (·.type))[i]? = some t') (hy : xs[i]? = some y) : ∀ n ∈ y.1.weights Try.prog t', n ≤ reachBytes := by
  intro n hn
  refine hw n ?_
  rw [hx]
  simp only [DataW.weights, hu]
  exact DataW.weights_mem_each ht (by rw [List.getElem?_map, hy]; rfl) n hn
theorem t_view (h : DataW.trod enc Try.prog W 0 (fun _ => true) true fuel 46 cs = some x) (hw : ∀ n ∈ x.1.weights Try.prog 46, n ≤ reachBytes) :
    ∃ e : Ent, cs = e.cs ∧ e.sane ∧ i64 e.v := by
  obtain ⟨xs, mm, _, hx, hl, hxl, hf⟩ := DataW.trod_struct Try.underlying46 h
  have hxl' : xs.length = 6 := hxl
  rw [cells46] at hl
  obtain ⟨c0, l1, rfl, k1⟩ := uncons hl
  obtain ⟨c1, l2, rfl, k2⟩ := uncons k1
  obtain ⟨c2, l3, rfl, k3⟩ := uncons k2
  obtain ⟨c3, l4, rfl, k4⟩ := uncons k3
  obtain ⟨c4, l5, rfl, k5⟩ := uncons k4
  obtain ⟨c5, l6, rfl, k6⟩ := uncons k5
  obtain ⟨c6, l7, rfl, k7⟩ := uncons k6
  obtain rfl := List.eq_nil_of_length_eq_zero k7
  have y0 : xs[0]? = some xs[0] := List.getElem?_eq_getElem (by omega)
  have h0 : DataW.trod enc Try.prog W 0 (fun _ => true) true mm 9 [c0] = some xs[0] := by
    have e : DataW.trod enc Try.prog W 0 (fun _ => true) true mm 9 (List.take (Try.prog.cellsOf 9) (List.drop 0 [c0, c1, c2, c3, c4, c5, c6])) = xs[0]? := hf 0 _ rfl
    rw [cells9, y0] at e
    exact e
  obtain ⟨s0, e0, b0⟩ := t_str Try.underlying9 h0 (w_part Try.underlying46 hx hw (i := 0) rfl y0)
  have y1 : xs[1]? = some xs[1] := List.getElem?_eq_getElem (by omega)
  have h1 : DataW.trod enc Try.prog W 0 (fun _ => true) true mm 3 [c1] = some xs[1] := by
    have e : DataW.trod enc Try.prog W 0 (fun _ => true) true mm 3 (List.take (Try.prog.cellsOf 3) (List.drop 1 [c0, c1, c2, c3, c4, c5, c6])) = xs[1]? := hf 1 _ rfl
    rw [cells3, y1] at e
    exact e
  obtain ⟨z1, e1, b1⟩ := t_int Try.underlying3 h1
  have y2 : xs[2]? = some xs[2] := List.getElem?_eq_getElem (by omega)
  have h2 : DataW.trod enc Try.prog W 0 (fun _ => true) true mm 3 [c2] = some xs[2] := by
    have e : DataW.trod enc Try.prog W 0 (fun _ => true) true mm 3 (List.take (Try.prog.cellsOf 3) (List.drop 2 [c0, c1, c2, c3, c4, c5, c6])) = xs[2]? := hf 2 _ rfl
    rw [cells3, y2] at e
    exact e
  obtain ⟨z2, e2, b2⟩ := t_int Try.underlying3 h2
  have y3 : xs[3]? = some xs[3] := List.getElem?_eq_getElem (by omega)
  have h3 : DataW.trod enc Try.prog W 0 (fun _ => true) true mm 3 [c3] = some xs[3] := by
    have e : DataW.trod enc Try.prog W 0 (fun _ => true) true mm 3 (List.take (Try.prog.cellsOf 3) (List.drop 3 [c0, c1, c2, c3, c4, c5, c6])) = xs[3]? := hf 3 _ rfl
    rw [cells3, y3] at e
    exact e
  obtain ⟨z3, e3, b3⟩ := t_int Try.underlying3 h3
  have y4 : xs[4]? = some xs[4] := List.getElem?_eq_getElem (by omega)
  have h4 : DataW.trod enc Try.prog W 0 (fun _ => true) true mm 44 [c4, c5] = some xs[4] := by
    have e : DataW.trod enc Try.prog W 0 (fun _ => true) true mm 44 (List.take (Try.prog.cellsOf 44) (List.drop 4 [c0, c1, c2, c3, c4, c5, c6])) = xs[4]? := hf 4 _ rfl
    rw [cells44, y4] at e
    exact e
  obtain ⟨p4, q4, e4, b4, b4'⟩ := t_two Try.underlying44 cells44 rfl rfl rfl rfl h4
  have y5 : xs[5]? = some xs[5] := List.getElem?_eq_getElem (by omega)
  have h5 : DataW.trod enc Try.prog W 0 (fun _ => true) true mm 3 [c6] = some xs[5] := by
    have e : DataW.trod enc Try.prog W 0 (fun _ => true) true mm 3 (List.take (Try.prog.cellsOf 3) (List.drop 6 [c0, c1, c2, c3, c4, c5, c6])) = xs[5]? := hf 5 _ rfl
    rw [cells3, y5] at e
    exact e
  obtain ⟨z5, e5, b5⟩ := t_int Try.underlying3 h5
  clear hf h hl
  cases e0; cases e1; cases e2; cases e3; cases e4; cases e5
  unfold In64 at b1 b3 b4 b4'
  exact ⟨⟨0, s0, z1, z2, z3, p4, q4, z5⟩, rfl, ⟨by show s0.length ≤ _; omega, by show _ ≤ z1 ∧ z1 ≤ _; omega, by show _ ≤ p4 ∧ p4 ≤ _; omega, by show _ ≤ q4 ∧ q4 ≤ _; omega⟩, by show _ ≤ z3 ∧ z3 ≤ _; omega⟩
theorem open_view {base : Nat} {v : Value} {d : DataW H} {p : List MemPlace} (hval : Value.okWide Try.prog W .any base 46 v) (h0 : DataW.Trod enc Try.prog W 0 (fun _ => true) true 46 v d p) (hw : ∀ n ∈ d.weights Try.prog 46, n ≤ reachBytes) :
    ∃ e : Ent, v = viewV e ∧ e.sane ∧ i64 e.v := by
  obtain ⟨cs, rfl, _⟩ := okWide_struct Try.underlying46 hval
  obtain ⟨fuel, hf⟩ := h0
  obtain ⟨m, e, hr⟩ := t_view hf hw
  refine ⟨m, ?_, hr⟩
  have e' : cs.toList = m.cs := by simpa [Value.cells] using e
  have e2 : cs = m.cs.toArray := by rw [← e']
  rw [e2]
  rfl
end
end Go.Proofs.Ytifgmefdlmjocaa
