import Derived.Test.YtdblbjcdnkiepaaRows
import Derived.Test.YtdblbjcdnkiepaaRnh
import Derived.WalkKit
import Derived.ProofKit
import Derived.OpenShut
import Derived.SizedLaws
import Derived.Deep.DeepHandedRow
namespace Go.Proofs.Ytdblbjcdnkiepaa
open Go.ChangeShapes Go.WideShapes Go.ChangeAt Go.RowKit Go.WideMaps Go.WideElems Go.PlainAid
set_option linter.unusedVariables false
theorem own_knob : ownKnob Try.prog.godebug = none := by kernel_rfl
theorem laidOut : laidOutB Try.prog = true := by kernel_rfl
theorem cells3 : Try.prog.cellsOf 3 = 1 := by kernel_rfl
theorem cells9 : Try.prog.cellsOf 9 = 1 := by kernel_rfl
theorem cells31 : Try.prog.cellsOf 31 = 1 := by kernel_rfl
theorem cells44 : Try.prog.cellsOf 44 = 2 := by kernel_rfl
theorem cells46 : Try.prog.cellsOf 46 = 7 := by kernel_rfl
theorem cells92 : Try.prog.cellsOf 92 = 9 := by kernel_rfl
theorem bytes46 : Try.prog.bytesOf 46 = 64 := by kernel_rfl
theorem list_of {α : Type} (P : Nat → α → Prop) : ∀ n, (∀ i, i < n → ∃ c, P i c) → ∃ cs : List α, cs.length = n ∧ ∀ i c, cs[i]? = some c → P i c
  | 0, _ => ⟨[], rfl, fun i c h => by simp at h⟩
  | n + 1, h => by
    obtain ⟨cs, hl, hc⟩ := list_of P n fun i hi => h i (by omega)
    obtain ⟨c, hP⟩ := h n (by omega)
    refine ⟨cs ++ [c], by simp [hl], fun i c' hi => ?_⟩
    by_cases hin : i < n
    · rw [List.getElem?_append_left (by omega)] at hi
      exact hc i c' hi
    · rw [List.getElem?_append_right (by omega)] at hi
      by_cases e0 : i - cs.length = 0
      · rw [e0] at hi
        cases hi
        rw [show i = n from by omega]
        exact hP
      · rw [List.getElem?_eq_none (by simp; omega)] at hi; cases hi
theorem spot_none {W : World} {a : Addr} {v : Value} (h : W.cell? a = some v) : ∃ b off, a = ⟨b, off, none⟩ := by
  obtain ⟨b, off, sp⟩ := a
  cases sp with
  | none => exact ⟨b, off, rfl⟩
  | some s =>
    unfold World.cell? at h
    split at h <;> simp at h
theorem weights_all {H : Type} {P : Program} {e : TypeId} : ∀ {ds : List (DataW H)} {i : Nat} {d : DataW H}, ds[i]? = some d → ∀ n ∈ d.weights P e, n ∈ DataW.weightsAll P e ds
  | d0 :: ds, 0, d, hd, n, hn => by
    simp only [List.getElem?_cons_zero, Option.some.injEq] at hd
    subst hd
    simp only [DataW.weightsAll, List.mem_append]
    exact .inl hn
  | d0 :: ds, i + 1, d, hd, n, hn => by
    simp only [List.getElem?_cons_succ] at hd
    simp only [DataW.weightsAll, List.mem_append]
    exact .inr (weights_all hd n hn)
  | [], _, _, hd, _, _ => by simp at hd
theorem uncons {α : Type} {l : List α} {n : Nat} (h : l.length = n + 1) : ∃ a t, l = a :: t ∧ t.length = n := by
  cases l with
  | nil => simp at h
  | cons a t => exact ⟨a, t, rfl, by simpa using h⟩
/-- Cells in a row. -/
def RowAt (W : World) (b off : Nat) (cs : List Value) : Prop := ∀ j v, cs[j]? = some v → W.cell? ⟨b, off + j, none⟩ = some v
theorem RowAt.below {W W' : World} {L b off : Nat} {cs : List Value} (h : RowAt W b off cs) (hb : Below L W W') (hL : b < L) : RowAt W' b off cs := fun j v hv => (hb.cell (p := ⟨b, off + j, none⟩) hL).trans (h j v hv)
theorem RowAt.lt {W : World} {b off : Nat} {cs : List Value} (h : RowAt W b off cs) (h0 : 0 < cs.length) : b < W.heap.size := World.block_lt_of_cell? W _ (h 0 _ (List.getElem?_eq_getElem h0))
def In64 (z : Int) : Prop := (-9223372036854775808 : Int) ≤ z ∧ z ≤ 9223372036854775807
def OpA.row (o : OpA) : List Value := [.int .i64 o.k, .int .i64 o.who, .int .i64 o.a, .int .i64 o.b, .int .i64 o.h, .string ⟨o.n.toArray⟩, .int .i64 o.d, .int .i64 o.u, .slice o.la o.K o.cap]
section
variable {H : Type} {enc : TypeId × Value → H} {W : World} {fuel : Nat} {cs : List Value} {x : DataW H × List MemPlace}
set_option maxRecDepth 100000
set_option maxHeartbeats 1600000
theorem t_int {t : TypeId} (hu : Try.prog.underlying t = some (.int .i64)) (h : DataW.trod enc Try.prog W 0 (fun _ => true) true fuel t cs = some x) : ∃ z, cs = [.int .i64 z] ∧ In64 z := by
  obtain ⟨z, e, _, hw⟩ := DataW.trod_int hu h
  have := bounds_i64 hw
  exact ⟨z, e, by unfold In64; omega⟩
theorem t_str {t : TypeId} (hu : Try.prog.underlying t = some .string) (h : DataW.trod enc Try.prog W 0 (fun _ => true) true fuel t cs = some x) (hw : ∀ n ∈ x.1.weights Try.prog t, n ≤ reachBytes) : ∃ s : List UInt8, cs = [.string ⟨s.toArray⟩] ∧ s.length ≤ 140737488351232 := by
  obtain ⟨s, e, hx, _⟩ := DataW.trod_string hu h
  refine ⟨s.data.toList, e, ?_⟩
  have := hw s.data.toList.length (by rw [hx]; simp [DataW.weights])
  exact this
theorem t_two {t : TypeId} {f0 f1 : Field} (hu : Try.prog.underlying t = some (.struct #[f0, f1])) (hc : Try.prog.cellsOf t = 2) (t0 : f0.type = 3) (t1 : f1.type = 3) (o0 : f0.offset = 0) (o1 : f1.offset = 1)
    (h : DataW.trod enc Try.prog W 0 (fun _ => true) true fuel t cs = some x) : ∃ a b, cs = [.int .i64 a, .int .i64 b] ∧ In64 a ∧ In64 b := by
  obtain ⟨xs, m, _, hx, hl, hxl, hf⟩ := DataW.trod_struct hu h
  have hxl' : xs.length = 2 := hxl
  rw [hc] at hl
  obtain ⟨c0, l1, rfl, k1⟩ := uncons hl
  obtain ⟨c1, l2, rfl, k2⟩ := uncons k1
  obtain rfl := List.eq_nil_of_length_eq_zero k2
  have h0 := hf 0 f0 rfl
  have h1 := hf 1 f1 rfl
  rw [t0, o0, cells3, List.getElem?_eq_getElem (by omega)] at h0
  rw [t1, o1, cells3, List.getElem?_eq_getElem (by omega)] at h1
  obtain ⟨a, ea, ha⟩ := t_int Try.underlying3 h0
  obtain ⟨b, eb, hb⟩ := t_int Try.underlying3 h1
  simp only [List.drop_zero, List.take_succ_cons, List.take_zero, List.cons.injEq, and_true, List.drop_succ_cons] at ea eb
  exact ⟨a, b, by rw [ea, eb], ha, hb⟩
theorem w_part {t t' : TypeId} {fs : Array Field} {xs : List (DataW H × List MemPlace)} {i : Nat} {y : DataW H × List MemPlace} (hu : Try.prog.underlying t = some (.struct fs)) (hx : x = (.agg (xs.map (·.1)), xs.flatMap (·.2))) (hw : ∀ n ∈ x.1.weights Try.prog t, n ≤ reachBytes)
    (ht : (fs.toList.map (·.type))[i]? = some t') (hy : xs[i]? = some y) : ∀ n ∈ y.1.weights Try.prog t', n ≤ reachBytes := by
  intro n hn
  refine hw n ?_
  rw [hx]
  simp only [DataW.weights, hu]
  exact DataW.weights_mem_each ht (by rw [List.getElem?_map, hy]; rfl) n hn
theorem t_view (h : DataW.trod enc Try.prog W 0 (fun _ => true) true fuel 46 cs = some x) (hw : ∀ n ∈ x.1.weights Try.prog 46, n ≤ reachBytes) :
    ∃ e : Ent, cs = e.cs ∧ e.sane := by
  obtain ⟨xs, mm, _, hx, hl, hxl, hf⟩ := DataW.trod_struct Try.underlying46 h
  have hxl' : xs.length = 6 := hxl
  rw [cells46] at hl
  obtain ⟨c0, l1, rfl, k1⟩ := uncons hl
  obtain ⟨c1, l2, rfl, k2⟩ := uncons k1
  obtain ⟨c2, l3, rfl, k3⟩ := uncons k2
  obtain ⟨c3, l4, rfl, k4⟩ := uncons k3
  obtain ⟨c4, l5, rfl, k5⟩ := uncons k4
  obtain ⟨c5, l6, rfl, k6⟩ := uncons k5
  obtain ⟨c6, l7, rfl, k7⟩ := uncons k6
  obtain rfl := List.eq_nil_of_length_eq_zero k7
  have y0 : xs[0]? = some xs[0] := List.getElem?_eq_getElem (by omega)
  have h0 : DataW.trod enc Try.prog W 0 (fun _ => true) true mm 9 [c0] = some xs[0] := by
    have e : DataW.trod enc Try.prog W 0 (fun _ => true) true mm 9 (List.take (Try.prog.cellsOf 9) (List.drop 0 [c0, c1, c2, c3, c4, c5, c6])) = xs[0]? := hf 0 _ rfl
    rw [cells9, y0] at e
    exact e
  obtain ⟨s0, e0, b0⟩ := t_str Try.underlying9 h0 (w_part Try.underlying46 hx hw (i := 0) rfl y0)
  have y1 : xs[1]? = some xs[1] := List.getElem?_eq_getElem (by omega)
  have h1 : DataW.trod enc Try.prog W 0 (fun _ => true) true mm 3 [c1] = some xs[1] := by
    have e : DataW.trod enc Try.prog W 0 (fun _ => true) true mm 3 (List.take (Try.prog.cellsOf 3) (List.drop 1 [c0, c1, c2, c3, c4, c5, c6])) = xs[1]? := hf 1 _ rfl
    rw [cells3, y1] at e
    exact e
  obtain ⟨z1, e1, b1⟩ := t_int Try.underlying3 h1
  have y2 : xs[2]? = some xs[2] := List.getElem?_eq_getElem (by omega)
  have h2 : DataW.trod enc Try.prog W 0 (fun _ => true) true mm 3 [c2] = some xs[2] := by
    have e : DataW.trod enc Try.prog W 0 (fun _ => true) true mm 3 (List.take (Try.prog.cellsOf 3) (List.drop 2 [c0, c1, c2, c3, c4, c5, c6])) = xs[2]? := hf 2 _ rfl
    rw [cells3, y2] at e
    exact e
  obtain ⟨z2, e2, b2⟩ := t_int Try.underlying3 h2
  have y3 : xs[3]? = some xs[3] := List.getElem?_eq_getElem (by omega)
  have h3 : DataW.trod enc Try.prog W 0 (fun _ => true) true mm 3 [c3] = some xs[3] := by
    have e : DataW.trod enc Try.prog W 0 (fun _ => true) true mm 3 (List.take (Try.prog.cellsOf 3) (List.drop 3 [c0, c1, c2, c3, c4, c5, c6])) = xs[3]? := hf 3 _ rfl
    rw [cells3, y3] at e
    exact e
  obtain ⟨z3, e3, b3⟩ := t_int Try.underlying3 h3
  have y4 : xs[4]? = some xs[4] := List.getElem?_eq_getElem (by omega)
  have h4 : DataW.trod enc Try.prog W 0 (fun _ => true) true mm 44 [c4, c5] = some xs[4] := by
    have e : DataW.trod enc Try.prog W 0 (fun _ => true) true mm 44 (List.take (Try.prog.cellsOf 44) (List.drop 4 [c0, c1, c2, c3, c4, c5, c6])) = xs[4]? := hf 4 _ rfl
    rw [cells44, y4] at e
    exact e
  obtain ⟨p4, q4, e4, b4, d4⟩ := t_two Try.underlying44 cells44 rfl rfl rfl rfl h4
  have y5 : xs[5]? = some xs[5] := List.getElem?_eq_getElem (by omega)
  have h5 : DataW.trod enc Try.prog W 0 (fun _ => true) true mm 3 [c6] = some xs[5] := by
    have e : DataW.trod enc Try.prog W 0 (fun _ => true) true mm 3 (List.take (Try.prog.cellsOf 3) (List.drop 6 [c0, c1, c2, c3, c4, c5, c6])) = xs[5]? := hf 5 _ rfl
    rw [cells3, y5] at e
    exact e
  obtain ⟨z5, e5, b5⟩ := t_int Try.underlying3 h5
  clear hf h hl
  cases e0; cases e1; cases e2; cases e3; cases e4; cases e5
  unfold In64 at b1 b3 b4 d4
  exact ⟨⟨0, s0, z1, z2, z3, p4, q4, z5⟩, rfl, ⟨by show s0.length ≤ _; omega, by show _ ≤ z1 ∧ z1 ≤ _; omega, by show _ ≤ p4 ∧ p4 ≤ _; omega, by show _ ≤ q4 ∧ q4 ≤ _; omega⟩⟩
theorem t_views (h : DataW.trod enc Try.prog W 0 (fun _ => true) true fuel 31 cs = some x) (hw : ∀ n ∈ x.1.weights Try.prog 31, n ≤ reachBytes) :
    ∃ y : Option Addr × Nat × Nat × List Ent, cs = [.slice y.1 y.2.1 y.2.2.1] ∧ y.2.2.2.length = y.2.1 ∧ y.2.1 * 64 ≤ reachBytes ∧ (∀ e ∈ y.2.2.2, e.sane) ∧ FromV W y.1 y.2.2.2 := by
  rcases DataW.trod_slice Try.underlying31 h with ⟨hcs, hx⟩ | ⟨a, len, cap, elems, rest, m, _, hcs, hx, _, hl, hm, hel2, he, _, _⟩
  · exact ⟨(none, 0, 0, []), hcs, rfl, by simp, (fun e he => by cases he), fun h => by simp at h⟩
  · rw [cells46] at he
    have hsize : len * 64 ≤ reachBytes := by
      refine Nat.le_trans ?_ (hw ((elems.length + rest.length) * Try.prog.bytesOf 46) ?_)
      · rw [bytes46]; exact Nat.mul_le_mul_right _ (by omega)
      · rw [hx]
        simp only [DataW.weights, Try.underlying31]
        refine List.mem_cons.2 (.inl ?_)
        simp
    obtain ⟨es, hcl, hcc⟩ := list_of (fun i o => (∃ b off, a.add (i * 7) = ⟨b, off, none⟩ ∧ RowAt W b off (Ent.cs o)) ∧ o.sane) len fun i hi => by
      have h2 := he i hi
      rw [List.getElem?_eq_getElem (by omega), Option.bind_eq_some_iff] at h2
      obtain ⟨cs, hcs2, ht⟩ := h2
      obtain ⟨_, hl2, hcell⟩ := World.cells?_some hcs2
      obtain ⟨o, rfl, ho⟩ := t_view ht fun n hn => hw n (by
        rw [hx]
        simp only [DataW.weights, Try.underlying31]
        refine List.mem_cons.2 (.inr (List.mem_append.2 (.inl ?_)))
        exact weights_all (i := i) (d := elems[i].1) (by rw [List.getElem?_map, List.getElem?_eq_getElem (by omega)]; rfl) n hn)
      have a0 := hcell 0 (by omega)
      rw [List.getElem?_eq_getElem (show 0 < (Ent.cs o).length from Nat.zero_lt_succ _)] at a0
      obtain ⟨b, off, e2⟩ := spot_none (show W.cell? (a.add (i * 7)) = some _ from a0)
      refine ⟨o, ⟨b, off, e2, fun j v hv => ?_⟩, ho⟩
      have hj := (List.getElem?_eq_some_iff.1 hv).1
      have := hcell j (by have : (Ent.cs o).length = 7 := rfl; omega)
      rw [e2, addr_add, hv] at this
      exact this
    refine ⟨(some a, len, cap, es), hcs, hcl, hsize, fun c hcm => ?_, fun hN => ?_⟩
    · obtain ⟨i, hi⟩ := List.getElem?_of_mem hcm
      exact (hcc i c hi).2
    · simp only at hN ⊢
      obtain ⟨⟨b, off, e0, _⟩, _⟩ := hcc 0 es[0] (List.getElem?_eq_getElem (by omega))
      rw [Nat.zero_mul, show a.add 0 = a from rfl] at e0
      subst e0
      refine ⟨b, off, rfl, fun i c hi => ?_⟩
      obtain ⟨⟨b2, off2, e2, h2⟩, _⟩ := hcc i c hi
      rw [addr_add] at e2
      cases e2
      exact ⟨h2 0 _ rfl, h2 1 _ rfl, h2 2 _ rfl, h2 3 _ rfl, h2 4 _ rfl, h2 5 _ rfl, h2 6 _ rfl⟩
theorem t_opv (h : DataW.trod enc Try.prog W 0 (fun _ => true) true fuel 92 cs = some x) (hw : ∀ n ∈ x.1.weights Try.prog 92, n ≤ reachBytes) :
    ∃ o : OpA, cs = o.row ∧ (o.ok ∧ FromV W o.la o.es) := by
  obtain ⟨xs, mm, _, hx, hl, hxl, hf⟩ := DataW.trod_struct Try.underlying92 h
  have hxl' : xs.length = 8 := hxl
  rw [cells92] at hl
  obtain ⟨c0, l1, rfl, k1⟩ := uncons hl
  obtain ⟨c1, l2, rfl, k2⟩ := uncons k1
  obtain ⟨c2, l3, rfl, k3⟩ := uncons k2
  obtain ⟨c3, l4, rfl, k4⟩ := uncons k3
  obtain ⟨c4, l5, rfl, k5⟩ := uncons k4
  obtain ⟨c5, l6, rfl, k6⟩ := uncons k5
  obtain ⟨c6, l7, rfl, k7⟩ := uncons k6
  obtain ⟨c7, l8, rfl, k8⟩ := uncons k7
  obtain ⟨c8, l9, rfl, k9⟩ := uncons k8
  obtain rfl := List.eq_nil_of_length_eq_zero k9
  have y0 : xs[0]? = some xs[0] := List.getElem?_eq_getElem (by omega)
  have h0 : DataW.trod enc Try.prog W 0 (fun _ => true) true mm 3 [c0] = some xs[0] := by
    have e : DataW.trod enc Try.prog W 0 (fun _ => true) true mm 3 (List.take (Try.prog.cellsOf 3) (List.drop 0 [c0, c1, c2, c3, c4, c5, c6, c7, c8])) = xs[0]? := hf 0 _ rfl
    rw [cells3, y0] at e
    exact e
  obtain ⟨z0, e0, b0⟩ := t_int Try.underlying3 h0
  have y1 : xs[1]? = some xs[1] := List.getElem?_eq_getElem (by omega)
  have h1 : DataW.trod enc Try.prog W 0 (fun _ => true) true mm 3 [c1] = some xs[1] := by
    have e : DataW.trod enc Try.prog W 0 (fun _ => true) true mm 3 (List.take (Try.prog.cellsOf 3) (List.drop 1 [c0, c1, c2, c3, c4, c5, c6, c7, c8])) = xs[1]? := hf 1 _ rfl
    rw [cells3, y1] at e
    exact e
  obtain ⟨z1, e1, b1⟩ := t_int Try.underlying3 h1
  have y2 : xs[2]? = some xs[2] := List.getElem?_eq_getElem (by omega)
  have h2 : DataW.trod enc Try.prog W 0 (fun _ => true) true mm 3 [c2] = some xs[2] := by
    have e : DataW.trod enc Try.prog W 0 (fun _ => true) true mm 3 (List.take (Try.prog.cellsOf 3) (List.drop 2 [c0, c1, c2, c3, c4, c5, c6, c7, c8])) = xs[2]? := hf 2 _ rfl
    rw [cells3, y2] at e
    exact e
  obtain ⟨z2, e2, b2⟩ := t_int Try.underlying3 h2
  have y3 : xs[3]? = some xs[3] := List.getElem?_eq_getElem (by omega)
  have h3 : DataW.trod enc Try.prog W 0 (fun _ => true) true mm 3 [c3] = some xs[3] := by
    have e : DataW.trod enc Try.prog W 0 (fun _ => true) true mm 3 (List.take (Try.prog.cellsOf 3) (List.drop 3 [c0, c1, c2, c3, c4, c5, c6, c7, c8])) = xs[3]? := hf 3 _ rfl
    rw [cells3, y3] at e
    exact e
  obtain ⟨z3, e3, b3⟩ := t_int Try.underlying3 h3
  have y4 : xs[4]? = some xs[4] := List.getElem?_eq_getElem (by omega)
  have h4 : DataW.trod enc Try.prog W 0 (fun _ => true) true mm 3 [c4] = some xs[4] := by
    have e : DataW.trod enc Try.prog W 0 (fun _ => true) true mm 3 (List.take (Try.prog.cellsOf 3) (List.drop 4 [c0, c1, c2, c3, c4, c5, c6, c7, c8])) = xs[4]? := hf 4 _ rfl
    rw [cells3, y4] at e
    exact e
  obtain ⟨z4, e4, b4⟩ := t_int Try.underlying3 h4
  have y5 : xs[5]? = some xs[5] := List.getElem?_eq_getElem (by omega)
  have h5 : DataW.trod enc Try.prog W 0 (fun _ => true) true mm 9 [c5] = some xs[5] := by
    have e : DataW.trod enc Try.prog W 0 (fun _ => true) true mm 9 (List.take (Try.prog.cellsOf 9) (List.drop 5 [c0, c1, c2, c3, c4, c5, c6, c7, c8])) = xs[5]? := hf 5 _ rfl
    rw [cells9, y5] at e
    exact e
  obtain ⟨s5, e5, b5⟩ := t_str Try.underlying9 h5 (w_part Try.underlying92 hx hw (i := 5) rfl y5)
  have y6 : xs[6]? = some xs[6] := List.getElem?_eq_getElem (by omega)
  have h6 : DataW.trod enc Try.prog W 0 (fun _ => true) true mm 44 [c6, c7] = some xs[6] := by
    have e : DataW.trod enc Try.prog W 0 (fun _ => true) true mm 44 (List.take (Try.prog.cellsOf 44) (List.drop 6 [c0, c1, c2, c3, c4, c5, c6, c7, c8])) = xs[6]? := hf 6 _ rfl
    rw [cells44, y6] at e
    exact e
  obtain ⟨p6, q6, e6, b6, d6⟩ := t_two Try.underlying44 cells44 rfl rfl rfl rfl h6
  have y7 : xs[7]? = some xs[7] := List.getElem?_eq_getElem (by omega)
  have h7 : DataW.trod enc Try.prog W 0 (fun _ => true) true mm 31 [c8] = some xs[7] := by
    have e : DataW.trod enc Try.prog W 0 (fun _ => true) true mm 31 (List.take (Try.prog.cellsOf 31) (List.drop 8 [c0, c1, c2, c3, c4, c5, c6, c7, c8])) = xs[7]? := hf 7 _ rfl
    rw [cells31, y7] at e
    exact e
  obtain ⟨v7, e7, b7⟩ := t_views h7 (w_part Try.underlying92 hx hw (i := 7) rfl y7)
  clear hf h hl
  cases e0; cases e1; cases e2; cases e3; cases e4; cases e5; cases e6
  obtain ⟨la, K, vc, es⟩ := v7
  simp only at e7 b7
  cases e7
  unfold In64 at b2 b6 d6
  unfold reachBytes at b7
  exact ⟨⟨z0, z1, z2, z3, z4, s5, p6, q6, la, K, vc, es⟩, rfl, ⟨by unfold I64; exact b2, by show s5.length ≤ _; omega, by unfold I64; exact b6, by unfold I64; exact d6, b7.1, by show (K + 2) * 64 ≤ _; have := b7.2.1; omega, b7.2.2.1⟩, b7.2.2.2⟩
/-- A slice that came in, whatever its elements. -/
theorem open_rows {α : Type} (T e : TypeId) (sz : Nat) (f : α → List Value) (ok : α → Prop) (hu : Try.prog.underlying T = some (.slice e)) (hc : Try.prog.cellsOf e = sz) (h1 : 0 < sz) (hfl : ∀ a, (f a).length = sz)
    (hel : ∀ (fuel : Nat) (cs : List Value) (x : DataW H × List MemPlace), DataW.trod enc Try.prog W 0 (fun _ => true) true fuel e cs = some x → (∀ n ∈ x.1.weights Try.prog e, n ≤ reachBytes) → ∃ a, cs = f a ∧ ok a)
    {base : Nat} {v : Value} {d : DataW H} {p : List MemPlace} (hval : Value.okWide Try.prog W .any base T v) (h0 : DataW.Trod enc Try.prog W 0 (fun _ => true) true T v d p) (hsz : ∀ n ∈ d.weights Try.prog T, n ≤ reachBytes) :
    ∃ (ao : Option Addr) (N cap : Nat) (os : List α), v = .slice ao N cap ∧ os.length = N ∧ N ≤ cap ∧ cap ≤ maxLen ∧ (∀ o ∈ os, ok o) ∧ (ao = none → N = 0 ∧ cap = 0) ∧ (0 < N → ∃ b off, ao = some ⟨b, off, none⟩ ∧ ∀ i o, os[i]? = some o → RowAt W b (off + i * sz) (f o)) := by
  obtain ⟨a0, len, cap, rfl⟩ := okWide_slice hu hval
  obtain ⟨fuel, hf⟩ := h0
  rcases DataW.trod_slice hu hf with ⟨hcs, hx⟩ | ⟨a, len', cap', elems, rest, m, _, hcs, hx, _, hl, hm, hel2, he, _, _⟩
  · have e : Value.slice a0 len cap = .slice none 0 0 := by simpa [Value.cells] using hcs
    cases e
    exact ⟨none, 0, 0, [], rfl, rfl, Nat.le_refl _, Nat.zero_le _, (fun c hc => by cases hc), fun _ => ⟨rfl, rfl⟩, fun h => by omega⟩
  · have e : Value.slice a0 len cap = .slice (some a) len' cap' := by simpa [Value.cells] using hcs
    cases e
    rw [hc] at he
    have hxd : d = .slice (elems.map (·.1)) (rest.map (·.1)) := (Prod.mk.inj hx).1
    obtain ⟨cs, hcl, hcc⟩ := list_of (fun i o => (∃ b off, a.add (i * sz) = ⟨b, off, none⟩ ∧ RowAt W b off (f o)) ∧ ok o) len fun i hi => by
      have h2 := he i hi
      rw [List.getElem?_eq_getElem (by omega), Option.bind_eq_some_iff] at h2
      obtain ⟨cs, hcs2, ht⟩ := h2
      obtain ⟨_, hl2, hcell⟩ := World.cells?_some hcs2
      obtain ⟨o, rfl, ho⟩ := hel _ _ _ ht fun n hn => hsz n (by
        rw [hxd]
        simp only [DataW.weights, hu]
        refine List.mem_cons.2 (.inr (List.mem_append.2 (.inl ?_)))
        exact weights_all (i := i) (d := elems[i].1) (by rw [List.getElem?_map, List.getElem?_eq_getElem (by omega)]; rfl) n hn)
      have a0 := hcell 0 (by omega)
      rw [List.getElem?_eq_getElem (by rw [hfl]; exact h1)] at a0
      obtain ⟨b, off, e2⟩ := spot_none (show W.cell? (a.add (i * sz)) = some _ from a0)
      refine ⟨o, ⟨b, off, e2, fun j v hv => ?_⟩, ho⟩
      have hj := (List.getElem?_eq_some_iff.1 hv).1
      have := hcell j (by rw [hfl] at hj; omega)
      rw [e2, addr_add, hv] at this
      exact this
    refine ⟨some a, len, cap, cs, rfl, hcl, hl, by omega, fun c hcm => ?_, (fun h => by cases h), fun hN => ?_⟩
    · obtain ⟨i, hi⟩ := List.getElem?_of_mem hcm
      exact (hcc i c hi).2
    · obtain ⟨⟨b, off, e0, _⟩, _⟩ := hcc 0 cs[0] (List.getElem?_eq_getElem (by omega))
      rw [Nat.zero_mul, show a.add 0 = a from rfl] at e0
      subst e0
      refine ⟨b, off, rfl, fun i c hi => ?_⟩
      obtain ⟨⟨b2, off2, e2, h2⟩, _⟩ := hcc i c hi
      rw [addr_add] at e2
      cases e2
      exact h2
end
set_option maxRecDepth 100000 in
/-- The script that came in. -/
theorem open_script {H : Type} {enc : TypeId × Value → H} {W : World} {base : Nat} {v : Value} {d : DataW H} {p : List MemPlace} (hval : Value.okWide Try.prog W .any base 59 v) (h0 : DataW.Trod enc Try.prog W 0 (fun _ => true) true 59 v d p) (hsz : ∀ n ∈ d.weights Try.prog 59, n ≤ reachBytes) :
    ∃ (ao : Option Addr) (N cap : Nat) (os : List OpA), v = .slice ao N cap ∧ N ≤ maxLen ∧ RunOk (fun _ => True) ao N os W := by
  obtain ⟨ao, N, cap, os, e, hl, hnc, hcm, hok, hn, hat⟩ := open_rows 59 92 9 OpA.row (fun o => o.ok ∧ FromV W o.la o.es) Try.underlying59 cells92 (by decide) (fun _ => rfl) (fun fuel cs x h hw => t_opv h hw) hval h0 hsz
  refine ⟨ao, N, cap, os, e, by omega, hl, fun o ho => (hok o ho).1, fun hN => ?_⟩
  obtain ⟨b, off, ea, hr⟩ := hat hN
  refine ⟨b, off, ea, fun i o ho => ?_⟩
  have h := hr i o ho
  exact ⟨h 0 _ rfl, h 1 _ rfl, h 2 _ rfl, h 3 _ rfl, h 4 _ rfl, h 5 _ rfl, h 6 _ rfl, h 7 _ rfl, h 8 _ rfl, (hok o (List.mem_of_getElem? ho)).2⟩
end Go.Proofs.Ytdblbjcdnkiepaa
