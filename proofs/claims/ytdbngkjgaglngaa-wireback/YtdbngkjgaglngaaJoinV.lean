import Derived.Test.YtdbngkjgaglngaaRows
import Derived.Test.YtdbngkjgaglngaaBase
import Derived.WalkKit
import Derived.ProofKit
import Derived.OpenShut
import Derived.SizedLaws
import Derived.Test.YtdbngkjgaglngaaRMsg0
import Derived.Test.YtdbngkjgaglngaaRefY1
import Derived.Test.YtdbngkjgaglngaaRefY3
import Derived.Test.YtdbngkjgaglngaaRefY4
import Derived.Test.YtdbngkjgaglngaaJoinW
import Derived.Test.YtdbngkjgaglngaaJoinY
import Derived.Deep.Cut
namespace Go.Proofs.Ytdbngkjgaglngaa
open Go.ChangeShapes Go.WideShapes Go.ChangeAt Go.RowKit Go.WideMaps Go.WideElems

theorem own : ownKnob Try.prog.godebug = none := by kernel_rfl
theorem laidOut : laidOutB Try.prog = true := by kernel_rfl
theorem cells5 : Try.prog.cellsOf 5 = 1 := by kernel_rfl

theorem bytes5 : Try.prog.bytesOf 5 = 1 := by kernel_rfl
end Go.Proofs.Ytdbngkjgaglngaa
namespace Go.Proofs.Ytdbngkjgaglngaa
open Go.ChangeShapes Go.WideShapes Go.ChangeAt Go.RowKit Go.WideMaps Go.WideElems
set_option linter.unusedSimpArgs false

theorem cells3 : Try.prog.cellsOf 3 = 1 := by kernel_rfl
theorem cells9 : Try.prog.cellsOf 9 = 1 := by kernel_rfl
theorem cells25 : Try.prog.cellsOf 25 = 2 := by kernel_rfl
theorem cells27 : Try.prog.cellsOf 27 = 2 := by kernel_rfl
theorem cells29 : Try.prog.cellsOf 29 = 2 := by kernel_rfl
theorem cells31 : Try.prog.cellsOf 31 = 4 := by kernel_rfl
theorem cells32 : Try.prog.cellsOf 32 = 1 := by kernel_rfl
theorem cells33 : Try.prog.cellsOf 33 = 1 := by kernel_rfl
theorem cells35 : Try.prog.cellsOf 35 = 20 := by kernel_rfl
theorem cells112 : Try.prog.cellsOf 105 = 7 := by kernel_rfl

theorem uncons {α : Type} {l : List α} {n : Nat} (h : l.length = n + 1) : ∃ a t, l = a :: t ∧ t.length = n := by
  cases l with
  | nil => simp at h
  | cons a t => exact ⟨a, t, rfl, by simpa using h⟩
def In64 (z : Int) : Prop := (-9223372036854775808 : Int) ≤ z ∧ z < 9223372036854775808
section
variable {H : Type} {enc : TypeId × Value → H} {W : World} {fuel : Nat} {cs : List Value} {x : DataW H × List MemPlace}
set_option maxRecDepth 100000
set_option maxHeartbeats 1600000
theorem t_int {t : TypeId} (hu : Try.prog.underlying t = some (.int .i64)) (h : DataW.trod enc Try.prog W 0 (fun _ => true) true fuel t cs = some x) : ∃ z, cs = [.int .i64 z] ∧ In64 z := by
  obtain ⟨z, e, _, hw⟩ := DataW.trod_int hu h
  have := bounds_i64 hw
  exact ⟨z, e, by unfold In64; omega⟩
theorem t_str {t : TypeId} (hu : Try.prog.underlying t = some .string) (h : DataW.trod enc Try.prog W 0 (fun _ => true) true fuel t cs = some x) (hw : ∀ n ∈ x.1.weights Try.prog t, n ≤ reachBytes) : ∃ s : List UInt8, cs = [Str s] ∧ s.length ≤ 140737488351232 := by
  obtain ⟨s, e, hx, _⟩ := DataW.trod_string hu h
  refine ⟨s.data.toList, e, ?_⟩
  have := hw s.data.toList.length (by rw [hx]; simp [DataW.weights])
  exact this
theorem t_two {t : TypeId} {f0 f1 : Field} (hu : Try.prog.underlying t = some (.struct #[f0, f1])) (hc : Try.prog.cellsOf t = 2) (t0 : f0.type = 3) (t1 : f1.type = 3) (o0 : f0.offset = 0) (o1 : f1.offset = 1)
    (h : DataW.trod enc Try.prog W 0 (fun _ => true) true fuel t cs = some x) : ∃ a b, cs = [.int .i64 a, .int .i64 b] ∧ In64 a ∧ In64 b := by
  obtain ⟨xs, m, _, hx, hl, hxl, hf⟩ := DataW.trod_struct hu h
  have hxl' : xs.length = 2 := hxl
  rw [hc] at hl
  obtain ⟨c0, l1, rfl, k1⟩ := uncons hl
  obtain ⟨c1, l2, rfl, k2⟩ := uncons k1
  obtain rfl := List.eq_nil_of_length_eq_zero k2
  have h0 := hf 0 f0 rfl
  have h1 := hf 1 f1 rfl
  rw [t0, o0, cells3, List.getElem?_eq_getElem (by omega)] at h0
  rw [t1, o1, cells3, List.getElem?_eq_getElem (by omega)] at h1
  obtain ⟨a, ea, ha⟩ := t_int Try.underlying3 h0
  obtain ⟨b, eb, hb⟩ := t_int Try.underlying3 h1
  simp only [List.drop_zero, List.take_succ_cons, List.take_zero, List.cons.injEq, and_true, List.drop_succ_cons] at ea eb
  exact ⟨a, b, by rw [ea, eb], ha, hb⟩
theorem w_part {t t' : TypeId} {fs : Array Field} {xs : List (DataW H × List MemPlace)} {i : Nat} {y : DataW H × List MemPlace} (hu : Try.prog.underlying t = some (.struct fs)) (hx : x = (.agg (xs.map (·.1)), xs.flatMap (·.2))) (hw : ∀ n ∈ x.1.weights Try.prog t, n ≤ reachBytes)
    (ht : (fs.toList.map (·.type))[i]? = some t') (hy : xs[i]? = some y) : ∀ n ∈ y.1.weights Try.prog t', n ≤ reachBytes := by
  intro n hn
  refine hw n ?_
  rw [hx]
  simp only [DataW.weights, hu]
  exact DataW.weights_mem_each ht (by rw [List.getElem?_map, hy]; rfl) n hn
theorem t_op (h : DataW.trod enc Try.prog W 0 (fun _ => true) true fuel 31 cs = some x) (hw : ∀ n ∈ x.1.weights Try.prog 31, n ≤ reachBytes) :
    ∃ k s a b, cs = [.int .i64 k, Str s, .int .i64 a, .int .i64 b] ∧ s.length ≤ 140737488351232 ∧ In64 a ∧ In64 b := by
  obtain ⟨xs, mm, _, hx, hl, hxl, hf⟩ := DataW.trod_struct Try.underlying31 h
  have hxl' : xs.length = 4 := hxl
  rw [cells31] at hl
  obtain ⟨c0, l1, rfl, k1⟩ := uncons hl
  obtain ⟨c1, l2, rfl, k2⟩ := uncons k1
  obtain ⟨c2, l3, rfl, k3⟩ := uncons k2
  obtain ⟨c3, l4, rfl, k4⟩ := uncons k3
  obtain rfl := List.eq_nil_of_length_eq_zero k4
  have y0 : xs[0]? = some xs[0] := List.getElem?_eq_getElem (by omega)
  have h0 : DataW.trod enc Try.prog W 0 (fun _ => true) true mm 3 [c0] = some xs[0] := by
    have e : DataW.trod enc Try.prog W 0 (fun _ => true) true mm 3 (List.take (Try.prog.cellsOf 3) (List.drop 0 [c0, c1, c2, c3])) = xs[0]? := hf 0 _ rfl
    rw [cells3, y0] at e
    exact e
  obtain ⟨z0, e0, b0⟩ := t_int Try.underlying3 h0
  have y1 : xs[1]? = some xs[1] := List.getElem?_eq_getElem (by omega)
  have h1 : DataW.trod enc Try.prog W 0 (fun _ => true) true mm 9 [c1] = some xs[1] := by
    have e : DataW.trod enc Try.prog W 0 (fun _ => true) true mm 9 (List.take (Try.prog.cellsOf 9) (List.drop 1 [c0, c1, c2, c3])) = xs[1]? := hf 1 _ rfl
    rw [cells9, y1] at e
    exact e
  obtain ⟨s1, e1, b1⟩ := t_str Try.underlying9 h1 (w_part Try.underlying31 hx hw (i := 1) rfl y1)
  have y2 : xs[2]? = some xs[2] := List.getElem?_eq_getElem (by omega)
  have h2 : DataW.trod enc Try.prog W 0 (fun _ => true) true mm 3 [c2] = some xs[2] := by
    have e : DataW.trod enc Try.prog W 0 (fun _ => true) true mm 3 (List.take (Try.prog.cellsOf 3) (List.drop 2 [c0, c1, c2, c3])) = xs[2]? := hf 2 _ rfl
    rw [cells3, y2] at e
    exact e
  obtain ⟨z2, e2, b2⟩ := t_int Try.underlying3 h2
  have y3 : xs[3]? = some xs[3] := List.getElem?_eq_getElem (by omega)
  have h3 : DataW.trod enc Try.prog W 0 (fun _ => true) true mm 3 [c3] = some xs[3] := by
    have e : DataW.trod enc Try.prog W 0 (fun _ => true) true mm 3 (List.take (Try.prog.cellsOf 3) (List.drop 3 [c0, c1, c2, c3])) = xs[3]? := hf 3 _ rfl
    rw [cells3, y3] at e
    exact e
  obtain ⟨z3, e3, b3⟩ := t_int Try.underlying3 h3
  clear hf h hl
  cases e0; cases e1; cases e2; cases e3
  exact ⟨z0, s1, z2, z3, rfl, b1, b2, b3⟩
theorem t_view (h : DataW.trod enc Try.prog W 0 (fun _ => true) true fuel 105 cs = some x) (hw : ∀ n ∈ x.1.weights Try.prog 105, n ≤ reachBytes) :
    ∃ v : View, cs = viewCells v ∧ v.name.length ≤ 140737488351232 := by
  obtain ⟨xs, mm, _, hx, hl, hxl, hf⟩ := DataW.trod_struct Try.underlying105 h
  have hxl' : xs.length = 6 := hxl
  rw [cells112] at hl
  obtain ⟨c0, l1, rfl, k1⟩ := uncons hl
  obtain ⟨c1, l2, rfl, k2⟩ := uncons k1
  obtain ⟨c2, l3, rfl, k3⟩ := uncons k2
  obtain ⟨c3, l4, rfl, k4⟩ := uncons k3
  obtain ⟨c4, l5, rfl, k5⟩ := uncons k4
  obtain ⟨c5, l6, rfl, k6⟩ := uncons k5
  obtain ⟨c6, l7, rfl, k7⟩ := uncons k6
  obtain rfl := List.eq_nil_of_length_eq_zero k7
  have y0 : xs[0]? = some xs[0] := List.getElem?_eq_getElem (by omega)
  have h0 : DataW.trod enc Try.prog W 0 (fun _ => true) true mm 9 [c0] = some xs[0] := by
    have e : DataW.trod enc Try.prog W 0 (fun _ => true) true mm 9 (List.take (Try.prog.cellsOf 9) (List.drop 0 [c0, c1, c2, c3, c4, c5, c6])) = xs[0]? := hf 0 _ rfl
    rw [cells9, y0] at e
    exact e
  obtain ⟨s0, e0, b0⟩ := t_str Try.underlying9 h0 (w_part Try.underlying105 hx hw (i := 0) rfl y0)
  have y1 : xs[1]? = some xs[1] := List.getElem?_eq_getElem (by omega)
  have h1 : DataW.trod enc Try.prog W 0 (fun _ => true) true mm 3 [c1] = some xs[1] := by
    have e : DataW.trod enc Try.prog W 0 (fun _ => true) true mm 3 (List.take (Try.prog.cellsOf 3) (List.drop 1 [c0, c1, c2, c3, c4, c5, c6])) = xs[1]? := hf 1 _ rfl
    rw [cells3, y1] at e
    exact e
  obtain ⟨z1, e1, b1⟩ := t_int Try.underlying3 h1
  have y2 : xs[2]? = some xs[2] := List.getElem?_eq_getElem (by omega)
  have h2 : DataW.trod enc Try.prog W 0 (fun _ => true) true mm 3 [c2] = some xs[2] := by
    have e : DataW.trod enc Try.prog W 0 (fun _ => true) true mm 3 (List.take (Try.prog.cellsOf 3) (List.drop 2 [c0, c1, c2, c3, c4, c5, c6])) = xs[2]? := hf 2 _ rfl
    rw [cells3, y2] at e
    exact e
  obtain ⟨z2, e2, b2⟩ := t_int Try.underlying3 h2
  have y3 : xs[3]? = some xs[3] := List.getElem?_eq_getElem (by omega)
  have h3 : DataW.trod enc Try.prog W 0 (fun _ => true) true mm 3 [c3] = some xs[3] := by
    have e : DataW.trod enc Try.prog W 0 (fun _ => true) true mm 3 (List.take (Try.prog.cellsOf 3) (List.drop 3 [c0, c1, c2, c3, c4, c5, c6])) = xs[3]? := hf 3 _ rfl
    rw [cells3, y3] at e
    exact e
  obtain ⟨z3, e3, b3⟩ := t_int Try.underlying3 h3
  have y4 : xs[4]? = some xs[4] := List.getElem?_eq_getElem (by omega)
  have h4 : DataW.trod enc Try.prog W 0 (fun _ => true) true mm 27 [c4, c5] = some xs[4] := by
    have e : DataW.trod enc Try.prog W 0 (fun _ => true) true mm 27 (List.take (Try.prog.cellsOf 27) (List.drop 4 [c0, c1, c2, c3, c4, c5, c6])) = xs[4]? := hf 4 _ rfl
    rw [cells27, y4] at e
    exact e
  obtain ⟨p4, q4, e4, b4, b4'⟩ := t_two Try.underlying27 cells27 rfl rfl rfl rfl h4
  have y5 : xs[5]? = some xs[5] := List.getElem?_eq_getElem (by omega)
  have h5 : DataW.trod enc Try.prog W 0 (fun _ => true) true mm 3 [c6] = some xs[5] := by
    have e : DataW.trod enc Try.prog W 0 (fun _ => true) true mm 3 (List.take (Try.prog.cellsOf 3) (List.drop 6 [c0, c1, c2, c3, c4, c5, c6])) = xs[5]? := hf 5 _ rfl
    rw [cells3, y5] at e
    exact e
  obtain ⟨z5, e5, b5⟩ := t_int Try.underlying3 h5
  clear hf h hl
  cases e0; cases e1; cases e2; cases e3; cases e4; cases e5
  exact ⟨⟨s0, z1, z2, z3, p4, q4, z5⟩, rfl, b0⟩
theorem list_of {α : Type} (P : Nat → α → Prop) : ∀ n, (∀ i, i < n → ∃ c, P i c) → ∃ cs : List α, cs.length = n ∧ ∀ i c, cs[i]? = some c → P i c
  | 0, _ => ⟨[], rfl, fun i c h => by simp at h⟩
  | n + 1, h => by
    obtain ⟨cs, hl, hc⟩ := list_of P n fun i hi => h i (by omega)
    obtain ⟨c, hP⟩ := h n (by omega)
    refine ⟨cs ++ [c], by simp [hl], fun i c' hi => ?_⟩
    by_cases hin : i < n
    · rw [List.getElem?_append_left (by omega)] at hi
      exact hc i c' hi
    · rw [List.getElem?_append_right (by omega)] at hi
      by_cases e0 : i - cs.length = 0
      · rw [e0] at hi
        cases hi
        rw [show i = n from by omega]
        exact hP
      · rw [List.getElem?_eq_none (by simp; omega)] at hi; cases hi
theorem w_all {e : TypeId} : ∀ {ds : List (DataW H)} {i : Nat} {d : DataW H}, ds[i]? = some d → ∀ n ∈ d.weights Try.prog e, n ∈ DataW.weightsAll Try.prog e ds
  | d0 :: ds, 0, d, hd, n, hn => by
    simp only [List.getElem?_cons_zero, Option.some.injEq] at hd
    subst hd
    simp only [DataW.weightsAll, List.mem_append]
    exact .inl hn
  | d0 :: ds, i + 1, d, hd, n, hn => by
    simp only [List.getElem?_cons_succ] at hd
    simp only [DataW.weightsAll, List.mem_append]
    exact .inr (w_all hd n hn)
  | [], _, _, hd, _, _ => by simp at hd
theorem spot_none {a : Addr} {v : Value} (h : W.cell? a = some v) : a.spot = none := by
  cases hs : a.spot with
  | none => rfl
  | some k =>
    rw [World.cell?] at h
    split at h
    · rw [hs] at h; simp at h
    · cases h
theorem add_none {a : Addr} (hs : a.spot = none) (k : Nat) : a.add k = ⟨a.block, a.off + k, none⟩ := by
  unfold Addr.add
  split
  · rename_i e; subst e; obtain ⟨b, o, s⟩ := a; simp only at hs; subst hs; rfl
  · rfl
theorem t_views (h : DataW.trod enc Try.prog W 0 (fun _ => true) true fuel 33 cs = some x) (hw : ∀ n ∈ x.1.weights Try.prog 33, n ≤ reachBytes) :
    ∃ (ao : Option Addr) (cv : Nat) (vs : List View), cs = [.slice ao vs.length cv] ∧ VFrom W ao vs ∧ ∀ v ∈ vs, v.name.length ≤ 140737488351232 := by
  rcases DataW.trod_slice Try.underlying33 h with ⟨hcs, _⟩ | ⟨a, len, cap, elems, rest, mm, _, hcs, hx, _, hl, hm, hel, he, _, _⟩
  · exact ⟨none, 0, [], hcs, (fun i x h => by simp at h), fun v hv => by cases hv⟩
  · rw [cells112] at he
    have hxd : x.1 = .slice (elems.map (·.1)) (rest.map (·.1)) := by rw [hx]
    obtain ⟨vs, hvl, hv⟩ := list_of (fun i v => (∀ j c, (viewCells v)[j]? = some c → W.cell? ((a.add (i * 7)).add j) = some c) ∧ v.name.length ≤ 140737488351232) len fun i hi => by
      have h1 := he i hi
      rw [List.getElem?_eq_getElem (by omega), Option.bind_eq_some_iff] at h1
      obtain ⟨cs', hcs', ht⟩ := h1
      obtain ⟨_, hl', hcell⟩ := World.cells?_some hcs'
      obtain ⟨v, rfl, hvn⟩ := t_view ht fun n hn => hw n (by
        rw [hxd]
        simp only [DataW.weights, Try.underlying33]
        refine List.mem_cons.2 (.inr (List.mem_append.2 (.inl ?_)))
        exact w_all (i := i) (d := elems[i].1) (by rw [List.getElem?_map, List.getElem?_eq_getElem (by omega)]; rfl) n hn)
      refine ⟨v, fun j c hc => ?_, hvn⟩
      have hj : j < 7 := by have := (List.getElem?_eq_some_iff.1 hc).1; simpa [viewCells] using this
      rw [hcell j hj, hc]
    refine ⟨some a, cap, vs, by rw [hvl]; exact hcs, fun i v hi => ?_, fun v hvm => ?_⟩
    · have hi' : i < len := by have := (List.getElem?_eq_some_iff.1 hi).1; omega
      have h00 := (hv 0 vs[0] (List.getElem?_eq_getElem (by omega))).1 0 _ rfl
      have hs : a.spot = none := by
        have := spot_none h00
        simpa [Addr.add] using this
      refine ⟨a.block, a.off, by obtain ⟨b, o, s⟩ := a; simp only at hs; subst hs; rfl, fun j c hc => ?_⟩
      have := (hv i v hi).1 j c hc
      rwa [add_none hs, add_none rfl] at this
    · obtain ⟨i, hi⟩ := List.getElem?_of_mem hvm
      exact (hv i v hi).2
theorem t_msg (h : DataW.trod enc Try.prog W 0 (fun _ => true) true fuel 35 cs = some x) (hw : ∀ n ∈ x.1.weights Try.prog 35, n ≤ reachBytes) :
    ∃ (m : Msg) (ao : Option Addr) (cv : Nat), cs = (msgCells m (.slice ao m.views.length cv)).toList ∧ VFrom W ao m.views ∧ m.name.length ≤ 140737488351232 ∧ m.oname.length ≤ 140737488351232 ∧ In64 m.oa ∧ In64 m.ob ∧ ∀ v ∈ m.views, v.name.length ≤ 140737488351232 := by
  obtain ⟨xs, mm, _, hx, hl, hxl, hf⟩ := DataW.trod_struct Try.underlying35 h
  have hxl' : xs.length = 13 := hxl
  rw [cells35] at hl
  obtain ⟨c0, l1, rfl, k1⟩ := uncons hl
  obtain ⟨c1, l2, rfl, k2⟩ := uncons k1
  obtain ⟨c2, l3, rfl, k3⟩ := uncons k2
  obtain ⟨c3, l4, rfl, k4⟩ := uncons k3
  obtain ⟨c4, l5, rfl, k5⟩ := uncons k4
  obtain ⟨c5, l6, rfl, k6⟩ := uncons k5
  obtain ⟨c6, l7, rfl, k7⟩ := uncons k6
  obtain ⟨c7, l8, rfl, k8⟩ := uncons k7
  obtain ⟨c8, l9, rfl, k9⟩ := uncons k8
  obtain ⟨c9, l10, rfl, k10⟩ := uncons k9
  obtain ⟨c10, l11, rfl, k11⟩ := uncons k10
  obtain ⟨c11, l12, rfl, k12⟩ := uncons k11
  obtain ⟨c12, l13, rfl, k13⟩ := uncons k12
  obtain ⟨c13, l14, rfl, k14⟩ := uncons k13
  obtain ⟨c14, l15, rfl, k15⟩ := uncons k14
  obtain ⟨c15, l16, rfl, k16⟩ := uncons k15
  obtain ⟨c16, l17, rfl, k17⟩ := uncons k16
  obtain ⟨c17, l18, rfl, k18⟩ := uncons k17
  obtain ⟨c18, l19, rfl, k19⟩ := uncons k18
  obtain ⟨c19, l20, rfl, k20⟩ := uncons k19
  obtain rfl := List.eq_nil_of_length_eq_zero k20
  have y0 : xs[0]? = some xs[0] := List.getElem?_eq_getElem (by omega)
  have h0 : DataW.trod enc Try.prog W 0 (fun _ => true) true mm 3 [c0] = some xs[0] := by
    have e : DataW.trod enc Try.prog W 0 (fun _ => true) true mm 3 (List.take (Try.prog.cellsOf 3) (List.drop 0 [c0, c1, c2, c3, c4, c5, c6, c7, c8, c9, c10, c11, c12, c13, c14, c15, c16, c17, c18, c19])) = xs[0]? := hf 0 _ rfl
    rw [cells3, y0] at e
    exact e
  obtain ⟨z0, e0, b0⟩ := t_int Try.underlying3 h0
  have y1 : xs[1]? = some xs[1] := List.getElem?_eq_getElem (by omega)
  have h1 : DataW.trod enc Try.prog W 0 (fun _ => true) true mm 9 [c1] = some xs[1] := by
    have e : DataW.trod enc Try.prog W 0 (fun _ => true) true mm 9 (List.take (Try.prog.cellsOf 9) (List.drop 1 [c0, c1, c2, c3, c4, c5, c6, c7, c8, c9, c10, c11, c12, c13, c14, c15, c16, c17, c18, c19])) = xs[1]? := hf 1 _ rfl
    rw [cells9, y1] at e
    exact e
  obtain ⟨s1, e1, b1⟩ := t_str Try.underlying9 h1 (w_part Try.underlying35 hx hw (i := 1) rfl y1)
  have y2 : xs[2]? = some xs[2] := List.getElem?_eq_getElem (by omega)
  have h2 : DataW.trod enc Try.prog W 0 (fun _ => true) true mm 3 [c2] = some xs[2] := by
    have e : DataW.trod enc Try.prog W 0 (fun _ => true) true mm 3 (List.take (Try.prog.cellsOf 3) (List.drop 2 [c0, c1, c2, c3, c4, c5, c6, c7, c8, c9, c10, c11, c12, c13, c14, c15, c16, c17, c18, c19])) = xs[2]? := hf 2 _ rfl
    rw [cells3, y2] at e
    exact e
  obtain ⟨z2, e2, b2⟩ := t_int Try.underlying3 h2
  have y3 : xs[3]? = some xs[3] := List.getElem?_eq_getElem (by omega)
  have h3 : DataW.trod enc Try.prog W 0 (fun _ => true) true mm 3 [c3] = some xs[3] := by
    have e : DataW.trod enc Try.prog W 0 (fun _ => true) true mm 3 (List.take (Try.prog.cellsOf 3) (List.drop 3 [c0, c1, c2, c3, c4, c5, c6, c7, c8, c9, c10, c11, c12, c13, c14, c15, c16, c17, c18, c19])) = xs[3]? := hf 3 _ rfl
    rw [cells3, y3] at e
    exact e
  obtain ⟨z3, e3, b3⟩ := t_int Try.underlying3 h3
  have y4 : xs[4]? = some xs[4] := List.getElem?_eq_getElem (by omega)
  have h4 : DataW.trod enc Try.prog W 0 (fun _ => true) true mm 25 [c4, c5] = some xs[4] := by
    have e : DataW.trod enc Try.prog W 0 (fun _ => true) true mm 25 (List.take (Try.prog.cellsOf 25) (List.drop 4 [c0, c1, c2, c3, c4, c5, c6, c7, c8, c9, c10, c11, c12, c13, c14, c15, c16, c17, c18, c19])) = xs[4]? := hf 4 _ rfl
    rw [cells25, y4] at e
    exact e
  obtain ⟨p4, q4, e4, b4, b4'⟩ := t_two Try.underlying25 cells25 rfl rfl rfl rfl h4
  have y5 : xs[5]? = some xs[5] := List.getElem?_eq_getElem (by omega)
  have h5 : DataW.trod enc Try.prog W 0 (fun _ => true) true mm 25 [c6, c7] = some xs[5] := by
    have e : DataW.trod enc Try.prog W 0 (fun _ => true) true mm 25 (List.take (Try.prog.cellsOf 25) (List.drop 6 [c0, c1, c2, c3, c4, c5, c6, c7, c8, c9, c10, c11, c12, c13, c14, c15, c16, c17, c18, c19])) = xs[5]? := hf 5 _ rfl
    rw [cells25, y5] at e
    exact e
  obtain ⟨p5, q5, e5, b5, b5'⟩ := t_two Try.underlying25 cells25 rfl rfl rfl rfl h5
  have y6 : xs[6]? = some xs[6] := List.getElem?_eq_getElem (by omega)
  have h6 : DataW.trod enc Try.prog W 0 (fun _ => true) true mm 27 [c8, c9] = some xs[6] := by
    have e : DataW.trod enc Try.prog W 0 (fun _ => true) true mm 27 (List.take (Try.prog.cellsOf 27) (List.drop 8 [c0, c1, c2, c3, c4, c5, c6, c7, c8, c9, c10, c11, c12, c13, c14, c15, c16, c17, c18, c19])) = xs[6]? := hf 6 _ rfl
    rw [cells27, y6] at e
    exact e
  obtain ⟨p6, q6, e6, b6, b6'⟩ := t_two Try.underlying27 cells27 rfl rfl rfl rfl h6
  have y7 : xs[7]? = some xs[7] := List.getElem?_eq_getElem (by omega)
  have h7 : DataW.trod enc Try.prog W 0 (fun _ => true) true mm 3 [c10] = some xs[7] := by
    have e : DataW.trod enc Try.prog W 0 (fun _ => true) true mm 3 (List.take (Try.prog.cellsOf 3) (List.drop 10 [c0, c1, c2, c3, c4, c5, c6, c7, c8, c9, c10, c11, c12, c13, c14, c15, c16, c17, c18, c19])) = xs[7]? := hf 7 _ rfl
    rw [cells3, y7] at e
    exact e
  obtain ⟨z7, e7, b7⟩ := t_int Try.underlying3 h7
  have y8 : xs[8]? = some xs[8] := List.getElem?_eq_getElem (by omega)
  have h8 : DataW.trod enc Try.prog W 0 (fun _ => true) true mm 29 [c11, c12] = some xs[8] := by
    have e : DataW.trod enc Try.prog W 0 (fun _ => true) true mm 29 (List.take (Try.prog.cellsOf 29) (List.drop 11 [c0, c1, c2, c3, c4, c5, c6, c7, c8, c9, c10, c11, c12, c13, c14, c15, c16, c17, c18, c19])) = xs[8]? := hf 8 _ rfl
    rw [cells29, y8] at e
    exact e
  obtain ⟨p8, q8, e8, b8, b8'⟩ := t_two Try.underlying29 cells29 rfl rfl rfl rfl h8
  have y9 : xs[9]? = some xs[9] := List.getElem?_eq_getElem (by omega)
  have h9 : DataW.trod enc Try.prog W 0 (fun _ => true) true mm 31 [c13, c14, c15, c16] = some xs[9] := by
    have e : DataW.trod enc Try.prog W 0 (fun _ => true) true mm 31 (List.take (Try.prog.cellsOf 31) (List.drop 13 [c0, c1, c2, c3, c4, c5, c6, c7, c8, c9, c10, c11, c12, c13, c14, c15, c16, c17, c18, c19])) = xs[9]? := hf 9 _ rfl
    rw [cells31, y9] at e
    exact e
  obtain ⟨ok9, os9, oa9, ob9, e9, b9⟩ := t_op h9 (w_part Try.underlying35 hx hw (i := 9) rfl y9)
  have y10 : xs[10]? = some xs[10] := List.getElem?_eq_getElem (by omega)
  have h10 : DataW.trod enc Try.prog W 0 (fun _ => true) true mm 32 [c17] = some xs[10] := by
    have e : DataW.trod enc Try.prog W 0 (fun _ => true) true mm 32 (List.take (Try.prog.cellsOf 32) (List.drop 17 [c0, c1, c2, c3, c4, c5, c6, c7, c8, c9, c10, c11, c12, c13, c14, c15, c16, c17, c18, c19])) = xs[10]? := hf 10 _ rfl
    rw [cells32, y10] at e
    exact e
  obtain ⟨z10, e10, b10⟩ := t_int Try.underlying32 h10
  have y11 : xs[11]? = some xs[11] := List.getElem?_eq_getElem (by omega)
  have h11 : DataW.trod enc Try.prog W 0 (fun _ => true) true mm 3 [c18] = some xs[11] := by
    have e : DataW.trod enc Try.prog W 0 (fun _ => true) true mm 3 (List.take (Try.prog.cellsOf 3) (List.drop 18 [c0, c1, c2, c3, c4, c5, c6, c7, c8, c9, c10, c11, c12, c13, c14, c15, c16, c17, c18, c19])) = xs[11]? := hf 11 _ rfl
    rw [cells3, y11] at e
    exact e
  obtain ⟨z11, e11, b11⟩ := t_int Try.underlying3 h11
  have y12 : xs[12]? = some xs[12] := List.getElem?_eq_getElem (by omega)
  have h12 : DataW.trod enc Try.prog W 0 (fun _ => true) true mm 33 [c19] = some xs[12] := by
    have e : DataW.trod enc Try.prog W 0 (fun _ => true) true mm 33 (List.take (Try.prog.cellsOf 33) (List.drop 19 [c0, c1, c2, c3, c4, c5, c6, c7, c8, c9, c10, c11, c12, c13, c14, c15, c16, c17, c18, c19])) = xs[12]? := hf 12 _ rfl
    rw [cells33, y12] at e
    exact e
  obtain ⟨ao12, cv12, vs12, e12, b12⟩ := t_views h12 (w_part Try.underlying35 hx hw (i := 12) rfl y12)
  clear hf h hl
  cases e0; cases e1; cases e2; cases e3; cases e4; cases e5; cases e6; cases e7; cases e8; cases e9; cases e10; cases e11; cases e12
  exact ⟨⟨z0, s1, z2, z3, p4, q4, p5, q5, p6, q6, z7, p8, q8, ok9, os9, oa9, ob9, z10, z11, vs12⟩, ao12, cv12, rfl, b12.1, b1, b9.1, b9.2.1, b9.2.2, b12.2⟩
set_option maxRecDepth 100000 in
theorem open_msg {base : Nat} {v : Value} {d : DataW H} {p : List MemPlace} (hval : Value.okWide Try.prog W .any base 35 v) (h0 : DataW.Trod enc Try.prog W 0 (fun _ => true) true 35 v d p) (hw : ∀ n ∈ d.weights Try.prog 35, n ≤ reachBytes) :
    ∃ (m : Msg) (ao : Option Addr) (cv : Nat), v = .agg (msgCells m (.slice ao m.views.length cv)) ∧ VFrom W ao m.views ∧ m.name.length ≤ 140737488351232 ∧ m.oname.length ≤ 140737488351232 ∧ In64 m.oa ∧ In64 m.ob ∧ ∀ v ∈ m.views, v.name.length ≤ 140737488351232 := by
  obtain ⟨cs, rfl, _⟩ := okWide_struct Try.underlying35 hval
  obtain ⟨fuel, hf⟩ := h0
  obtain ⟨m, ao, cv, e, hr⟩ := t_msg hf hw
  refine ⟨m, ao, cv, ?_, hr⟩
  have e' : cs.toList = (msgCells m (.slice ao m.views.length cv)).toList := by simpa [Value.cells] using e
  rw [Array.toList_inj.1 e']
end
end Go.Proofs.Ytdbngkjgaglngaa
namespace Go.Proofs.Ytdbngkjgaglngaa
open Go.RowKit Go.PlainAid

theorem rvalid_any (m : Msg) (ao : Option Addr) (cv : Nat) (w : World) (hl : m.name.length ≤ 140737488355328) (hol : m.oname.length ≤ 140737488355328) (hsrc : VFrom w ao m.views) (hsb : ∀ b o, ao = some ⟨b, o, none⟩ → b < w.heap.size) (hnm : ∀ x ∈ m.views, x.name.length ≤ 140737488355328) :
    Calls Try.prog 23 #[.agg (msgCells m (.slice ao m.views.length cv))] w (fun e w' => e = .returned (.bool (validB m)) ∧ Below w.heap.size w w') := by
  generalize hD : msgCells m (.slice ao m.views.length cv) = D
  have HD : Hid _ := hD
  cases hin : inB m.kind 1 10
  · exact rvalid_wrong m ao cv w D HD hl hol hsrc hsb hnm hin
  cases hal : alikeB m (shapeM m)
  · exact rvalid_shape m ao cv w D HD hl hol hsrc hsb hnm hin hal
  have hk : 1 ≤ m.kind ∧ m.kind ≤ 10 := by simpa [inB] using hin
  by_cases h1 : m.kind = 1
  · exact rvalid1 m ao cv w D HD hl hol hsrc hsb hnm h1 hin hal
  by_cases h2 : m.kind = 2
  · by_cases hq0 : m.err = 0
    · exact rvalid2a m ao cv w D HD hl hol hsrc hsb hnm h2 hq0 hin hal
    · by_cases hq1 : m.err = 101
      · exact rvalid2b m ao cv w D HD hl hol hsrc hsb hnm h2 hq0 hq1 hin hal
      · exact rvalid2c m ao cv w D HD hl hol hsrc hsb hnm h2 hq0 hq1 hin hal
  by_cases h10 : m.kind = 10
  · exact rvalid10 m ao cv w D HD hl hol hsrc hsb hnm h10 hin hal
  by_cases h7 : m.kind = 7
  · exact rvalidB m ao cv w D HD hl hol hsrc hsb hnm h7 hin hal
  by_cases h6 : m.kind ≤ 6
  · exact rvalidA m ao cv w D HD hl hol hsrc hsb hnm (by omega) h6 hin hal
  · exact rvalidC m ao cv w D HD hl hol hsrc hsb hnm (by omega) (by omega) hin hal
end Go.Proofs.Ytdbngkjgaglngaa
namespace Go.Proofs.Ytdbngkjgaglngaa
open Go.RowKit Go.PlainAid

theorem wr_pos {m : Msg} {bs : List UInt8} (h : message.wr m = some bs) : 0 < bs.length := by
  have h0 : message.wr m = match (num 1 10).wr m.kind with
      | none => none
      | some p => match (bodyC m.kind).wr m with
        | none => none
        | some q => some (p ++ q) := rfl
  rw [h0] at h
  cases hp : (num 1 10).wr m.kind with
  | none => rw [hp] at h; cases h
  | some p =>
    rw [hp] at h
    have hk := num_some hp
    have hp' : put m.kind.toNat = p := by
      simp only [num] at hp
      split at hp
      · exact Option.some.inj hp
      · cases hp
    have hl := (put_len m.kind.toNat (by omega)).1
    cases hq : (bodyC m.kind).wr m with
    | none => rw [hq] at h; cases h
    | some q =>
      rw [hq] at h
      cases h
      rw [List.length_append, ← hp']
      omega
end Go.Proofs.Ytdbngkjgaglngaa
namespace Go.Proofs.Ytdbngkjgaglngaa
set_option linter.unusedSimpArgs false
set_option linter.unusedVariables false
theorem whole_some {α : Type} {c : Codec α} (hL : Lawful c) {x : α} {bs : List UInt8} (h : c.wr x = some bs) : whole c bs = .ok (x, 0) := by
  have := hL.forth x bs h []
  rw [List.append_nil] at this
  unfold whole
  rw [this]
  simp
theorem num_le (k : Nat) {lo hi : Nat} {x : Int} {p : List UInt8} (hk : hi < 128 ^ k) (h0 : 0 < k) (h64 : hi < 2 ^ 64) (h : (num lo hi).wr x = some p) : 0 < p.length ∧ p.length ≤ k := by
  simp only [num] at h
  split at h
  · rename_i hh
    simp only [Bool.and_eq_true, decide_eq_true_eq] at hh
    cases h
    have := put_len x.toNat (by omega)
    exact ⟨this.1, this.2.2 k (by omega) h0⟩
  · cases h
theorem bind_le {α β : Type} {c : Codec α} {d : α → Codec β} {x : α} {y : β} {i j : Nat} {r : List UInt8} (h1 : ∀ p, c.wr x = some p → p.length ≤ i) (h2 : ∀ q, (d x).wr y = some q → q.length ≤ j) (h : (c.bind d).wr (x, y) = some r) : r.length ≤ i + j := by
  simp only [Codec.bind] at h
  split at h
  · cases h
  · rename_i p hp
    split at h
    · cases h
    · rename_i q hq
      cases h
      have := h1 p hp
      have := h2 q hq
      rw [List.length_append]
      omega
theorem bind_pos {α β : Type} {c : Codec α} {d : α → Codec β} {x : α} {y : β} {r : List UInt8} (h1 : ∀ p, c.wr x = some p → 0 < p.length) (h : (c.bind d).wr (x, y) = some r) : 0 < r.length := by
  simp only [Codec.bind] at h
  split at h
  · cases h
  · rename_i p hp
    split at h
    · cases h
    · rename_i q hq
      cases h
      have := h1 p hp
      rw [List.length_append]
      omega
theorem map_wr {α β : Type} {c : Codec α} {f : α → β} {g : β → α} {ok : β → Bool} {y : β} {r : List UInt8} (h : (c.map f g ok).wr y = some r) : c.wr (g y) = some r := by
  simp only [Codec.map] at h
  split at h
  · exact h
  · cases h
theorem n6 {lo : Nat} {x : Int} {p : List UInt8} (h : (num lo maxN).wr x = some p) : p.length ≤ 6 := (num_le 6 (by decide) (by decide) (by decide) h).2
theorem name17 {ab s p : List UInt8} (h : (name ab).wr s = some p) : p.length ≤ 17 := by
  rw [name_wr] at h
  cases hn : (num 1 16).wr (s.length : Int) with
  | none => rw [hn] at h; cases h
  | some q =>
    rw [hn] at h
    have h1 := num_le 1 (by decide) (by decide) (by decide) hn
    have h2 := num_some hn
    by_cases hg : good ab s = true
    · rw [if_pos hg] at h
      cases h
      rw [List.length_append]
      omega
    · rw [if_neg hg] at h; cases h
theorem view53 {ab : List UInt8} {v : View} {p : List UInt8} (h : (view ab).wr v = some p) : p.length ≤ 53 := by
  have h := map_wr h
  exact bind_le (i := 17) (j := 36) (fun p h => name17 h) (fun q h => bind_le (i := 12) (j := 24) (fun p h => bind_le (i := 6) (j := 6) (fun p h => n6 h) (fun p h => n6 h) h) (fun q h => bind_le (i := 6) (j := 18) (fun p h => n6 h) (fun q h => bind_le (i := 12) (j := 6) (fun p h => bind_le (i := 6) (j := 6) (fun p h => n6 h) (fun p h => n6 h) h) (fun p h => n6 h) h) h) h) h
theorem viewList53 : ∀ (n : Nat) (ab : List UInt8) (l : List View) (bs : List UInt8), (viewList n ab).wr l = some bs → bs.length ≤ 53 * n := by
  intro n
  induction n with
  | zero =>
    intro ab l bs h
    simp only [viewList, Codec.map, Codec.unit] at h
    split at h
    · cases h; simp
    · cases h
  | succ n ih =>
    intro ab l bs h
    simp only [viewList, Codec.map] at h
    split at h
    · cases l with
      | nil => rename_i hn; cases hn
      | cons v t =>
        have h' : (match (view ab).wr v with
          | none => none
          | some p => match (viewList n v.name).wr t with
            | none => none
            | some q => some (p ++ q)) = some bs := h
        cases hp : (view ab).wr v with
        | none => rw [hp] at h'; cases h'
        | some p =>
          rw [hp] at h'
          cases hq : (viewList n v.name).wr t with
          | none => rw [hq] at h'; cases h'
          | some q =>
            rw [hq] at h'
            cases h'
            have := view53 hp
            have := ih _ _ _ hq
            rw [List.length_append]
            omega
    · cases h
theorem views3393 {l : List View} {bs : List UInt8} (h : views.wr l = some bs) : bs.length ≤ 3393 := by
  have h' : (match (num 0 64).wr (l.length : Int) with
    | none => none
    | some p => match (viewList (l.length : Int).toNat []).wr l with
      | none => none
      | some q => some (p ++ q)) = some bs := h
  cases hp : (num 0 64).wr (l.length : Int) with
  | none => rw [hp] at h'; cases h'
  | some p =>
    rw [hp] at h'
    cases hq : (viewList (l.length : Int).toNat []).wr l with
    | none => rw [hq] at h'; cases h'
    | some q =>
      rw [hq] at h'
      cases h'
      have := num_le 1 (by decide) (by decide) (by decide) hp
      have := num_some hp
      have := viewList53 _ _ _ _ hq
      rw [List.length_append]
      omega
theorem body3393 {m : Msg} {bs : List UInt8} (h : bodyW m = some bs) : bs.length ≤ 3393 := by
  have n1 := fun (a s p : List UInt8) (h : (name a).wr s = some p) => name_len h
  unfold bodyW at h
  split at h
  · have := join_len (fun _ h => call_len h) (fun _ h => op_len h) bs h; omega
  split at h
  · split at h
    · have := join_len (fun _ h => call_len h) (join_len (fun _ h => name_len h) (join_len (fun _ h => errno_len h) (fun _ h => caps_len h))) bs h; omega
    · have := join_len (fun _ h => call_len h) (join_len (fun _ h => name_len h) (fun _ h => errno_len h)) bs h; omega
  split at h
  · have := join_len (fun _ h => name_len h) (join_len (fun _ h => caps_len h) (fun _ h => epoch_len h)) bs h; omega
  split at h
  · have := join_len (fun _ h => name_len h) (join_len (fun _ h => caps_len h) (join_len (fun _ h => epoch_len h) (join_len (fun _ h => rights_len h) (fun _ h => held_len h)))) bs h; omega
  split at h
  · have := join_len (fun _ h => name_len h) (join_len (fun _ h => caps_len h) (join_len (fun _ h => epoch_len h) (fun _ h => epoch_len h))) bs h; omega
  split at h
  · have := join_len (fun _ h => name_len h) (join_len (fun _ h => caps_len h) (fun _ h => rights_len h)) bs h; omega
  split at h
  · exact views3393 h
  · have := join_len (fun _ h => name_len h) (join_len (fun _ h => caps_len h) (join_len (fun _ h => epoch_len h) (fun _ h => rights_len h))) bs h; omega
theorem wr3400 {m : Msg} {bs : List UInt8} (h : message.wr m = some bs) : bs.length ≤ 3400 := by
  rw [enc_is] at h
  unfold encM at h
  cases hf : fieldsW m with
  | none => rw [hf] at h; cases h
  | some p =>
    rw [hf] at h
    simp only at h
    split at h
    · cases h
      have := join_len (fun _ h => (num_le 1 (by decide) (by decide) (by decide) h).2) (fun _ h => body3393 h) _ hf
      omega
    · cases h
theorem seg4020 {s : Seg} {bs : List UInt8} (h : segment.wr s = some bs) : 0 < bs.length ∧ bs.length ≤ 4020 := by
  have hr : segRight s = true := by rw [← segRight_is, h]; rfl
  have h := map_wr h
  have hd : s.data.length ≤ 4000 := by
    simp only [segRight, Bool.and_eq_true, decide_eq_true_eq] at hr
    omega
  refine ⟨bind_pos (fun p h => (num_le 1 (by decide) (by decide) (by decide) h).1) h, ?_⟩
  have := bind_le (i := 1) (j := 4015) (fun p h => (num_le 1 (by decide) (by decide) (by decide) h).2) (fun q h => bind_le (i := 1) (j := 4014) (fun p h => (num_le 1 (by decide) (by decide) (by decide) h).2) (fun q h => bind_le (i := 6) (j := 4008) (fun p h => n6 h) (fun q h => bind_le (i := 6) (j := 4002) (fun p h => n6 h) (fun q h => ?_) h) h) h) h
  · omega
  · have h := map_wr h
    refine bind_le (i := 2) (j := 4000) (fun p h => ?_) (fun q h => ?_) h
    · have hh : highOf s.seq ≤ 4000 := by unfold highOf; split <;> decide
      exact (num_le 2 (by omega) (by decide) (by omega) h).2
    · simp only [some'] at h
      split at h
      · cases h; exact hd
      · cases h
end Go.Proofs.Ytdbngkjgaglngaa
namespace Go.Proofs.Ytdbngkjgaglngaa
open Go.RowKit Go.PlainAid
set_option linter.unusedSimpArgs false
set_option linter.unusedVariables false
theorem wp_seq_rest {P : Program} {c1 c2 : Code} {Q : Exit → Act → World → Prop} {a : Act} {w : World} (S : Act → World → Prop) (h1 : ∀ a w, S a w → c2.wp P Q a w) (h2 : ∀ K : Act → World → Prop, (∀ a w, S a w → K a w) → c1.wp P (Exit.then K Q) a w) : (c1.seq c2).wp P Q a w := wp_seq (h2 _ h1)
theorem Fr.lit185 {a : Act} {f : Nat → Value} (h : Fr 185 a f) : a = { tmps := #[f 0, f 1, f 2, f 3, f 4, f 5, f 6, f 7, f 8, f 9, f 10, f 11, f 12, f 13, f 14, f 15, f 16, f 17, f 18, f 19, f 20, f 21, f 22, f 23, f 24, f 25, f 26, f 27, f 28, f 29, f 30, f 31, f 32, f 33, f 34, f 35, f 36, f 37, f 38, f 39, f 40, f 41, f 42, f 43, f 44, f 45, f 46, f 47, f 48, f 49, f 50, f 51, f 52, f 53, f 54, f 55, f 56, f 57, f 58, f 59, f 60, f 61, f 62, f 63, f 64, f 65, f 66, f 67, f 68, f 69, f 70, f 71, f 72, f 73, f 74, f 75, f 76, f 77, f 78, f 79, f 80, f 81, f 82, f 83, f 84, f 85, f 86, f 87, f 88, f 89, f 90, f 91, f 92, f 93, f 94, f 95, f 96, f 97, f 98, f 99, f 100, f 101, f 102, f 103, f 104, f 105, f 106, f 107, f 108, f 109, f 110, f 111, f 112, f 113, f 114, f 115, f 116, f 117, f 118, f 119, f 120, f 121, f 122, f 123, f 124, f 125, f 126, f 127, f 128, f 129, f 130, f 131, f 132, f 133, f 134, f 135, f 136, f 137, f 138, f 139, f 140, f 141, f 142, f 143, f 144, f 145, f 146, f 147, f 148, f 149, f 150, f 151, f 152, f 153, f 154, f 155, f 156, f 157, f 158, f 159, f 160, f 161, f 162, f 163, f 164, f 165, f 166, f 167, f 168, f 169, f 170, f 171, f 172, f 173, f 174, f 175, f 176, f 177, f 178, f 179, f 180, f 181, f 182, f 183, f 184], defers := [] } := by
  rw [h.lit]; rfl
structure BS (w : World) (D E F G H : Array Value) (W : World) : Prop where
  a : Blk W w.heap.size D 35
  b : Blk W (w.heap.size + 1) E 46
  c : Blk W (w.heap.size + 2) F 29
  d : Blk W (w.heap.size + 3) G 31
  e : Blk W (w.heap.size + 4) H 55
  l : Below w.heap.size w W
theorem BS.up {w : World} {D E F G H : Array Value} {W W' : World} (h : BS w D E F G H W) (hb : Below W.heap.size W W') : BS w D E F G H W' :=
  ⟨(hb.block _ h.a.lt).trans h.a, (hb.block _ h.b.lt).trans h.b, (hb.block _ h.c.lt).trans h.c, (hb.block _ h.d.lt).trans h.d, (hb.block _ h.e.lt).trans h.e, h.l.trans (hb.mono h.l.size)⟩
def SB (w : World) (D E F G H : Array Value) (a : Act) (W : World) : Prop :=
  ∃ f : Nat → Value, Fr 185 a f ∧ f 5 = .pointer (some ⟨w.heap.size, 0, none⟩) ∧ f 6 = .pointer (some ⟨w.heap.size + 1, 0, none⟩) ∧ f 7 = .pointer (some ⟨w.heap.size + 2, 0, none⟩) ∧ f 8 = .pointer (some ⟨w.heap.size + 3, 0, none⟩) ∧ f 9 = .pointer (some ⟨w.heap.size + 4, 0, none⟩) ∧ BS w D E F G H W
theorem boxB (w : World) (Z D : Array Value) (ty : TypeId) : Blk ((w.alloc (.cells Z ty)).setRow w.heap.size D) w.heap.size D ty ∧ Below w.heap.size w ((w.alloc (.cells Z ty)).setRow w.heap.size D) :=
  ⟨setRow_blk (heap_alloc_new w _), (show Below w.heap.size w (w.alloc _) from by go_grown).trans ⟨rfl, rfl, rfl, by simp [World.setRow], fun k hk => setRow_other _ _ _ _ (by omega)⟩⟩
/-- Two new boxes, written full. -/
theorem boxB2 (w : World) (Z D Z2 D2 : Array Value) (ty ty2 : TypeId) :
    Blk ((((w.alloc (.cells Z ty)).alloc (.cells Z2 ty2)).setRow w.heap.size D).setRow (w.heap.size + 1) D2) w.heap.size D ty ∧ Blk ((((w.alloc (.cells Z ty)).alloc (.cells Z2 ty2)).setRow w.heap.size D).setRow (w.heap.size + 1) D2) (w.heap.size + 1) D2 ty2 ∧
    Below w.heap.size w ((((w.alloc (.cells Z ty)).alloc (.cells Z2 ty2)).setRow w.heap.size D).setRow (w.heap.size + 1) D2) ∧
    Blk ((w.alloc (.cells Z ty)).alloc (.cells Z2 ty2)) w.heap.size Z ty ∧ Blk (((w.alloc (.cells Z ty)).alloc (.cells Z2 ty2)).setRow w.heap.size D) (w.heap.size + 1) Z2 ty2 := by
  have h0 : Blk ((w.alloc (.cells Z ty)).alloc (.cells Z2 ty2)) w.heap.size Z ty := (Below.heap_alloc _ _ _ (by simp)).trans (heap_alloc_new w _)
  have h1 : Blk ((w.alloc (.cells Z ty)).alloc (.cells Z2 ty2)) (w.heap.size + 1) Z2 ty2 := by
    have := heap_alloc_new (w.alloc (.cells Z ty)) (.cells Z2 ty2)
    rw [World.size_alloc] at this
    exact this
  have h2 : Blk (((w.alloc (.cells Z ty)).alloc (.cells Z2 ty2)).setRow w.heap.size D) w.heap.size D ty := setRow_blk h0
  have h3 : Blk (((w.alloc (.cells Z ty)).alloc (.cells Z2 ty2)).setRow w.heap.size D) (w.heap.size + 1) Z2 ty2 := (setRow_other _ _ _ _ (by omega)).trans h1
  refine ⟨(setRow_other _ _ _ _ (by omega)).trans h2, setRow_blk h3, ?_, h0, h3⟩
  refine (show Below w.heap.size w ((w.alloc (.cells Z ty)).alloc (.cells Z2 ty2)) from by go_grown).trans ⟨rfl, rfl, rfl, by simp [World.setRow], fun k hk => ?_⟩
  rw [setRow_other _ _ _ _ (by omega), setRow_other _ _ _ _ (by omega)]
theorem put_lt (n : Nat) : (put n).length ≤ 11 := by
  have h : ∀ f n, (putF f n).length ≤ f + 1 := by
    intro f
    induction f with
    | zero => intro n; simp [putF]
    | succ f ih => intro n; simp only [putF]; split <;> simp; have := ih (n / 128); omega
  exact h 10 n
theorem neq29_self (x : Int × Int) : ∀ W : World, Sem.run Try.prog (binOp .neq 29 (.agg (callCells x)) (.agg (callCells x))) W = .ok (.bool false) W := by
  intro W
  rw [show callCells x = #[.int .i64 x.1, .int .i64 x.2] from rfl]
  simp [go_sem]
theorem neq31_self (x : Int × List UInt8 × Int × Int) : ∀ W : World, Sem.run Try.prog (binOp .neq 31 (.agg (opCells x)) (.agg (opCells x))) W = .ok (.bool false) W := by
  intro W
  rw [show opCells x = #[.int .i64 x.1, .string ⟨x.2.1.toArray⟩, .int .i64 x.2.2.1, .int .i64 x.2.2.2] from rfl]
  simp [go_sem]
theorem neq55_self (x : (Int × Int) × Int × Int) : ∀ W : World, Sem.run Try.prog (binOp .neq 55 (.agg (repCells x)) (.agg (repCells x))) W = .ok (.bool false) W := by
  intro W
  rw [show repCells x = #[.int .i64 x.1.1, .int .i64 x.1.2, .int .i64 x.2.1, .int .i64 x.2.2] from rfl]
  simp [go_sem]
set_option maxRecDepth 100000 in
theorem isCall_any (a b : Int) (w : World) : Calls Try.prog 30 #[.agg #[.int .i64 a, .int .i64 b]] w fun e w' => e = .returned (.bool (callB a b)) ∧ Below w.heap.size w w' := by
  have hB : Blk (w.alloc (.cells #[.int .i64 a, .int .i64 b] 29)) w.heap.size #[.int .i64 a, .int .i64 b] 29 := heap_alloc_new w _
  have c0 : (w.alloc (.cells #[.int .i64 a, .int .i64 b] 29)).cell? ⟨w.heap.size, 0, none⟩ = some (.int .i64 a) := hB.cell 0
  have c1 : (w.alloc (.cells #[.int .i64 a, .int .i64 b] 29)).cell? ⟨w.heap.size, 1, none⟩ = some (.int .i64 b) := hB.cell 1
  have hb0 : Below w.heap.size w (w.alloc (.cells #[.int .i64 a, .int .i64 b] 29)) := by go_grown
  have HB : Hid _ := hb0
  clear hB hb0
  by_cases h1 : 0 ≤ a
  · by_cases h2 : a < 64
    · by_cases h3 : 1 ≤ b
      · by_cases h4 : b ≤ 1099511627776
        · rw [show callB a b = true from by simp [callB, inB]; omega]
          go_enter Try.func30, Try.ntmps30
          go_wp2
          go_ret
          exact ⟨rfl, HB.out⟩
        · rw [show callB a b = false from by simp [callB, inB]; omega]
          go_enter Try.func30, Try.ntmps30
          go_wp2
          go_ret
          exact ⟨rfl, HB.out⟩
      · rw [show callB a b = false from by simp [callB, inB]; omega]
        go_enter Try.func30, Try.ntmps30
        go_wp2
        go_ret
        exact ⟨rfl, HB.out⟩
    · rw [show callB a b = false from by simp [callB, inB]; omega]
      go_enter Try.func30, Try.ntmps30
      go_wp2
      go_ret
      exact ⟨rfl, HB.out⟩
  · rw [show callB a b = false from by simp [callB, inB]; omega]
    go_enter Try.func30, Try.ntmps30
    go_wp2
    go_ret
    exact ⟨rfl, HB.out⟩
theorem encB {r : Option (List UInt8)} {w : World} {e : Ending} {w' : World} (h : EncPost r w e w') : ∃ ao' c', e = .returned (.tuple #[.slice ao' (r.getD []).length c', .int .i64 (if r.isSome then 0 else 21)]) ∧ Below w.heap.size w w' := by
  obtain ⟨hb, h⟩ := h
  cases r with
  | none => exact ⟨none, 0, h, hb⟩
  | some bs =>
    obtain ⟨v, rfl, hv⟩ := h
    obtain ⟨ao, c, rfl, _, _, hf, _⟩ := own_from hv
    exact ⟨ao, c, rfl, hb⟩
set_option maxRecDepth 100000 in
set_option maxHeartbeats 800000 in
theorem isOp_any (o : Int × List UInt8 × Int × Int) (w : World) (hn : o.2.1.length ≤ 140737488355328) (hx1 : (-9223372036854775808 : Int) ≤ o.2.2.1) (hx2 : o.2.2.1 < 9223372036854775808) (hy1 : (-9223372036854775808 : Int) ≤ o.2.2.2) (hy2 : o.2.2.2 < 9223372036854775808) :
    Calls Try.prog 31 #[.agg (opCells o)] w fun e w' => e = .returned (.bool (opB o.1 o.2.1)) ∧ Below w.heap.size w w' := by
  obtain ⟨E, HE⟩ : ∃ D, Hid (D = opCells o) := ⟨_, rfl⟩
  have hsE : E.size = 4 := by rw [HE.out]; rfl
  have hiE : (Try.prog.info? 31).map (·.size) = some E.size := by rw [hsE]; kernel_rfl
  have hA0 : Blk (w.alloc (.cells E 31)) w.heap.size E 31 := heap_alloc_new w _
  have hb0 : Below w.heap.size w (w.alloc (.cells E 31)) := by go_grown
  have hen : Calls Try.prog 64 #[.agg #[.int .i64 0, .int .i64 1], .agg (opCells o)] (w.alloc (.cells E 31)) (EncPost (request.wr ((0, 1), o)) (w.alloc (.cells E 31))) := rencReq_any (0, 1) o (w.alloc (.cells E 31)) hn hx1 hx2 hy1 hy2
  rw [← HE.out] at hen ⊢
  have his : (request.wr ((0, 1), o)).isSome = opB o.1 o.2.1 := by
    obtain ⟨k, s, a, b⟩ := o
    rw [request, pair_is, call_is, op_is k a b s hx1 hx2 hy1 hy2, show callB 0 1 = true from by decide, Bool.true_and]
  have HB : Hid _ := hb0
  clear hb0
  go_enter Try.func31, Try.ntmps31
  go_wp2_with (first | (refine wpList_load_row rfl 31 (.tmp 1) rfl w.heap.size rfl 31 E (0, 0) _ hA0 Try.underlying31 rfl hiE ?_) | fail)
  refine hen.mono ?_
  intro e1 w1 h1
  obtain ⟨ao1, c1, rfl, hb1⟩ := encB h1
  rw [his]
  have HL : Hid _ := HB.out.trans (hb1.mono HB.out.size)
  cases hob : opB o.1 o.2.1
  · simp only [Bool.false_eq_true, if_false]
    clear hen h1 hb1 his
    go_wp2
    go_ret
    exact ⟨by rw [hob]; rfl, HL.out⟩
  · simp only [if_true]
    clear hen h1 hb1 his
    go_wp2
    go_ret
    exact ⟨by rw [hob]; rfl, HL.out⟩
end Go.Proofs.Ytdbngkjgaglngaa
namespace Go.Proofs.Ytdbngkjgaglngaa
open Go.RowKit Go.PlainAid
set_option linter.unusedSimpArgs false
set_option linter.unusedVariables false
set_option maxRecDepth 100000 in
set_option maxHeartbeats 6400000 in
theorem back_law (m : Msg) (ao : Option Addr) (cv : Nat) (s : Seg) (so : Option Addr) (sc : Nat) (q : Int × Int) (o : Int × List UInt8 × Int × Int) (r : (Int × Int) × Int × Int) (w : World)
    (hl : m.name.length ≤ 140737488355328) (hol : m.oname.length ≤ 140737488355328) (hsrc : VFrom w ao m.views) (hsb : ∀ b o, ao = some ⟨b, o, none⟩ → b < w.heap.size) (hnm : ∀ x ∈ m.views, x.name.length ≤ 140737488355328) (ha1 : (-9223372036854775808 : Int) ≤ m.oa) (ha2 : m.oa < 9223372036854775808) (hb1 : (-9223372036854775808 : Int) ≤ m.ob) (hb2 : m.ob < 9223372036854775808)
    (hnil : so = none → s.data.length = 0 ∧ sc = 0) (hf : From w so s.data) (hsd : ∀ b o, so = some ⟨b, o, none⟩ → b < w.heap.size)
    (hn : o.2.1.length ≤ 140737488355328) (hx1 : (-9223372036854775808 : Int) ≤ o.2.2.1) (hx2 : o.2.2.1 < 9223372036854775808) (hy1 : (-9223372036854775808 : Int) ≤ o.2.2.2) (hy2 : o.2.2.2 < 9223372036854775808) (hz1 : (-9223372036854775808 : Int) ≤ r.2.2) (hz2 : r.2.2 < 9223372036854775808) :
    Calls Try.prog 8 #[.agg (msgCells m (.slice ao m.views.length cv)), .agg (segCells s.src s.dst s.seq s.ack (.slice so s.data.length sc)), .agg (callCells q), .agg (opCells o), .agg (repCells r)] w fun e w' => e = .returned (.bool true) ∧ Below w.heap.size w w' := by
  obtain ⟨D, HD⟩ : ∃ D, Hid (D = msgCells m (.slice ao m.views.length cv)) := ⟨_, rfl⟩
  obtain ⟨E, HE⟩ : ∃ D, Hid (D = segCells s.src s.dst s.seq s.ack (.slice so s.data.length sc)) := ⟨_, rfl⟩
  obtain ⟨F, HF⟩ : ∃ D, Hid (D = callCells q) := ⟨_, rfl⟩
  obtain ⟨G, HG⟩ : ∃ D, Hid (D = opCells o) := ⟨_, rfl⟩
  obtain ⟨J, HJ⟩ : ∃ D, Hid (D = repCells r) := ⟨_, rfl⟩
  have H1 : Hid _ := And.intro hl (And.intro hol (And.intro hsrc (And.intro hsb (And.intro hnm (And.intro ha1 (And.intro ha2 (And.intro hb1 hb2)))))))
  have H2 : Hid _ := And.intro hnil (And.intro hf hsd)
  have H3 : Hid _ := And.intro hn (And.intro hx1 (And.intro hx2 (And.intro hy1 hy2)))
  have H4 : Hid _ := And.intro hz1 hz2
  clear hl hol hsrc hsb hnm ha1 ha2 hb1 hb2 hnil hf hsd hn hx1 hx2 hy1 hy2 hz1 hz2
  rw [← HD.out, ← HE.out, ← HF.out, ← HG.out, ← HJ.out]
  have sD : D.size = 20 := by rw [HD.out]; rfl
  have sE : E.size = 5 := by rw [HE.out]; rfl
  have sF : F.size = 2 := by rw [HF.out]; rfl
  have sG : G.size = 4 := by rw [HG.out]; rfl
  have sJ : J.size = 4 := by rw [HJ.out]; rfl
  have iD : (Try.prog.info? 35).map (·.size) = some D.size := by rw [sD]; kernel_rfl
  have iE : (Try.prog.info? 46).map (·.size) = some E.size := by rw [sE]; kernel_rfl
  have iF : (Try.prog.info? 29).map (·.size) = some F.size := by rw [sF]; kernel_rfl
  have iG : (Try.prog.info? 31).map (·.size) = some G.size := by rw [sG]; kernel_rfl
  have iJ : (Try.prog.info? 55).map (·.size) = some J.size := by rw [sJ]; kernel_rfl
  have hB0 : BS w D E F G J (((((w.alloc (.cells D 35)).alloc (.cells E 46)).alloc (.cells F 29)).alloc (.cells G 31)).alloc (.cells J 55)) := by
    have n0 := heap_alloc_new w (.cells D 35)
    have n1 := heap_alloc_new (w.alloc (.cells D 35)) (.cells E 46)
    have n2 := heap_alloc_new ((w.alloc (.cells D 35)).alloc (.cells E 46)) (.cells F 29)
    have n3 := heap_alloc_new (((w.alloc (.cells D 35)).alloc (.cells E 46)).alloc (.cells F 29)) (.cells G 31)
    have n4 := heap_alloc_new ((((w.alloc (.cells D 35)).alloc (.cells E 46)).alloc (.cells F 29)).alloc (.cells G 31)) (.cells J 55)
    simp only [World.size_alloc] at n1 n2 n3 n4
    refine ⟨?_, ?_, ?_, ?_, n4, by go_grown⟩
    · exact (Below.heap_alloc _ _ _ (by simp only [World.size_alloc]; omega)).trans ((Below.heap_alloc _ _ _ (by simp only [World.size_alloc]; omega)).trans ((Below.heap_alloc _ _ _ (by simp only [World.size_alloc]; omega)).trans ((Below.heap_alloc _ _ _ (by simp only [World.size_alloc]; omega)).trans n0)))
    · exact (Below.heap_alloc _ _ _ (by simp only [World.size_alloc]; omega)).trans ((Below.heap_alloc _ _ _ (by simp only [World.size_alloc]; omega)).trans ((Below.heap_alloc _ _ _ (by simp only [World.size_alloc]; omega)).trans n1))
    · exact (Below.heap_alloc _ _ _ (by simp only [World.size_alloc]; omega)).trans ((Below.heap_alloc _ _ _ (by simp only [World.size_alloc]; omega)).trans n2)
    · exact (Below.heap_alloc _ _ _ (by simp only [World.size_alloc]; omega)).trans n3
  have hable := able_any (((((w.alloc (.cells D 35)).alloc (.cells E 46)).alloc (.cells F 29)).alloc (.cells G 31)).alloc (.cells J 55))
  have HB : Hid _ := hB0
  clear hB0
  go_enter Try.func8, Try.ntmps8
  go_wp2_with fail
  refine hable.mono ?_
  rintro e9 w9 ⟨rfl, hb9⟩
  have hS := HB.out.up hb9
  clear hable hb9 HB
  go_upto_region 3 with fail
  rename_i K hK0 K2 hK2
  have hK : ∀ a W, SB w D E F G J a W → K a W := by
    clear hS
    rintro a W ⟨f, hFr, k5, k6, k7, k8, k9, hS⟩
    apply hK0
    rw [hFr.lit185, k5, k6, k7, k8, k9]
    clear hFr k5 hK0 hK2 K2 K w9
    refine wp_seq_rest (SB w D E F G J) ?_ ?_
    rotate_left
    · intro K hK
      obtain ⟨hnil, hf, hsd⟩ := H2.out
      have hri := rright_any s so sc W
      rw [← HE.out] at hri
      have hE := hS.b
      have HS : Hid _ := hS
      clear hS
      go_wp2_with (first | (refine wpList_load_row rfl 46 (.tmp 6) rfl (w.heap.size + 1) rfl 46 E (0, 0) _ hE Try.underlying46 rfl iE ?_) | fail)
      refine hri.mono ?_
      rintro e1 w1 ⟨rfl, hb1⟩
      have hS1 := HS.out.up hb1
      clear hri HS hb1 hE
      cases hsr : segRight s
      · have HS : Hid _ := hS1
        clear hS1
        go_wp2
        first | exact hK _ _ ⟨_, Fr.ofLit _ rfl, rfl, rfl, rfl, rfl, rfl, HS.out⟩ | exact ⟨_, Fr.ofLit _ rfl, rfl, rfl, rfl, rfl, rfl, HS.out⟩
      · have his := segRight_is s
        rw [hsr] at his
        obtain ⟨bs, hbs⟩ := Option.isSome_iff_exists.1 his
        obtain ⟨hpos, h4020⟩ := seg4020 hbs
        have hwh := whole_some law_segment hbs
        have hd4 : s.data.length ≤ 4000 := by
          have h := hsr
          simp only [segRight, Bool.and_eq_true, decide_eq_true_eq] at h
          omega
        have hf1 : From w1 so s.data := hf.keep fun b o e => hS1.l.block b (hsd b o e)
        have hlt1 : ∀ b o, so = some ⟨b, o, none⟩ → b < w1.heap.size := fun b o e => by have := hsd b o e; have := hS1.l.size; omega
        have hen := encodeSeg_any s so sc w1 hnil hf1 hlt1 (by omega)
        rw [hbs, ← HE.out] at hen
        have hE1 := hS1.b
        have HS : Hid _ := And.intro hS1 (And.intro hf1 hlt1)
        clear hS1 hf1 hlt1 his
        go_wp2_with (first | (refine wpList_load_row rfl 46 (.tmp 6) rfl (w.heap.size + 1) rfl 46 E (0, 0) _ hE1 Try.underlying46 rfl iE ?_) | fail)
        refine hen.mono ?_
        rintro e2 w2 ⟨hb2', v2, rfl, hown2⟩
        obtain ⟨g, c, rfl, hgc, hg2⟩ : ∃ g c, v2 = .slice (some ⟨g, 0, none⟩) bs.length c ∧ bs.length ≤ c ∧ g < w2.heap.size := by
          rcases hown2.2 with ⟨_, h⟩ | ⟨g, c, cur, h1, h2, h3, h4, _⟩
          · omega
          · exact ⟨g, c, h1, h4, (hown2.lt g (by rw [h1]; rfl)).2⟩
        have hf2 : From w2 (some ⟨g, 0, none⟩) bs := by
          obtain ⟨ao2, cap2, e2, _, _, hs2, _⟩ := own_from hown2
          cases e2
          exact hs2
        obtain ⟨hS1, hf1, hlt1⟩ := HS.out
        have hS2 := hS1.up hb2'
        have hff2 : From w2 so s.data := hf1.keep fun b o e => hb2'.block b (hlt1 b o e)
        have hlt2 : ∀ b o, so = some ⟨b, o, none⟩ → b < w2.heap.size := fun b o e => by have := hlt1 b o e; have := hb2'.size; omega
        have hde := decodeSeg_any g 0 bs.length c bs w2 rfl hf2 hg2 (by omega) hgc
        rw [hwh] at hde
        have HS : Hid _ := And.intro hS2 (And.intro hff2 hlt2)
        clear hS1 hf1 hlt1 hS2 hff2 hlt2 hown2 hf2 hb2' hen hE1
        go_wp2_with fail
        refine hde.mono ?_
        rintro e3 w3 ⟨hb3, ao3, c3, rfl, hr3⟩
        obtain ⟨hS2, hff2, hlt2⟩ := HS.out
        obtain ⟨hw3, hwl3⟩ : From w3 ao3 s.data ∧ ∀ b o, ao3 = some ⟨b, o, none⟩ → b < w3.heap.size := by
          refine ⟨?_, fun b o e => by subst e; exact (hr3.lt b rfl).2⟩
          obtain ⟨ao2, cap2, e2, _, _, hs2, _⟩ := own_from hr3
          cases e2
          exact hs2
        obtain ⟨D3, HD3⟩ : ∃ D3, Hid (D3 = segCells s.src s.dst s.seq s.ack (.slice ao3 s.data.length c3)) := ⟨_, rfl⟩
        rw [← HD3.out]
        have hall3 : D3.all (·.oneCell') = true := by rw [HD3.out]; simp [segCells, Value.oneCell']
        have sD3 : D3.size = 5 := by rw [HD3.out]; rfl
        have iD3 : (Try.prog.info? 46).map (·.size) = some D3.size := by rw [sD3]; kernel_rfl
        have hZ : Blk (w3.alloc (.cells zeroS 46)) w3.heap.size zeroS 46 := heap_alloc_new w3 _
        obtain ⟨hBm, hb4⟩ := boxB w3 zeroS D3 46
        have hb34 := hb3.trans (hb4.mono hb3.size)
        have hS4 := hS2.up hb34
        have hv4 : From ((w3.alloc (.cells zeroS 46)).setRow w3.heap.size D3) so s.data := hff2.keep fun b o e => hb34.block b (hlt2 b o e)
        have hw4 : From ((w3.alloc (.cells zeroS 46)).setRow w3.heap.size D3) ao3 s.data := hw3.keep fun b o e => hb4.block b (hwl3 b o e)
        have hsame := sameSeg_any s s ao3 so c3 sc ((w3.alloc (.cells zeroS 46)).setRow w3.heap.size D3) hw4 hv4 (fun b o e => by have := hwl3 b o e; have := hb4.size; omega) (fun b o e => by have := hlt2 b o e; have := hb34.size; omega)
        rw [(segB_iff s s).2 rfl, ← HE.out, ← HD3.out] at hsame
        have hE4 := hS4.b
        have HS : Hid _ := hS4
        clear hS2 hff2 hlt2 hw3 hwl3 hr3 hb3 hb34 hb4 hS4 hv4 hw4 hde hwh
        go_wp2_with (first | (rw [zeroS_is]; refine wpList_store_row rfl 46 (.tmp 18) (.tmp 83) rfl w3.heap.size D3 rfl rfl 46 zeroS hZ iD3 (by rw [sD3]; rfl) hall3 ?_) | (refine wpList_store_row rfl 46 (.tmp 18) (.tmp 83) rfl w3.heap.size D3 rfl rfl 46 zeroS hZ iD3 (by rw [sD3]; rfl) hall3 ?_) | (refine load_row_g 46 (.tmp 18) rfl (by rfl) w3.heap.size rfl 46 D3 (0, 0) _ hBm Try.underlying46 iD3 ?_) | (refine load_row_g 46 (.tmp 6) rfl (by rfl) (w.heap.size + 1) rfl 46 E (0, 0) _ hE4 Try.underlying46 iE ?_) | (go_at_call 17; refine hsame.mono ?_; rintro e6 w6 ⟨rfl, hb6⟩) | fail)
        first | exact hK _ _ ⟨_, Fr.ofLit _ rfl, rfl, rfl, rfl, rfl, rfl, HS.out.up hb6⟩ | exact ⟨_, Fr.ofLit _ rfl, rfl, rfl, rfl, rfl, rfl, HS.out.up hb6⟩
    clear hS k6 k7 k8 k9 f a W
    rintro a W ⟨f, hFr, k5, k6, k7, k8, k9, hS⟩
    rw [hFr.lit185, k5, k6, k7, k8, k9]
    clear hFr k5
    refine wp_seq_rest (SB w D E F G J) ?_ ?_
    rotate_left
    · intro K hK
      obtain ⟨hn, hx1, hx2, hy1, hy2⟩ := H3.out
      have hic : ∀ W, Calls Try.prog 30 #[.agg F] W fun e w' => e = .returned (.bool (callB q.1 q.2)) ∧ Below W.heap.size W w' := fun W => by rw [HF.out]; exact isCall_any q.1 q.2 W
      have hio : ∀ W, Calls Try.prog 31 #[.agg G] W fun e w' => e = .returned (.bool (opB o.1 o.2.1)) ∧ Below W.heap.size W w' := fun W => by rw [HG.out]; exact isOp_any o W hn hx1 hx2 hy1 hy2
      have hF0 := hS.c
      have HS : Hid _ := hS
      have HI : Hid _ := hic
      have HO : Hid _ := hio
      clear hS hic hio
      go_wp2_with (first | (refine wpList_load_row rfl 29 (.tmp 7) rfl (w.heap.size + 2) rfl 29 F (0, 0) _ hF0 Try.underlying29 rfl iF ?_) | fail)
      refine Calls.mono (HI.out _) ?_
      rintro e1 w1 ⟨rfl, hb1⟩
      have hS1 := HS.out.up hb1
      clear HS HI hb1 hF0
      cases hcb : callB q.1 q.2
      · have HS : Hid _ := hS1
        clear hS1 HO
        go_wp2
        first | exact hK _ _ ⟨_, Fr.ofLit _ rfl, rfl, rfl, rfl, rfl, rfl, HS.out⟩ | exact ⟨_, Fr.ofLit _ rfl, rfl, rfl, rfl, rfl, rfl, HS.out⟩
      · have hG1 := hS1.d
        have HS : Hid _ := hS1
        clear hS1
        go_wp2_with (first | (refine load_row_g 31 (.tmp 8) rfl (by rfl) (w.heap.size + 3) rfl 31 G (0, 0) _ hG1 Try.underlying31 iG ?_) | fail)
        refine Calls.mono (HO.out _) ?_
        rintro e2 w2 ⟨rfl, hb2⟩
        have hS2 := HS.out.up hb2
        clear HS HO hb2 hG1
        cases hob : opB o.1 o.2.1
        · have HS : Hid _ := hS2
          clear hS2
          go_wp2
          first | exact hK _ _ ⟨_, Fr.ofLit _ rfl, rfl, rfl, rfl, rfl, rfl, HS.out⟩ | exact ⟨_, Fr.ofLit _ rfl, rfl, rfl, rfl, rfl, rfl, HS.out⟩
        · have his : (request.wr (q, o)).isSome = true := by
            obtain ⟨qa, qb⟩ := q
            obtain ⟨k, s, a, b⟩ := o
            rw [request, pair_is, call_is, op_is k a b s hx1 hx2 hy1 hy2]
            simp only at hcb hob
            rw [hcb, hob]; rfl
          obtain ⟨bs, hbs⟩ := Option.isSome_iff_exists.1 his
          have hlb : bs.length ≤ 1000 := by
            obtain ⟨qa, qb⟩ := q
            obtain ⟨k, s, a, b⟩ := o
            obtain ⟨m1, n1, _, _, _, _, hw1⟩ := call_put hcb
            obtain ⟨n2, _, _, h16, hw2⟩ := op_put (a := a) (b := b) hob hx1 hx2 hy1 hy2
            have := pair_put hw1 hw2
            rw [show (pair call op) = request from rfl, hbs] at this
            cases this
            have h16' : s.length ≤ 16 := h16
            simp only [List.length_append]
            have := put_lt m1; have := put_lt n1; have := put_lt n2; have := put_lt s.length; have := put_lt (zig a); have := put_lt (zig b)
            omega
          have hpos : 0 < bs.length := bind_pos (fun p h => bind_pos (fun p h => (num_le 1 (by decide) (by decide) (by decide) h).1) h) (show (call.bind fun _ => op).wr (q, o) = some bs from hbs)
          have hwh := whole_some law_request hbs
          have hen := encodeReq_any q o w2 hn hx1 hx2 hy1 hy2
          rw [hbs, ← HF.out, ← HG.out] at hen
          have hF2 := hS2.c
          have hG2 := hS2.d
          have HS : Hid _ := hS2
          clear hS2 his
          go_wp2_with (first | (refine wpList_load_row rfl 29 (.tmp 7) rfl (w.heap.size + 2) rfl 29 F (0, 0) _ hF2 Try.underlying29 rfl iF ?_) | (refine wpList_load_row rfl 31 (.tmp 8) rfl (w.heap.size + 3) rfl 31 G (0, 0) _ hG2 Try.underlying31 rfl iG ?_) | fail)
          refine hen.mono ?_
          rintro e3 w3 ⟨hb3, v3, rfl, hown3⟩
          obtain ⟨g, c, rfl, hgc, hg3⟩ : ∃ g c, v3 = .slice (some ⟨g, 0, none⟩) bs.length c ∧ bs.length ≤ c ∧ g < w3.heap.size := by
            rcases hown3.2 with ⟨_, h⟩ | ⟨g, c, cur, h1, h2, h3, h4, _⟩
            · omega
            · exact ⟨g, c, h1, h4, (hown3.lt g (by rw [h1]; rfl)).2⟩
          have hf3 : From w3 (some ⟨g, 0, none⟩) bs := by
            obtain ⟨ao2, cap2, e2, _, _, hs2, _⟩ := own_from hown3
            cases e2
            exact hs2
          have hS3 := HS.out.up hb3
          have hde := decodeReq_any g 0 bs.length c bs w3 rfl hf3 hg3 (by omega) hgc
          rw [hwh] at hde
          have HS : Hid _ := hS3
          clear hS3 hown3 hf3 hb3 hen hF2 hG2
          go_wp2_with fail
          refine hde.mono ?_
          rintro e4 w4 ⟨hb4, he4⟩
          have he4 : e4 = .returned (.tuple #[.agg F, .agg G, .int .i64 0, .int .i64 0]) := by rw [HF.out, HG.out]; exact he4
          subst he4
          have hallF : F.all (·.oneCell') = true := by rw [HF.out]; simp [callCells, Value.oneCell']
          have hallG : G.all (·.oneCell') = true := by rw [HG.out]; simp [opCells, Str, Value.oneCell']
          have hqF : ∀ W : World, Sem.run Try.prog (binOp .neq 29 (.agg F) (.agg F)) W = .ok (.bool false) W := by rw [HF.out]; exact neq29_self q
          have hqG : ∀ W : World, Sem.run Try.prog (binOp .neq 31 (.agg G) (.agg G)) W = .ok (.bool false) W := by rw [HG.out]; exact neq31_self o
          obtain ⟨hBm, hBe, hb5, hZ0, hZ1⟩ := boxB2 w4 zeroQ F zeroO G 29 31
          have hS5 := (HS.out.up hb4).up hb5
          have hF5 := hS5.c
          have hG5 := hS5.d
          have HS : Hid _ := hS5
          clear hS5 hb4 hb5 hde hwh
          go_wp2_with (first | (rw [zeroQ_is, zeroO_is]; refine wpList_store_row rfl 29 (.tmp 23) (.tmp 122) rfl w4.heap.size F rfl rfl 29 zeroQ hZ0 iF (by rw [sF]; rfl) hallF ?_) | (refine wpList_store_row rfl 29 (.tmp 23) (.tmp 122) rfl w4.heap.size F rfl rfl 29 zeroQ hZ0 iF (by rw [sF]; rfl) hallF ?_) | (refine wpList_store_row rfl 31 (.tmp 24) (.tmp 123) rfl (w4.heap.size + 1) G rfl rfl 31 zeroO hZ1 iG (by rw [sG]; rfl) hallG ?_) | (refine load_row_g 29 (.tmp 23) rfl (by rfl) w4.heap.size rfl 29 F (0, 0) _ hBm Try.underlying29 iF ?_) | (refine load_row_g 29 (.tmp 7) rfl (by rfl) (w.heap.size + 2) rfl 29 F (0, 0) _ hF5 Try.underlying29 iF ?_) | (refine load_row_g 31 (.tmp 24) rfl (by rfl) (w4.heap.size + 1) rfl 31 G (0, 0) _ hBe Try.underlying31 iG ?_) | (refine load_row_g 31 (.tmp 8) rfl (by rfl) (w.heap.size + 3) rfl 31 G (0, 0) _ hG5 Try.underlying31 iG ?_) | fail)
          first | exact hK _ _ ⟨_, Fr.ofLit _ rfl, rfl, rfl, rfl, rfl, rfl, HS.out⟩ | exact ⟨_, Fr.ofLit _ rfl, rfl, rfl, rfl, rfl, rfl, HS.out⟩
    clear hS k6 k7 k8 k9 f a W
    rintro a W ⟨f, hFr, k5, k6, k7, k8, k9, hS⟩
    rw [hFr.lit185, k5, k6, k7, k8, k9]
    clear hFr k5
    refine wp_seq_rest (SB w D E F G J) ?_ ?_
    rotate_left
    · intro K hK
      obtain ⟨hz1, hz2⟩ := H4.out
      have hic := fun W => isCall_any r.1.1 r.1.2 W
      have HI : Hid _ := hic
      have hJ0 := hS.e
      have c0 : W.cell? ⟨w.heap.size + 4, 0, none⟩ = some (.int .i64 r.1.1) := (hJ0.cell 0).trans (by rw [HJ.out]; rfl)
      have c1 : W.cell? ⟨w.heap.size + 4, 1, none⟩ = some (.int .i64 r.1.2) := (hJ0.cell 1).trans (by rw [HJ.out]; rfl)
      have HS : Hid _ := hS
      clear hS hic hJ0
      go_wp2_with fail
      refine Calls.mono (HI.out _) ?_
      rintro e1 w1 ⟨rfl, hb1⟩
      have hS1 := HS.out.up hb1
      clear HS HI hb1 c0 c1
      cases hcb : callB r.1.1 r.1.2
      · have HS : Hid _ := hS1
        clear hS1
        go_wp2
        first | exact hK _ _ ⟨_, Fr.ofLit _ rfl, rfl, rfl, rfl, rfl, rfl, HS.out⟩ | exact ⟨_, Fr.ofLit _ rfl, rfl, rfl, rfl, rfl, rfl, HS.out⟩
      · have c2 : w1.cell? ⟨w.heap.size + 4, 2, none⟩ = some (.int .i64 r.2.1) := (hS1.e.cell 2).trans (by rw [HJ.out]; rfl)
        by_cases h0 : 0 ≤ r.2.1
        · by_cases h255 : r.2.1 ≤ 255
          · have hin : inB r.2.1 0 255 = true := by simp [inB]; omega
            have his : (reply.wr r).isSome = true := by
              obtain ⟨⟨qa, qb⟩, er, va⟩ := r
              rw [reply, pair_is, pair_is, call_is, errno_is, signed_is va hz1 hz2, Bool.and_true]
              simp only at hcb hin
              rw [hcb, hin]; rfl
            obtain ⟨bs, hbs⟩ := Option.isSome_iff_exists.1 his
            have hlb : bs.length ≤ 1000 := by
              obtain ⟨⟨qa, qb⟩, er, va⟩ := r
              obtain ⟨m1, n1, _, _, _, _, hw1⟩ := call_put hcb
              have := pair_put hw1 (pair_put (num_put (lo := 0) (hi := 255) hin) (signed_put hz1 hz2))
              rw [show (pair call (pair (num 0 255) signed)) = reply from rfl, hbs] at this
              cases this
              simp only [List.length_append]
              have := put_lt m1; have := put_lt n1; have := put_lt (Int.toNat er); have := put_lt (zig va)
              omega
            have hpos : 0 < bs.length := bind_pos (fun p h => bind_pos (fun p h => (num_le 1 (by decide) (by decide) (by decide) h).1) h) (show (call.bind fun _ => pair errno signed).wr (r.1, r.2) = some bs from hbs)
            have hwh := whole_some law_reply hbs
            have hJ1 := hS1.e
            have HS : Hid _ := hS1
            clear hS1 his hin
            have hen : ∀ W, Calls Try.prog 22 #[.agg J] W (EncPost (some bs) W) := fun W => by rw [HJ.out, ← hbs]; exact encodeRep_any r W hz1 hz2
            have HEN : Hid _ := hen
            clear hen
            go_wp2_with (first | (refine wpList_load_row rfl 55 (.tmp 9) rfl (w.heap.size + 4) rfl 55 J (0, 0) _ hJ1 Try.underlying55 rfl iJ ?_) | fail)
            refine Calls.mono (HEN.out _) ?_
            rintro e3 w3 ⟨hb3, v3, rfl, hown3⟩
            obtain ⟨g, c, rfl, hgc, hg3⟩ : ∃ g c, v3 = .slice (some ⟨g, 0, none⟩) bs.length c ∧ bs.length ≤ c ∧ g < w3.heap.size := by
              rcases hown3.2 with ⟨_, h⟩ | ⟨g, c, cur, h1, h2, h3, h4, _⟩
              · omega
              · exact ⟨g, c, h1, h4, (hown3.lt g (by rw [h1]; rfl)).2⟩
            have hf3 : From w3 (some ⟨g, 0, none⟩) bs := by
              obtain ⟨ao2, cap2, e2, _, _, hs2, _⟩ := own_from hown3
              cases e2
              exact hs2
            have hS3 := HS.out.up hb3
            have hde := decodeRep_any g 0 bs.length c bs w3 rfl hf3 hg3 (by omega) hgc
            rw [hwh] at hde
            have HS : Hid _ := hS3
            clear hS3 hown3 hf3 hb3 HEN hJ1 c2
            go_wp2_with fail
            refine hde.mono ?_
            rintro e4 w4 ⟨hb4, he4⟩
            have he4 : e4 = .returned (.tuple #[.agg J, .int .i64 0, .int .i64 0]) := by rw [HJ.out]; exact he4
            subst he4
            have hallJ : J.all (·.oneCell') = true := by rw [HJ.out]; simp [repCells, Value.oneCell']
            have hqJ : ∀ W : World, Sem.run Try.prog (binOp .neq 55 (.agg J) (.agg J)) W = .ok (.bool false) W := by rw [HJ.out]; exact neq55_self r
            have hZ : Blk (w4.alloc (.cells zeroR 55)) w4.heap.size zeroR 55 := heap_alloc_new w4 _
            obtain ⟨hBm, hb5⟩ := boxB w4 zeroR J 55
            have hS5 := (HS.out.up hb4).up hb5
            have hJ5 := hS5.e
            have HS : Hid _ := hS5
            clear hS5 hb4 hb5 hde hwh
            go_wp2_with (first | (rw [zeroR_is]; refine wpList_store_row rfl 55 (.tmp 29) (.tmp 167) rfl w4.heap.size J rfl rfl 55 zeroR hZ iJ (by rw [sJ]; rfl) hallJ ?_) | (refine wpList_store_row rfl 55 (.tmp 29) (.tmp 167) rfl w4.heap.size J rfl rfl 55 zeroR hZ iJ (by rw [sJ]; rfl) hallJ ?_) | (refine load_row_g 55 (.tmp 29) rfl (by rfl) w4.heap.size rfl 55 J (0, 0) _ hBm Try.underlying55 iJ ?_) | (refine load_row_g 55 (.tmp 9) rfl (by rfl) (w.heap.size + 4) rfl 55 J (0, 0) _ hJ5 Try.underlying55 iJ ?_) | fail)
            first | exact hK _ _ ⟨_, Fr.ofLit _ rfl, rfl, rfl, rfl, rfl, rfl, HS.out⟩ | exact ⟨_, Fr.ofLit _ rfl, rfl, rfl, rfl, rfl, rfl, HS.out⟩
          · have HS : Hid _ := hS1
            clear hS1
            go_wp2
            first | exact hK _ _ ⟨_, Fr.ofLit _ rfl, rfl, rfl, rfl, rfl, rfl, HS.out⟩ | exact ⟨_, Fr.ofLit _ rfl, rfl, rfl, rfl, rfl, rfl, HS.out⟩
        · have HS : Hid _ := hS1
          clear hS1
          go_wp2
          first | exact hK _ _ ⟨_, Fr.ofLit _ rfl, rfl, rfl, rfl, rfl, rfl, HS.out⟩ | exact ⟨_, Fr.ofLit _ rfl, rfl, rfl, rfl, rfl, rfl, HS.out⟩
    clear hS k6 k7 k8 k9 f a W
    rintro a W ⟨f, hFr, k5, k6, k7, k8, k9, hS⟩
    rw [hFr.lit185, k5, k6, k7, k8, k9]
    have HS : Hid _ := hS.l
    clear hFr hS
    go_wp2
    go_ret
    exact ⟨rfl, HS.out⟩
  clear hK0
  · skip
    obtain ⟨hl, hol, hsrc, hsb, hnm, ha1, ha2, hb1, hb2⟩ := H1.out
    have hv9 : VFrom w9 ao m.views := hsrc.keep fun b o e => hS.l.block b (hsb b o e)
    have hlt9 : ∀ b o, ao = some ⟨b, o, none⟩ → b < w9.heap.size := fun b o e => by have := hsb b o e; have := hS.l.size; omega
    have hval := rvalid_any m ao cv w9 hl hol hv9 hlt9 hnm
    rw [← HD.out] at hval
    have hD9 := hS.a
    have HS : Hid _ := And.intro hS (And.intro hv9 hlt9)
    clear hS hv9 hlt9 hsrc hl hol hnm
    go_wp2_with (first | (refine wpList_load_row rfl 35 (.tmp 5) rfl w.heap.size rfl 35 D (0, 0) _ hD9 Try.underlying35 rfl iD ?_) | fail)
    refine hval.mono ?_
    rintro e1 w1 ⟨rfl, hb1'⟩
    obtain ⟨hS, hv9, hlt9⟩ := HS.out
    have hS1 := hS.up hb1'
    have hv1 : VFrom w1 ao m.views := hv9.keep fun b o e => hb1'.block b (hlt9 b o e)
    have hlt1 : ∀ b o, ao = some ⟨b, o, none⟩ → b < w1.heap.size := fun b o e => by have := hlt9 b o e; have := hb1'.size; omega
    clear hval HS hS hv9 hlt9 hb1' hD9
    have his := validB_is m ha1 ha2 hb1 hb2
    cases hvb : validB m
    · have HS : Hid _ := hS1
      clear hS1 hv1 hlt1 his
      go_wp2
      first | exact hK _ _ ⟨_, Fr.ofLit _ rfl, rfl, rfl, rfl, rfl, rfl, HS.out⟩ | exact ⟨_, Fr.ofLit _ rfl, rfl, rfl, rfl, rfl, rfl, HS.out⟩
    · rw [hvb] at his
      obtain ⟨bs, hbs⟩ := Option.isSome_iff_exists.1 his
      obtain ⟨hfit, hv64⟩ := fit_of hbs
      have h3400 := wr3400 hbs
      have hpos := wr_pos hbs
      have hwh := whole_some law_message hbs
      have hen := encode_any m ao cv w1 hfit hv1 hlt1
      rw [← enc_is, hbs, ← HD.out] at hen
      have hD1 := hS1.a
      have HS : Hid _ := And.intro hS1 (And.intro hv1 (And.intro hlt1 hfit))
      clear hS1 hv1 hlt1 hfit his
      go_wp2_with (first | (refine wpList_load_row rfl 35 (.tmp 5) rfl w.heap.size rfl 35 D (0, 0) _ hD1 Try.underlying35 rfl iD ?_) | fail)
      refine hen.mono ?_
      rintro e2 w2 ⟨hb2', v2, rfl, hown2⟩
      obtain ⟨g, c, rfl, hgc, hg2⟩ : ∃ g c, v2 = .slice (some ⟨g, 0, none⟩) bs.length c ∧ bs.length ≤ c ∧ g < w2.heap.size := by
        rcases hown2.2 with ⟨_, h⟩ | ⟨g, c, cur, h1, h2, h3, h4, _⟩
        · omega
        · exact ⟨g, c, h1, h4, (hown2.lt g (by rw [h1]; rfl)).2⟩
      have hf2 : From w2 (some ⟨g, 0, none⟩) bs := by
        obtain ⟨ao2, cap2, e2, _, _, hs2, _⟩ := own_from hown2
        cases e2
        exact hs2
      obtain ⟨hS1, hv1, hlt1, hfit⟩ := HS.out
      have hS2 := hS1.up hb2'
      have hv2 : VFrom w2 ao m.views := hv1.keep fun b o e => hb2'.block b (hlt1 b o e)
      have hlt2 : ∀ b o, ao = some ⟨b, o, none⟩ → b < w2.heap.size := fun b o e => by have := hlt1 b o e; have := hb2'.size; omega
      have hde := decode_any g 0 bs.length c bs w2 rfl hf2 hg2 (by omega) hgc
      rw [hwh] at hde
      have HS : Hid _ := And.intro hS2 (And.intro hv2 (And.intro hlt2 hfit))
      clear hS1 hv1 hlt1 hfit hS2 hv2 hlt2 hown2 hf2 hb2' hen hD1
      go_wp2_with fail
      refine hde.mono ?_
      rintro e3 w3 ⟨hb3, ao3, c3, rfl, hr3⟩
      obtain ⟨hS2, hv2, hlt2, hfit⟩ := HS.out
      obtain ⟨hw3, hwl3⟩ := VRow.vfrom hr3
      obtain ⟨D3, HD3⟩ : ∃ D3, Hid (D3 = msgCells m (.slice ao3 m.views.length c3)) := ⟨_, rfl⟩
      rw [← HD3.out]
      have hall3 : D3.all (·.oneCell') = true := by rw [HD3.out]; simp [msgCells, Value.oneCell', Str]
      have sD3 : D3.size = 20 := by rw [HD3.out]; rfl
      have iD3 : (Try.prog.info? 35).map (·.size) = some D3.size := by rw [sD3]; kernel_rfl
      have hZ : Blk (w3.alloc (.cells zeroC 35)) w3.heap.size zeroC 35 := heap_alloc_new w3 _
      obtain ⟨hBm, hb4⟩ := boxB w3 zeroC D3 35
      have hb34 := hb3.trans (hb4.mono hb3.size)
      have hS4 := hS2.up hb34
      have hv4 : VFrom ((w3.alloc (.cells zeroC 35)).setRow w3.heap.size D3) ao m.views := hv2.keep fun b o e => hb34.block b (hlt2 b o e)
      have hw4 : VFrom ((w3.alloc (.cells zeroC 35)).setRow w3.heap.size D3) ao3 m.views := hw3.keep fun b o e => hb4.block b (hwl3 b o e)
      have hlt4 : ∀ b o, ao = some ⟨b, o, none⟩ → b < ((w3.alloc (.cells zeroC 35)).setRow w3.heap.size D3).heap.size := fun b o e => by have := hlt2 b o e; have := hb34.size; omega
      have hwl4 : ∀ b o, ao3 = some ⟨b, o, none⟩ → b < ((w3.alloc (.cells zeroC 35)).setRow w3.heap.size D3).heap.size := fun b o e => by have := hwl3 b o e; have := hb4.size; omega
      have hsame := same_any m m ao3 ao c3 cv ((w3.alloc (.cells zeroC 35)).setRow w3.heap.size D3) hw4 hv4 hwl4 hlt4 (by omega)
      rw [(sameB_iff m m).2 rfl, ← HD.out, ← HD3.out] at hsame
      have hD4 := hS4.a
      have HS : Hid _ := And.intro hS4 (And.intro hw4 (And.intro hwl4 (And.intro hfit hBm)))
      clear hS2 hv2 hlt2 hfit hw3 hwl3 hr3 hb3 hb34 hb4 hS4 hv4 hw4 hlt4 hwl4 hde hwh
      go_wp2_with (first | (rw [zero_is]; refine wpList_store_row rfl 35 (.tmp 13) (.tmp 44) rfl w3.heap.size D3 rfl rfl 35 zeroC hZ iD3 (by rw [sD3]; rfl) hall3 ?_) | (refine wpList_store_row rfl 35 (.tmp 13) (.tmp 44) rfl w3.heap.size D3 rfl rfl 35 zeroC hZ iD3 (by rw [sD3]; rfl) hall3 ?_) | (refine load_row_g 35 (.tmp 13) rfl (by rfl) w3.heap.size rfl 35 D3 (0, 0) _ hBm Try.underlying35 iD3 ?_) | (refine load_row_g 35 (.tmp 5) rfl (by rfl) w.heap.size rfl 35 D (0, 0) _ hD4 Try.underlying35 iD ?_) | fail)
      refine hsame.mono ?_
      obtain ⟨hS4, hw4, hwl4, hfit, hBm'⟩ := HS.out
      generalize (w3.alloc (.cells zeroC 35)).setRow w3.heap.size D3 = W4 at *
      rintro e5 w5 ⟨rfl, hb5⟩
      have hS5 := hS4.up hb5
      have hw5 : VFrom w5 ao3 m.views := hw4.keep fun b o e => hb5.block b (hwl4 b o e)
      have hwl5 : ∀ b o, ao3 = some ⟨b, o, none⟩ → b < w5.heap.size := fun b o e => by have := hwl4 b o e; have := hb5.size; omega
      have hBm5 : Blk w5 w3.heap.size D3 35 := (hb5.block _ hBm'.lt).trans hBm'
      have hva := valid_any m ao3 c3 w5 hfit hw5 hwl5
      rw [hbs, ← HD3.out] at hva
      simp only [Option.isSome_some] at hva
      have HS : Hid _ := hS5
      clear hS4 hw4 hwl4 hfit hBm hBm' hsame hD4 hb5 hS5 hw5 hwl5 hZ
      go_wp2_with (first | (refine load_row_g 35 (.tmp 13) rfl (by rfl) w3.heap.size rfl 35 D3 (0, 0) _ hBm5 Try.underlying35 iD3 ?_) | (go_at_call 25; refine hva.mono ?_; rintro e6 w6 ⟨rfl, hb6⟩) | fail)
      first | exact hK _ _ ⟨_, Fr.ofLit _ rfl, rfl, rfl, rfl, rfl, rfl, HS.out.up hb6⟩ | exact ⟨_, Fr.ofLit _ rfl, rfl, rfl, rfl, rfl, rfl, HS.out.up hb6⟩
end Go.Proofs.Ytdbngkjgaglngaa
namespace Go.Proofs.Ytdbngkjgaglngaa
open Go.ChangeShapes Go.WideShapes Go.ChangeAt Go.RowKit Go.WideMaps Go.WideElems
set_option linter.unusedSimpArgs false
theorem cells55 : Try.prog.cellsOf 55 = 4 := by kernel_rfl
section
variable {H : Type} {enc : TypeId × Value → H} {W : World} {fuel : Nat} {cs : List Value} {x : DataW H × List MemPlace}
set_option maxRecDepth 100000
set_option maxHeartbeats 1600000
/-- A reply, as a part. -/
theorem t_rep (h : DataW.trod enc Try.prog W 0 (fun _ => true) true fuel 55 cs = some x) : ∃ a b e v, cs = [.int .i64 a, .int .i64 b, .int .i64 e, .int .i64 v] ∧ In64 v := by
  obtain ⟨xs, mm, _, hx, hl, hxl, hf⟩ := DataW.trod_struct Try.underlying55 h
  have hxl' : xs.length = 3 := hxl
  rw [cells55] at hl
  obtain ⟨c0, l1, rfl, k1⟩ := uncons hl
  obtain ⟨c1, l2, rfl, k2⟩ := uncons k1
  obtain ⟨c2, l3, rfl, k3⟩ := uncons k2
  obtain ⟨c3, l4, rfl, k4⟩ := uncons k3
  obtain rfl := List.eq_nil_of_length_eq_zero k4
  have y0 : xs[0]? = some xs[0] := List.getElem?_eq_getElem (by omega)
  have h0 : DataW.trod enc Try.prog W 0 (fun _ => true) true mm 29 [c0, c1] = some xs[0] := by
    have e : DataW.trod enc Try.prog W 0 (fun _ => true) true mm 29 (List.take (Try.prog.cellsOf 29) (List.drop 0 [c0, c1, c2, c3])) = xs[0]? := hf 0 _ rfl
    rw [cells29, y0] at e
    exact e
  obtain ⟨z0, z1, e0, _⟩ := t_two Try.underlying29 cells29 rfl rfl rfl rfl h0
  have y1 : xs[1]? = some xs[1] := List.getElem?_eq_getElem (by omega)
  have h1 : DataW.trod enc Try.prog W 0 (fun _ => true) true mm 32 [c2] = some xs[1] := by
    have e : DataW.trod enc Try.prog W 0 (fun _ => true) true mm 32 (List.take (Try.prog.cellsOf 32) (List.drop 2 [c0, c1, c2, c3])) = xs[1]? := hf 1 _ rfl
    rw [cells32, y1] at e
    exact e
  obtain ⟨z2, e2, _⟩ := t_int Try.underlying32 h1
  have y2 : xs[2]? = some xs[2] := List.getElem?_eq_getElem (by omega)
  have h2 : DataW.trod enc Try.prog W 0 (fun _ => true) true mm 3 [c3] = some xs[2] := by
    have e : DataW.trod enc Try.prog W 0 (fun _ => true) true mm 3 (List.take (Try.prog.cellsOf 3) (List.drop 3 [c0, c1, c2, c3])) = xs[2]? := hf 2 _ rfl
    rw [cells3, y2] at e
    exact e
  obtain ⟨z3, e3, b3⟩ := t_int Try.underlying3 h2
  cases e0; cases e2; cases e3
  exact ⟨z0, z1, z2, z3, rfl, b3⟩
theorem open_rep {base : Nat} {v : Value} {d : DataW H} {p : List MemPlace} (hval : Value.okWide Try.prog W .any base 55 v) (h0 : DataW.Trod enc Try.prog W 0 (fun _ => true) true 55 v d p) :
    ∃ r : (Int × Int) × Int × Int, v = .agg (repCells r) ∧ In64 r.2.2 := by
  obtain ⟨cs, rfl, _⟩ := okWide_struct Try.underlying55 hval
  obtain ⟨fuel, hf⟩ := h0
  obtain ⟨a, b, e, v, hc, hv⟩ := t_rep hf
  refine ⟨((a, b), e, v), ?_, hv⟩
  have e' : cs.toList = (repCells ((a, b), e, v)).toList := show cs.toList = [.int .i64 a, .int .i64 b, .int .i64 e, .int .i64 v] from by simpa [Value.cells] using hc
  rw [Array.toList_inj.1 e']
theorem open_call {base : Nat} {v : Value} {d : DataW H} {p : List MemPlace} (hval : Value.okWide Try.prog W .any base 29 v) (h0 : DataW.Trod enc Try.prog W 0 (fun _ => true) true 29 v d p) :
    ∃ q : Int × Int, v = .agg (callCells q) := by
  obtain ⟨cs, rfl, _⟩ := okWide_struct Try.underlying29 hval
  obtain ⟨fuel, hf⟩ := h0
  obtain ⟨a, b, hc, _⟩ := t_two Try.underlying29 cells29 rfl rfl rfl rfl hf
  refine ⟨(a, b), ?_⟩
  have e' : cs.toList = (callCells (a, b)).toList := show cs.toList = [.int .i64 a, .int .i64 b] from by simpa [Value.cells] using hc
  rw [Array.toList_inj.1 e']
theorem open_op {base : Nat} {v : Value} {d : DataW H} {p : List MemPlace} (hval : Value.okWide Try.prog W .any base 31 v) (h0 : DataW.Trod enc Try.prog W 0 (fun _ => true) true 31 v d p) (hw : ∀ n ∈ d.weights Try.prog 31, n ≤ reachBytes) :
    ∃ o : Int × List UInt8 × Int × Int, v = .agg (opCells o) ∧ o.2.1.length ≤ 140737488351232 ∧ In64 o.2.2.1 ∧ In64 o.2.2.2 := by
  obtain ⟨cs, rfl, _⟩ := okWide_struct Try.underlying31 hval
  obtain ⟨fuel, hf⟩ := h0
  obtain ⟨k, s, a, b, hc, h1, h2, h3⟩ := t_op hf hw
  refine ⟨(k, s, a, b), ?_, h1, h2, h3⟩
  have e' : cs.toList = (opCells (k, s, a, b)).toList := show cs.toList = [.int .i64 k, Str s, .int .i64 a, .int .i64 b] from by simpa [Value.cells] using hc
  rw [Array.toList_inj.1 e']
end
theorem cells22 : Try.prog.cellsOf 22 = 1 := by kernel_rfl
theorem cells46 : Try.prog.cellsOf 46 = 5 := by kernel_rfl
theorem types46 : Try.prog.cellTypes Try.prog.depth 46 = some [3, 3, 3, 3, 22] := by kernel_rfl
section
variable {H : Type} {enc : TypeId × Value → H} {W : World} {fuel : Nat} {cs : List Value} {x : DataW H × List MemPlace}
set_option maxRecDepth 100000
set_option maxHeartbeats 1600000
/-- A []byte, as a part. -/
theorem t_bytes (h : DataW.trod enc Try.prog W 0 (fun _ => true) true fuel 22 cs = some x) (hw : ∀ n ∈ x.1.weights Try.prog 22, n ≤ reachBytes) :
    ∃ ao cap ps, cs = [.slice ao ps.length cap] ∧ (ao = none → ps.length = 0 ∧ cap = 0) ∧ From W ao ps ∧ ps.length ≤ 140737488351232 := by
  rcases open_ints Try.underlying22 Try.underlying5 cells5 h with ⟨hcs, hx⟩ | ⟨a, len, cap, zs, hcs, _, hl, hm, hz, hx, hcell, hwz⟩
  · exact ⟨none, 0, [], hcs, fun _ => ⟨rfl, rfl⟩, fun h => by simp at h, by simp⟩
  · simp only [if_true] at hz
    have hb8 : ∀ j, j < zs.length → W.cell? (a.add j) = some (B (UInt8.ofNat (zs.getD j 0).toNat)) := by
      intro j hj
      rw [hcell j hj, B]
      have e2 : zs.getD j 0 = zs[j] := by rw [List.getD_eq_getElem?_getD, List.getElem?_eq_getElem hj]; rfl
      have hb := bounds_u8 (hwz zs[j] (List.getElem_mem hj))
      rw [e2]
      congr 1
      apply val_u8
      simp
      omega
    have hlen : ((zs.take len).map (fun z => UInt8.ofNat z.toNat)).length = len := by simp; omega
    have hbd : len ≤ 140737488351232 := by
      have := hw ((lits .u8 (zs.take len)).length * 1 + (lits .u8 (zs.drop len)).length * 1) (by
        rw [hx]
        simp only [DataW.weights, Try.underlying22, bytes5]
        refine List.mem_cons.2 (.inl ?_)
        first | rfl | omega | (simp; omega))
      have e : reachBytes = 140737488351232 := rfl
      have e1 : (lits .u8 (zs.take len) : List (DataW H)).length = len := by simp [lits]; omega
      omega
    refine ⟨some a, cap, (zs.take len).map (fun z => UInt8.ofNat z.toNat), by rw [hlen]; exact hcs, (fun h => by cases h), fun h => ?_, by omega⟩
    have h0 := hb8 0 (by omega)
    have hsp : a.spot = none := by
      have := spot_none h0
      simpa [Addr.add] using this
    refine ⟨a.block, a.off, by rw [← hsp], fun j u hu => ?_⟩
    rw [List.getElem?_map, List.getElem?_take] at hu
    split at hu
    · have hjz : j < zs.length := by omega
      rw [List.getElem?_eq_getElem hjz] at hu
      have e2 : zs.getD j 0 = zs[j] := by rw [List.getD_eq_getElem?_getD, List.getElem?_eq_getElem hjz]; rfl
      have := hb8 j hjz
      rw [add_none hsp, e2] at this
      rw [this]
      simp only [Option.map_some, Option.some.injEq] at hu
      rw [← hu]
    · cases hu
/-- A segment, as a part. -/
theorem t_seg (h : DataW.trod enc Try.prog W 0 (fun _ => true) true fuel 46 cs = some x) (hw : ∀ n ∈ x.1.weights Try.prog 46, n ≤ reachBytes) :
    ∃ (s : Seg) (ao : Option Addr) (cc : Nat), cs = (segCells s.src s.dst s.seq s.ack (.slice ao s.data.length cc)).toList ∧ (ao = none → s.data.length = 0 ∧ cc = 0) ∧ From W ao s.data ∧ s.data.length ≤ 140737488351232 := by
  obtain ⟨xs, mm, _, hx, hl, hxl, hf⟩ := DataW.trod_struct Try.underlying46 h
  have hxl' : xs.length = 5 := hxl
  rw [cells46] at hl
  obtain ⟨c0, l1, rfl, k1⟩ := uncons hl
  obtain ⟨c1, l2, rfl, k2⟩ := uncons k1
  obtain ⟨c2, l3, rfl, k3⟩ := uncons k2
  obtain ⟨c3, l4, rfl, k4⟩ := uncons k3
  obtain ⟨c4, l5, rfl, k5⟩ := uncons k4
  obtain rfl := List.eq_nil_of_length_eq_zero k5
  have y0 : xs[0]? = some xs[0] := List.getElem?_eq_getElem (by omega)
  have h0 : DataW.trod enc Try.prog W 0 (fun _ => true) true mm 3 [c0] = some xs[0] := by
    have e : DataW.trod enc Try.prog W 0 (fun _ => true) true mm 3 (List.take (Try.prog.cellsOf 3) (List.drop 0 [c0, c1, c2, c3, c4])) = xs[0]? := hf 0 _ rfl
    rw [cells3, y0] at e
    exact e
  obtain ⟨z0, e0, b0⟩ := t_int Try.underlying3 h0
  have y1 : xs[1]? = some xs[1] := List.getElem?_eq_getElem (by omega)
  have h1 : DataW.trod enc Try.prog W 0 (fun _ => true) true mm 3 [c1] = some xs[1] := by
    have e : DataW.trod enc Try.prog W 0 (fun _ => true) true mm 3 (List.take (Try.prog.cellsOf 3) (List.drop 1 [c0, c1, c2, c3, c4])) = xs[1]? := hf 1 _ rfl
    rw [cells3, y1] at e
    exact e
  obtain ⟨z1, e1, b1⟩ := t_int Try.underlying3 h1
  have y2 : xs[2]? = some xs[2] := List.getElem?_eq_getElem (by omega)
  have h2 : DataW.trod enc Try.prog W 0 (fun _ => true) true mm 3 [c2] = some xs[2] := by
    have e : DataW.trod enc Try.prog W 0 (fun _ => true) true mm 3 (List.take (Try.prog.cellsOf 3) (List.drop 2 [c0, c1, c2, c3, c4])) = xs[2]? := hf 2 _ rfl
    rw [cells3, y2] at e
    exact e
  obtain ⟨z2, e2, b2⟩ := t_int Try.underlying3 h2
  have y3 : xs[3]? = some xs[3] := List.getElem?_eq_getElem (by omega)
  have h3 : DataW.trod enc Try.prog W 0 (fun _ => true) true mm 3 [c3] = some xs[3] := by
    have e : DataW.trod enc Try.prog W 0 (fun _ => true) true mm 3 (List.take (Try.prog.cellsOf 3) (List.drop 3 [c0, c1, c2, c3, c4])) = xs[3]? := hf 3 _ rfl
    rw [cells3, y3] at e
    exact e
  obtain ⟨z3, e3, b3⟩ := t_int Try.underlying3 h3
  have y4 : xs[4]? = some xs[4] := List.getElem?_eq_getElem (by omega)
  have h4 : DataW.trod enc Try.prog W 0 (fun _ => true) true mm 22 [c4] = some xs[4] := by
    have e : DataW.trod enc Try.prog W 0 (fun _ => true) true mm 22 (List.take (Try.prog.cellsOf 22) (List.drop 4 [c0, c1, c2, c3, c4])) = xs[4]? := hf 4 _ rfl
    rw [cells22, y4] at e
    exact e
  obtain ⟨ao, cc, ps, e4, hn4, hf4, hl4⟩ := t_bytes h4 (w_part Try.underlying46 hx hw (i := 4) rfl y4)
  cases e0; cases e1; cases e2; cases e3; cases e4
  exact ⟨⟨z0, z1, z2, z3, ps⟩, ao, cc, rfl, hn4, hf4, hl4⟩
/-- A segment that came in. -/
theorem open_seg {base : Nat} {v : Value} {d : DataW H} {p : List MemPlace} (hval : Value.okWide Try.prog W .any base 46 v) (h0 : DataW.Trod enc Try.prog W 0 (fun _ => true) true 46 v d p) (hw : ∀ n ∈ d.weights Try.prog 46, n ≤ reachBytes) :
    ∃ (s : Seg) (ao : Option Addr) (cc : Nat), v = .agg (segCells s.src s.dst s.seq s.ack (.slice ao s.data.length cc)) ∧ (ao = none → s.data.length = 0 ∧ cc = 0) ∧ From W ao s.data ∧ s.data.length ≤ 140737488351232 := by
  obtain ⟨cs, rfl, _⟩ := okWide_struct Try.underlying46 hval
  obtain ⟨fuel, hf⟩ := h0
  obtain ⟨s, ao, cc, e, hr⟩ := t_seg hf hw
  refine ⟨s, ao, cc, ?_, hr⟩
  have e' : cs.toList = (segCells s.src s.dst s.seq s.ack (.slice ao s.data.length cc)).toList := by simpa [Value.cells] using e
  rw [Array.toList_inj.1 e']
end
set_option maxRecDepth 100000 in
theorem has_ltS {W : World} {base n : Nat} {a : Addr} {e : TypeId} (h : W.has Try.prog .any base a e n) : a.block < W.heap.size ∧ a.spot = none := by
  obtain ⟨_, hsp, row, cells, hs, _⟩ := h
  refine ⟨?_, hsp⟩
  unfold World.shape? at hs
  cases hb : W.heap[a.block]? with
  | none => rw [hb] at hs; cases hs
  | some x => exact (Array.getElem?_eq_some_iff.1 hb).1
set_option maxRecDepth 100000 in
theorem slice_ltS {W : World} {base n c : Nat} {ao : Option Addr} {t e : TypeId} (hu : Try.prog.underlying t = some (.slice e)) (h : Cell.okWide Try.prog W .any base t (.slice ao n c)) : (∀ b o, ao = some ⟨b, o, none⟩ → b < W.heap.size) ∧ (ao = none ∨ ∃ b off, ao = some ⟨b, off, none⟩) := by
  cases ao with
  | none => exact ⟨fun b o e => (by cases e), Or.inl rfl⟩
  | some a =>
    simp only [Cell.okWide, Cell.ok, hu] at h
    obtain ⟨h1, h2⟩ := has_ltS h.2.2
    obtain ⟨b, o, s⟩ := a
    simp only at h2
    subst h2
    exact ⟨fun b' o' e => by cases e; exact h1, Or.inr ⟨b, o, rfl⟩⟩
set_option maxRecDepth 100000 in
theorem seg_lt {W : World} {base : Nat} {s : Seg} {ao : Option Addr} {cc : Nat} (h : Value.okWide Try.prog W .any base 46 (.agg (segCells s.src s.dst s.seq s.ack (.slice ao s.data.length cc)))) : ∀ b o, ao = some ⟨b, o, none⟩ → b < W.heap.size := by
  simp only [Value.okWide, Try.underlying46] at h
  obtain ⟨cs, e, _, ts, hts, _, hr⟩ := h
  cases e
  rw [types46] at hts
  cases hts
  obtain ⟨u, hu, hc⟩ := hr 4 (.slice ao s.data.length cc) rfl
  cases hu
  exact (slice_ltS Try.underlying22 hc).1
theorem types35 : Try.prog.cellTypes Try.prog.depth 35 = some [3, 9, 3, 3, 3, 3, 3, 3, 3, 3, 3, 3, 3, 3, 9, 3, 3, 32, 3, 33] := by kernel_rfl
set_option maxRecDepth 100000 in
theorem msg_lt {W : World} {base : Nat} {m : Msg} {ao : Option Addr} {cv : Nat} (h : Value.okWide Try.prog W .any base 35 (.agg (msgCells m (.slice ao m.views.length cv)))) : ∀ b o, ao = some ⟨b, o, none⟩ → b < W.heap.size := by
  simp only [Value.okWide, Try.underlying35] at h
  obtain ⟨cs, e, _, ts, hts, _, hr⟩ := h
  cases e
  rw [types35] at hts
  cases hts
  obtain ⟨u, hu, hc⟩ := hr 19 (.slice ao m.views.length cv) rfl
  cases hu
  exact (slice_ltS Try.underlying33 hc).1
end Go.Proofs.Ytdbngkjgaglngaa
namespace Go.Proofs.Ytdbngkjgaglngaa.wireBack
open Go.ChangeShapes Go.WideShapes Go.ChangeAt Go.RowKit Go.WideMaps Go.WideElems
set_option maxRecDepth 100000 in
set_option maxHeartbeats 1600000 in
theorem contract (H : Type) (enc : TypeId × Value → H) (W : World) (base : Nat) (args : Array Value) (ds gs : List (DataW H)) (before : List MemPlace)
    (hval : ∀ (j : Nat) t v, Try.f8.params[j]? = some t → args[j]? = some v → Value.okWide Try.prog W .any base t v)
    (hW : DataW.Whole enc Try.prog Try.f8.params.toList Rows.wireBackSpec.vars false W args.toList ds gs before)
    (hsz : (DataW.weightsEach Try.prog (Try.f8.params.toList ++ Rows.wireBackSpec.plain.varTypes Try.prog) (ds ++ gs)).all (· ≤ reachBytes) = true) :
    Calls Try.prog 8 args W fun e W' => ∃ v, e = .returned v ∧ Rows.wireBackSpec.post enc Try.prog Try.f8 false true false false W args v W' := by
  have hW' := hW
  obtain ⟨p, q, hA0, hV, rfl, hfz, hnd⟩ := hW
  have hA : DataW.TrodAll enc Try.prog W 0 (fun _ => true) true Try.f8.params.toList args.toList ds p := hA0
  rw [Try.params8] at hA hval
  obtain ⟨v0, vs0, d0, ds0, p0, q0, hargs, rfl, rfl, h0, r0⟩ := trodAll_cons hA
  obtain ⟨v1, vs1, d1, ds1, p1, q1, rfl, rfl, rfl, h1, r1⟩ := trodAll_cons r0
  obtain ⟨v2, vs2, d2, ds2, p2, q2, rfl, rfl, rfl, h2, r2⟩ := trodAll_cons r1
  obtain ⟨v3, vs3, d3, ds3, p3, q3, rfl, rfl, rfl, h3, r3⟩ := trodAll_cons r2
  obtain ⟨v4, vs4, d4, ds4, p4, q4, rfl, rfl, rfl, h4, r4⟩ := trodAll_cons r3
  obtain ⟨rfl, rfl, rfl⟩ := trodAll_nil r4
  obtain rfl : args = #[v0, v1, v2, v3, v4] := by cases args; simp_all
  obtain ⟨rfl, rfl⟩ := trodVars_none hV
  clear hA0 r0 r1 r2 r3 r4 hA
  have hlt0 : ∀ x ∈ p0, x.block < W.heap.size := fun x hx => hW'.lt x (by simp [hx])
  have hlt1 : ∀ x ∈ p1, x.block < W.heap.size := fun x hx => hW'.lt x (by simp [hx])
  have hlt2 : ∀ x ∈ p2, x.block < W.heap.size := fun x hx => hW'.lt x (by simp [hx])
  have hlt3 : ∀ x ∈ p3, x.block < W.heap.size := fun x hx => hW'.lt x (by simp [hx])
  have hlt4 : ∀ x ∈ p4, x.block < W.heap.size := fun x hx => hW'.lt x (by simp [hx])
  have hw0 : ∀ n ∈ d0.weights Try.prog 35, n ≤ reachBytes := fun n hn => by
    have := List.all_eq_true.1 hsz n (DataW.weights_mem_each (j := 0) (t := 35) (d := d0) (by rw [Try.params8]; rfl) rfl n hn)
    simpa using this
  have hw1 : ∀ n ∈ d1.weights Try.prog 46, n ≤ reachBytes := fun n hn => by
    have := List.all_eq_true.1 hsz n (DataW.weights_mem_each (j := 1) (t := 46) (d := d1) (by rw [Try.params8]; rfl) rfl n hn)
    simpa using this
  have hw3 : ∀ n ∈ d3.weights Try.prog 31, n ≤ reachBytes := fun n hn => by
    have := List.all_eq_true.1 hsz n (DataW.weights_mem_each (j := 3) (t := 31) (d := d3) (by rw [Try.params8]; rfl) rfl n hn)
    simpa using this
  obtain ⟨m, ao, cv, rfl, hvf, hl, hol, ha, hb, hnm⟩ := open_msg (hval 0 35 v0 rfl rfl) h0 hw0
  have hsb := msg_lt (hval 0 35 _ rfl rfl)
  obtain ⟨s, so, sc, rfl, hnil, hf, hsl⟩ := open_seg (hval 1 46 v1 rfl rfl) h1 hw1
  have hsd := seg_lt (hval 1 46 _ rfl rfl)
  obtain ⟨cq, rfl⟩ := open_call (hval 2 29 v2 rfl rfl) h2
  obtain ⟨co, rfl, hn1, ha1, hb1⟩ := open_op (hval 3 31 v3 rfl rfl) h3 hw3
  obtain ⟨cr, rfl, hv1⟩ := open_rep (hval 4 55 v4 rfl rfl) h4
  refine (back_law m ao cv s so sc cq co cr W (by omega) (by omega) hvf hsb (fun x hx => by have := hnm x hx; omega) ha.1 ha.2 hb.1 hb.2 hnil hf hsd (by omega) ha1.1 ha1.2 hb1.1 hb1.2 hv1.1 hv1.2).mono fun e W' ⟨he, hbl⟩ => ?_
  subst he
  exact ⟨_, rfl, _, _, _, [], _, [], hW', trodAll_cons_mk (shut_bool Try.underlying4 _) trodAll_mk0, trodAll_cons_mk (Below.trod laidOut (by kernel_rfl) (of_decide_eq_true (by kernel_rfl)) h0 hbl hlt0) (trodAll_cons_mk (Below.trod laidOut (by kernel_rfl) (of_decide_eq_true (by kernel_rfl)) h1 hbl hlt1) (trodAll_cons_mk (Below.trod laidOut (by kernel_rfl) (of_decide_eq_true (by kernel_rfl)) h2 hbl hlt2) (trodAll_cons_mk (Below.trod laidOut (by kernel_rfl) (of_decide_eq_true (by kernel_rfl)) h3 hbl hlt3) (trodAll_cons_mk (Below.trod laidOut (by kernel_rfl) (of_decide_eq_true (by kernel_rfl)) h4 hbl hlt4) trodAll_mk0)))), rfl, hbl.frame _, fun h => by cases h⟩

set_option maxRecDepth 100000 in
theorem lifted (os : Os) (started : os.Started) (H : Type) (enc : TypeId × Value → H) :
    ReturnsInHanded {} Try.checked os 8 .any (Rows.wireBackSpec.pre6 enc Try.prog Try.f8 Rows.wireBackRow.domain false) (Rows.wireBackSpec.post enc Try.prog Try.f8 false true false false) := by
  refine returnsInHanded_of_change_sized (C := Try.checked) (s := Rows.wireBackSpec) own started (by kernel_rfl) Try.func8
    (ChangeSpec.witness6 (enc := enc) (C := Try.checked) (s := Rows.wireBackSpec) false ⟨#[], #[.agg zeroC, .agg zeroS, .agg zeroQ, .agg zeroO, .agg zeroR], []⟩ 8 (by kernel_rfl) (by kernel_rfl) (by kernel_rfl) (by kernel_rfl)) ?_
  intro W base args ds gs before hval hW _ hsz _
  exact contract H enc W base args ds gs before hval hW hsz

theorem said : Rows.WireBackSaid :=
  OpenClaim.holds_of_wide 8 Try.f8 rfl rfl rfl rfl rfl rfl rfl ⟨rfl, rfl, rfl, rfl, rfl⟩ rfl rfl rfl rfl rfl (by kernel_rfl) Try.func8 (by kernel_rfl)
    (of_decide_eq_true (by kernel_rfl)) (by unfold Func.isWrapper; first | (rw [if_pos (by decide +kernel)]; kernel_rfl) | (rw [if_neg (by decide +kernel)]; exact ⟨rfl, rfl⟩))
    (fun os started H enc _ => lifted os started H enc)
end Go.Proofs.Ytdbngkjgaglngaa.wireBack

namespace Go.Proofs.Ytdbngkjgaglngaa
theorem wireBack_said : Rows.WireBackSaid := wireBack.said
end Go.Proofs.Ytdbngkjgaglngaa
