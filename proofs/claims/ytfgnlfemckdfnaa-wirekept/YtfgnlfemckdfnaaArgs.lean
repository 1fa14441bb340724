import Derived.Test.YtfgnlfemckdfnaaRows
import Derived.Test.YtfgnlfemckdfnaaBase
import Derived.WalkKit
import Derived.ProofKit
import Derived.OpenShut
import Derived.SizedLaws
import Derived.Test.YtfgnlfemckdfnaaJD
namespace Go.Proofs.Ytfgnlfemckdfnaa
open Go.ChangeShapes Go.WideShapes Go.ChangeAt Go.RowKit Go.WideMaps Go.WideElems
theorem own : ownKnob Try.prog.godebug = none := by kernel_rfl
theorem laidOut : laidOutB Try.prog = true := by kernel_rfl
theorem cells5 : Try.prog.cellsOf 5 = 1 := by kernel_rfl
theorem bytes5 : Try.prog.bytesOf 5 = 1 := by kernel_rfl
end Go.Proofs.Ytfgnlfemckdfnaa
namespace Go.Proofs.Ytfgnlfemckdfnaa
open Go.ChangeShapes Go.WideShapes Go.ChangeAt Go.RowKit Go.WideMaps Go.WideElems
set_option linter.unusedSimpArgs false
theorem cells3 : Try.prog.cellsOf 3 = 1 := by kernel_rfl
theorem cells9 : Try.prog.cellsOf 9 = 1 := by kernel_rfl
theorem cells25 : Try.prog.cellsOf 25 = 2 := by kernel_rfl
theorem cells27 : Try.prog.cellsOf 27 = 2 := by kernel_rfl
theorem cells29 : Try.prog.cellsOf 29 = 2 := by kernel_rfl
theorem cells31 : Try.prog.cellsOf 31 = 4 := by kernel_rfl
theorem cells32 : Try.prog.cellsOf 32 = 1 := by kernel_rfl
theorem cells33 : Try.prog.cellsOf 33 = 1 := by kernel_rfl
theorem cells35 : Try.prog.cellsOf 35 = 20 := by kernel_rfl
theorem cells112 : Try.prog.cellsOf 112 = 7 := by kernel_rfl
theorem uncons {α : Type} {l : List α} {n : Nat} (h : l.length = n + 1) : ∃ a t, l = a :: t ∧ t.length = n := by
  cases l with
  | nil => simp at h
  | cons a t => exact ⟨a, t, rfl, by simpa using h⟩
def In64 (z : Int) : Prop := (-9223372036854775808 : Int) ≤ z ∧ z < 9223372036854775808
section
variable {H : Type} {enc : TypeId × Value → H} {W : World} {fuel : Nat} {cs : List Value} {x : DataW H × List MemPlace}
set_option maxRecDepth 100000
set_option maxHeartbeats 1600000
theorem t_int {t : TypeId} (hu : Try.prog.underlying t = some (.int .i64)) (h : DataW.trod enc Try.prog W 0 (fun _ => true) true fuel t cs = some x) : ∃ z, cs = [.int .i64 z] ∧ In64 z := by
  obtain ⟨z, e, _, hw⟩ := DataW.trod_int hu h
  have := bounds_i64 hw
  exact ⟨z, e, by unfold In64; omega⟩
theorem t_str {t : TypeId} (hu : Try.prog.underlying t = some .string) (h : DataW.trod enc Try.prog W 0 (fun _ => true) true fuel t cs = some x) (hw : ∀ n ∈ x.1.weights Try.prog t, n ≤ reachBytes) : ∃ s : List UInt8, cs = [Str s] ∧ s.length ≤ 140737488351232 := by
  obtain ⟨s, e, hx, _⟩ := DataW.trod_string hu h
  refine ⟨s.data.toList, e, ?_⟩
  have := hw s.data.toList.length (by rw [hx]; simp [DataW.weights])
  exact this
theorem t_two {t : TypeId} {f0 f1 : Field} (hu : Try.prog.underlying t = some (.struct #[f0, f1])) (hc : Try.prog.cellsOf t = 2) (t0 : f0.type = 3) (t1 : f1.type = 3) (o0 : f0.offset = 0) (o1 : f1.offset = 1)
    (h : DataW.trod enc Try.prog W 0 (fun _ => true) true fuel t cs = some x) : ∃ a b, cs = [.int .i64 a, .int .i64 b] ∧ In64 a ∧ In64 b := by
  obtain ⟨xs, m, _, hx, hl, hxl, hf⟩ := DataW.trod_struct hu h
  have hxl' : xs.length = 2 := hxl
  rw [hc] at hl
  obtain ⟨c0, l1, rfl, k1⟩ := uncons hl
  obtain ⟨c1, l2, rfl, k2⟩ := uncons k1
  obtain rfl := List.eq_nil_of_length_eq_zero k2
  have h0 := hf 0 f0 rfl
  have h1 := hf 1 f1 rfl
  rw [t0, o0, cells3, List.getElem?_eq_getElem (by omega)] at h0
  rw [t1, o1, cells3, List.getElem?_eq_getElem (by omega)] at h1
  obtain ⟨a, ea, ha⟩ := t_int Try.underlying3 h0
  obtain ⟨b, eb, hb⟩ := t_int Try.underlying3 h1
  simp only [List.drop_zero, List.take_succ_cons, List.take_zero, List.cons.injEq, and_true, List.drop_succ_cons] at ea eb
  exact ⟨a, b, by rw [ea, eb], ha, hb⟩
theorem w_part {t t' : TypeId} {fs : Array Field} {xs : List (DataW H × List MemPlace)} {i : Nat} {y : DataW H × List MemPlace} (hu : Try.prog.underlying t = some (.struct fs)) (hx : x = (.agg (xs.map (·.1)), xs.flatMap (·.2))) (hw : ∀ n ∈ x.1.weights Try.prog t, n ≤ reachBytes)
    (ht : (fs.toList.map (·.type))[i]? = some t') (hy : xs[i]? = some y) : ∀ n ∈ y.1.weights Try.prog t', n ≤ reachBytes := by
  intro n hn
  refine hw n ?_
  rw [hx]
  simp only [DataW.weights, hu]
  exact DataW.weights_mem_each ht (by rw [List.getElem?_map, hy]; rfl) n hn
theorem t_op (h : DataW.trod enc Try.prog W 0 (fun _ => true) true fuel 31 cs = some x) (hw : ∀ n ∈ x.1.weights Try.prog 31, n ≤ reachBytes) :
    ∃ k s a b, cs = [.int .i64 k, Str s, .int .i64 a, .int .i64 b] ∧ s.length ≤ 140737488351232 ∧ In64 a ∧ In64 b := by
  obtain ⟨xs, mm, _, hx, hl, hxl, hf⟩ := DataW.trod_struct Try.underlying31 h
  have hxl' : xs.length = 4 := hxl
  rw [cells31] at hl
  obtain ⟨c0, l1, rfl, k1⟩ := uncons hl
  obtain ⟨c1, l2, rfl, k2⟩ := uncons k1
  obtain ⟨c2, l3, rfl, k3⟩ := uncons k2
  obtain ⟨c3, l4, rfl, k4⟩ := uncons k3
  obtain rfl := List.eq_nil_of_length_eq_zero k4
  have y0 : xs[0]? = some xs[0] := List.getElem?_eq_getElem (by omega)
  have h0 : DataW.trod enc Try.prog W 0 (fun _ => true) true mm 3 [c0] = some xs[0] := by
    have e : DataW.trod enc Try.prog W 0 (fun _ => true) true mm 3 (List.take (Try.prog.cellsOf 3) (List.drop 0 [c0, c1, c2, c3])) = xs[0]? := hf 0 _ rfl
    rw [cells3, y0] at e
    exact e
  obtain ⟨z0, e0, b0⟩ := t_int Try.underlying3 h0
  have y1 : xs[1]? = some xs[1] := List.getElem?_eq_getElem (by omega)
  have h1 : DataW.trod enc Try.prog W 0 (fun _ => true) true mm 9 [c1] = some xs[1] := by
    have e : DataW.trod enc Try.prog W 0 (fun _ => true) true mm 9 (List.take (Try.prog.cellsOf 9) (List.drop 1 [c0, c1, c2, c3])) = xs[1]? := hf 1 _ rfl
    rw [cells9, y1] at e
    exact e
  obtain ⟨s1, e1, b1⟩ := t_str Try.underlying9 h1 (w_part Try.underlying31 hx hw (i := 1) rfl y1)
  have y2 : xs[2]? = some xs[2] := List.getElem?_eq_getElem (by omega)
  have h2 : DataW.trod enc Try.prog W 0 (fun _ => true) true mm 3 [c2] = some xs[2] := by
    have e : DataW.trod enc Try.prog W 0 (fun _ => true) true mm 3 (List.take (Try.prog.cellsOf 3) (List.drop 2 [c0, c1, c2, c3])) = xs[2]? := hf 2 _ rfl
    rw [cells3, y2] at e
    exact e
  obtain ⟨z2, e2, b2⟩ := t_int Try.underlying3 h2
  have y3 : xs[3]? = some xs[3] := List.getElem?_eq_getElem (by omega)
  have h3 : DataW.trod enc Try.prog W 0 (fun _ => true) true mm 3 [c3] = some xs[3] := by
    have e : DataW.trod enc Try.prog W 0 (fun _ => true) true mm 3 (List.take (Try.prog.cellsOf 3) (List.drop 3 [c0, c1, c2, c3])) = xs[3]? := hf 3 _ rfl
    rw [cells3, y3] at e
    exact e
  obtain ⟨z3, e3, b3⟩ := t_int Try.underlying3 h3
  clear hf h hl
  cases e0; cases e1; cases e2; cases e3
  exact ⟨z0, s1, z2, z3, rfl, b1, b2, b3⟩
theorem t_view (h : DataW.trod enc Try.prog W 0 (fun _ => true) true fuel 112 cs = some x) (hw : ∀ n ∈ x.1.weights Try.prog 112, n ≤ reachBytes) :
    ∃ v : View, cs = viewCells v ∧ v.name.length ≤ 140737488351232 := by
  obtain ⟨xs, mm, _, hx, hl, hxl, hf⟩ := DataW.trod_struct Try.underlying112 h
  have hxl' : xs.length = 6 := hxl
  rw [cells112] at hl
  obtain ⟨c0, l1, rfl, k1⟩ := uncons hl
  obtain ⟨c1, l2, rfl, k2⟩ := uncons k1
  obtain ⟨c2, l3, rfl, k3⟩ := uncons k2
  obtain ⟨c3, l4, rfl, k4⟩ := uncons k3
  obtain ⟨c4, l5, rfl, k5⟩ := uncons k4
  obtain ⟨c5, l6, rfl, k6⟩ := uncons k5
  obtain ⟨c6, l7, rfl, k7⟩ := uncons k6
  obtain rfl := List.eq_nil_of_length_eq_zero k7
  have y0 : xs[0]? = some xs[0] := List.getElem?_eq_getElem (by omega)
  have h0 : DataW.trod enc Try.prog W 0 (fun _ => true) true mm 9 [c0] = some xs[0] := by
    have e : DataW.trod enc Try.prog W 0 (fun _ => true) true mm 9 (List.take (Try.prog.cellsOf 9) (List.drop 0 [c0, c1, c2, c3, c4, c5, c6])) = xs[0]? := hf 0 _ rfl
    rw [cells9, y0] at e
    exact e
  obtain ⟨s0, e0, b0⟩ := t_str Try.underlying9 h0 (w_part Try.underlying112 hx hw (i := 0) rfl y0)
  have y1 : xs[1]? = some xs[1] := List.getElem?_eq_getElem (by omega)
  have h1 : DataW.trod enc Try.prog W 0 (fun _ => true) true mm 3 [c1] = some xs[1] := by
    have e : DataW.trod enc Try.prog W 0 (fun _ => true) true mm 3 (List.take (Try.prog.cellsOf 3) (List.drop 1 [c0, c1, c2, c3, c4, c5, c6])) = xs[1]? := hf 1 _ rfl
    rw [cells3, y1] at e
    exact e
  obtain ⟨z1, e1, b1⟩ := t_int Try.underlying3 h1
  have y2 : xs[2]? = some xs[2] := List.getElem?_eq_getElem (by omega)
  have h2 : DataW.trod enc Try.prog W 0 (fun _ => true) true mm 3 [c2] = some xs[2] := by
    have e : DataW.trod enc Try.prog W 0 (fun _ => true) true mm 3 (List.take (Try.prog.cellsOf 3) (List.drop 2 [c0, c1, c2, c3, c4, c5, c6])) = xs[2]? := hf 2 _ rfl
    rw [cells3, y2] at e
    exact e
  obtain ⟨z2, e2, b2⟩ := t_int Try.underlying3 h2
  have y3 : xs[3]? = some xs[3] := List.getElem?_eq_getElem (by omega)
  have h3 : DataW.trod enc Try.prog W 0 (fun _ => true) true mm 3 [c3] = some xs[3] := by
    have e : DataW.trod enc Try.prog W 0 (fun _ => true) true mm 3 (List.take (Try.prog.cellsOf 3) (List.drop 3 [c0, c1, c2, c3, c4, c5, c6])) = xs[3]? := hf 3 _ rfl
    rw [cells3, y3] at e
    exact e
  obtain ⟨z3, e3, b3⟩ := t_int Try.underlying3 h3
  have y4 : xs[4]? = some xs[4] := List.getElem?_eq_getElem (by omega)
  have h4 : DataW.trod enc Try.prog W 0 (fun _ => true) true mm 27 [c4, c5] = some xs[4] := by
    have e : DataW.trod enc Try.prog W 0 (fun _ => true) true mm 27 (List.take (Try.prog.cellsOf 27) (List.drop 4 [c0, c1, c2, c3, c4, c5, c6])) = xs[4]? := hf 4 _ rfl
    rw [cells27, y4] at e
    exact e
  obtain ⟨p4, q4, e4, b4, b4'⟩ := t_two Try.underlying27 cells27 rfl rfl rfl rfl h4
  have y5 : xs[5]? = some xs[5] := List.getElem?_eq_getElem (by omega)
  have h5 : DataW.trod enc Try.prog W 0 (fun _ => true) true mm 3 [c6] = some xs[5] := by
    have e : DataW.trod enc Try.prog W 0 (fun _ => true) true mm 3 (List.take (Try.prog.cellsOf 3) (List.drop 6 [c0, c1, c2, c3, c4, c5, c6])) = xs[5]? := hf 5 _ rfl
    rw [cells3, y5] at e
    exact e
  obtain ⟨z5, e5, b5⟩ := t_int Try.underlying3 h5
  clear hf h hl
  cases e0; cases e1; cases e2; cases e3; cases e4; cases e5
  exact ⟨⟨s0, z1, z2, z3, p4, q4, z5⟩, rfl, b0⟩
theorem list_of {α : Type} (P : Nat → α → Prop) : ∀ n, (∀ i, i < n → ∃ c, P i c) → ∃ cs : List α, cs.length = n ∧ ∀ i c, cs[i]? = some c → P i c
  | 0, _ => ⟨[], rfl, fun i c h => by simp at h⟩
  | n + 1, h => by
    obtain ⟨cs, hl, hc⟩ := list_of P n fun i hi => h i (by omega)
    obtain ⟨c, hP⟩ := h n (by omega)
    refine ⟨cs ++ [c], by simp [hl], fun i c' hi => ?_⟩
    by_cases hin : i < n
    · rw [List.getElem?_append_left (by omega)] at hi
      exact hc i c' hi
    · rw [List.getElem?_append_right (by omega)] at hi
      by_cases e0 : i - cs.length = 0
      · rw [e0] at hi
        cases hi
        rw [show i = n from by omega]
        exact hP
      · rw [List.getElem?_eq_none (by simp; omega)] at hi; cases hi
theorem w_all {e : TypeId} : ∀ {ds : List (DataW H)} {i : Nat} {d : DataW H}, ds[i]? = some d → ∀ n ∈ d.weights Try.prog e, n ∈ DataW.weightsAll Try.prog e ds
  | d0 :: ds, 0, d, hd, n, hn => by
    simp only [List.getElem?_cons_zero, Option.some.injEq] at hd
    subst hd
    simp only [DataW.weightsAll, List.mem_append]
    exact .inl hn
  | d0 :: ds, i + 1, d, hd, n, hn => by
    simp only [List.getElem?_cons_succ] at hd
    simp only [DataW.weightsAll, List.mem_append]
    exact .inr (w_all hd n hn)
  | [], _, _, hd, _, _ => by simp at hd
theorem spot_none {a : Addr} {v : Value} (h : W.cell? a = some v) : a.spot = none := by
  cases hs : a.spot with
  | none => rfl
  | some k =>
    rw [World.cell?] at h
    split at h
    · rw [hs] at h; simp at h
    · cases h
theorem add_none {a : Addr} (hs : a.spot = none) (k : Nat) : a.add k = ⟨a.block, a.off + k, none⟩ := by
  unfold Addr.add
  split
  · rename_i e; subst e; obtain ⟨b, o, s⟩ := a; simp only at hs; subst hs; rfl
  · rfl
theorem t_views (h : DataW.trod enc Try.prog W 0 (fun _ => true) true fuel 33 cs = some x) (hw : ∀ n ∈ x.1.weights Try.prog 33, n ≤ reachBytes) :
    ∃ (ao : Option Addr) (cv : Nat) (vs : List View), cs = [.slice ao vs.length cv] ∧ VFrom W ao vs ∧ (∀ v ∈ vs, v.name.length ≤ 140737488351232) ∧ vs.length < 2199023255552 := by
  rcases DataW.trod_slice Try.underlying33 h with ⟨hcs, _⟩ | ⟨a, len, cap, elems, rest, mm, _, hcs, hx, _, hl, hm, hel, he, _, _⟩
  · exact ⟨none, 0, [], hcs, (fun i x h => by simp at h), (fun v hv => by cases hv), by simp⟩
  · rw [cells112] at he
    have hxd : x.1 = .slice (elems.map (·.1)) (rest.map (·.1)) := by rw [hx]
    have hwl : len < 2199023255552 := by
      have h1 := hw ((elems.length + rest.length) * Try.prog.bytesOf 112) (by
        rw [hxd]
        simp only [DataW.weights, Try.underlying33, List.length_map]
        exact List.mem_cons_self)
      rw [show Try.prog.bytesOf 112 = 64 from by kernel_rfl, show reachBytes = 140737488351232 from rfl] at h1
      omega
    obtain ⟨vs, hvl, hv⟩ := list_of (fun i v => (∀ j c, (viewCells v)[j]? = some c → W.cell? ((a.add (i * 7)).add j) = some c) ∧ v.name.length ≤ 140737488351232) len fun i hi => by
      have h1 := he i hi
      rw [List.getElem?_eq_getElem (by omega), Option.bind_eq_some_iff] at h1
      obtain ⟨cs', hcs', ht⟩ := h1
      obtain ⟨_, hl', hcell⟩ := World.cells?_some hcs'
      obtain ⟨v, rfl, hvn⟩ := t_view ht fun n hn => hw n (by
        rw [hxd]
        simp only [DataW.weights, Try.underlying33]
        refine List.mem_cons.2 (.inr (List.mem_append.2 (.inl ?_)))
        exact w_all (i := i) (d := elems[i].1) (by rw [List.getElem?_map, List.getElem?_eq_getElem (by omega)]; rfl) n hn)
      refine ⟨v, fun j c hc => ?_, hvn⟩
      have hj : j < 7 := by have := (List.getElem?_eq_some_iff.1 hc).1; simpa [viewCells] using this
      rw [hcell j hj, hc]
    refine ⟨some a, cap, vs, by rw [hvl]; exact hcs, fun i v hi => ?_, fun v hvm => ?_, by rw [hvl]; exact hwl⟩
    · have hi' : i < len := by have := (List.getElem?_eq_some_iff.1 hi).1; omega
      have h00 := (hv 0 vs[0] (List.getElem?_eq_getElem (by omega))).1 0 _ rfl
      have hs : a.spot = none := by
        have := spot_none h00
        simpa [Addr.add] using this
      refine ⟨a.block, a.off, by obtain ⟨b, o, s⟩ := a; simp only at hs; subst hs; rfl, fun j c hc => ?_⟩
      have := (hv i v hi).1 j c hc
      rwa [add_none hs, add_none rfl] at this
    · obtain ⟨i, hi⟩ := List.getElem?_of_mem hvm
      exact (hv i v hi).2
theorem t_msg (h : DataW.trod enc Try.prog W 0 (fun _ => true) true fuel 35 cs = some x) (hw : ∀ n ∈ x.1.weights Try.prog 35, n ≤ reachBytes) :
    ∃ (m : Msg) (ao : Option Addr) (cv : Nat), cs = (msgCells m (.slice ao m.views.length cv)).toList ∧ VFrom W ao m.views ∧ m.name.length ≤ 140737488351232 ∧ m.oname.length ≤ 140737488351232 ∧ In64 m.oa ∧ In64 m.ob ∧ (∀ v ∈ m.views, v.name.length ≤ 140737488351232) ∧ m.views.length < 2199023255552 := by
  obtain ⟨xs, mm, _, hx, hl, hxl, hf⟩ := DataW.trod_struct Try.underlying35 h
  have hxl' : xs.length = 13 := hxl
  rw [cells35] at hl
  obtain ⟨c0, l1, rfl, k1⟩ := uncons hl
  obtain ⟨c1, l2, rfl, k2⟩ := uncons k1
  obtain ⟨c2, l3, rfl, k3⟩ := uncons k2
  obtain ⟨c3, l4, rfl, k4⟩ := uncons k3
  obtain ⟨c4, l5, rfl, k5⟩ := uncons k4
  obtain ⟨c5, l6, rfl, k6⟩ := uncons k5
  obtain ⟨c6, l7, rfl, k7⟩ := uncons k6
  obtain ⟨c7, l8, rfl, k8⟩ := uncons k7
  obtain ⟨c8, l9, rfl, k9⟩ := uncons k8
  obtain ⟨c9, l10, rfl, k10⟩ := uncons k9
  obtain ⟨c10, l11, rfl, k11⟩ := uncons k10
  obtain ⟨c11, l12, rfl, k12⟩ := uncons k11
  obtain ⟨c12, l13, rfl, k13⟩ := uncons k12
  obtain ⟨c13, l14, rfl, k14⟩ := uncons k13
  obtain ⟨c14, l15, rfl, k15⟩ := uncons k14
  obtain ⟨c15, l16, rfl, k16⟩ := uncons k15
  obtain ⟨c16, l17, rfl, k17⟩ := uncons k16
  obtain ⟨c17, l18, rfl, k18⟩ := uncons k17
  obtain ⟨c18, l19, rfl, k19⟩ := uncons k18
  obtain ⟨c19, l20, rfl, k20⟩ := uncons k19
  obtain rfl := List.eq_nil_of_length_eq_zero k20
  have y0 : xs[0]? = some xs[0] := List.getElem?_eq_getElem (by omega)
  have h0 : DataW.trod enc Try.prog W 0 (fun _ => true) true mm 3 [c0] = some xs[0] := by
    have e : DataW.trod enc Try.prog W 0 (fun _ => true) true mm 3 (List.take (Try.prog.cellsOf 3) (List.drop 0 [c0, c1, c2, c3, c4, c5, c6, c7, c8, c9, c10, c11, c12, c13, c14, c15, c16, c17, c18, c19])) = xs[0]? := hf 0 _ rfl
    rw [cells3, y0] at e
    exact e
  obtain ⟨z0, e0, b0⟩ := t_int Try.underlying3 h0
  have y1 : xs[1]? = some xs[1] := List.getElem?_eq_getElem (by omega)
  have h1 : DataW.trod enc Try.prog W 0 (fun _ => true) true mm 9 [c1] = some xs[1] := by
    have e : DataW.trod enc Try.prog W 0 (fun _ => true) true mm 9 (List.take (Try.prog.cellsOf 9) (List.drop 1 [c0, c1, c2, c3, c4, c5, c6, c7, c8, c9, c10, c11, c12, c13, c14, c15, c16, c17, c18, c19])) = xs[1]? := hf 1 _ rfl
    rw [cells9, y1] at e
    exact e
  obtain ⟨s1, e1, b1⟩ := t_str Try.underlying9 h1 (w_part Try.underlying35 hx hw (i := 1) rfl y1)
  have y2 : xs[2]? = some xs[2] := List.getElem?_eq_getElem (by omega)
  have h2 : DataW.trod enc Try.prog W 0 (fun _ => true) true mm 3 [c2] = some xs[2] := by
    have e : DataW.trod enc Try.prog W 0 (fun _ => true) true mm 3 (List.take (Try.prog.cellsOf 3) (List.drop 2 [c0, c1, c2, c3, c4, c5, c6, c7, c8, c9, c10, c11, c12, c13, c14, c15, c16, c17, c18, c19])) = xs[2]? := hf 2 _ rfl
    rw [cells3, y2] at e
    exact e
  obtain ⟨z2, e2, b2⟩ := t_int Try.underlying3 h2
  have y3 : xs[3]? = some xs[3] := List.getElem?_eq_getElem (by omega)
  have h3 : DataW.trod enc Try.prog W 0 (fun _ => true) true mm 3 [c3] = some xs[3] := by
    have e : DataW.trod enc Try.prog W 0 (fun _ => true) true mm 3 (List.take (Try.prog.cellsOf 3) (List.drop 3 [c0, c1, c2, c3, c4, c5, c6, c7, c8, c9, c10, c11, c12, c13, c14, c15, c16, c17, c18, c19])) = xs[3]? := hf 3 _ rfl
    rw [cells3, y3] at e
    exact e
  obtain ⟨z3, e3, b3⟩ := t_int Try.underlying3 h3
  have y4 : xs[4]? = some xs[4] := List.getElem?_eq_getElem (by omega)
  have h4 : DataW.trod enc Try.prog W 0 (fun _ => true) true mm 25 [c4, c5] = some xs[4] := by
    have e : DataW.trod enc Try.prog W 0 (fun _ => true) true mm 25 (List.take (Try.prog.cellsOf 25) (List.drop 4 [c0, c1, c2, c3, c4, c5, c6, c7, c8, c9, c10, c11, c12, c13, c14, c15, c16, c17, c18, c19])) = xs[4]? := hf 4 _ rfl
    rw [cells25, y4] at e
    exact e
  obtain ⟨p4, q4, e4, b4, b4'⟩ := t_two Try.underlying25 cells25 rfl rfl rfl rfl h4
  have y5 : xs[5]? = some xs[5] := List.getElem?_eq_getElem (by omega)
  have h5 : DataW.trod enc Try.prog W 0 (fun _ => true) true mm 25 [c6, c7] = some xs[5] := by
    have e : DataW.trod enc Try.prog W 0 (fun _ => true) true mm 25 (List.take (Try.prog.cellsOf 25) (List.drop 6 [c0, c1, c2, c3, c4, c5, c6, c7, c8, c9, c10, c11, c12, c13, c14, c15, c16, c17, c18, c19])) = xs[5]? := hf 5 _ rfl
    rw [cells25, y5] at e
    exact e
  obtain ⟨p5, q5, e5, b5, b5'⟩ := t_two Try.underlying25 cells25 rfl rfl rfl rfl h5
  have y6 : xs[6]? = some xs[6] := List.getElem?_eq_getElem (by omega)
  have h6 : DataW.trod enc Try.prog W 0 (fun _ => true) true mm 27 [c8, c9] = some xs[6] := by
    have e : DataW.trod enc Try.prog W 0 (fun _ => true) true mm 27 (List.take (Try.prog.cellsOf 27) (List.drop 8 [c0, c1, c2, c3, c4, c5, c6, c7, c8, c9, c10, c11, c12, c13, c14, c15, c16, c17, c18, c19])) = xs[6]? := hf 6 _ rfl
    rw [cells27, y6] at e
    exact e
  obtain ⟨p6, q6, e6, b6, b6'⟩ := t_two Try.underlying27 cells27 rfl rfl rfl rfl h6
  have y7 : xs[7]? = some xs[7] := List.getElem?_eq_getElem (by omega)
  have h7 : DataW.trod enc Try.prog W 0 (fun _ => true) true mm 3 [c10] = some xs[7] := by
    have e : DataW.trod enc Try.prog W 0 (fun _ => true) true mm 3 (List.take (Try.prog.cellsOf 3) (List.drop 10 [c0, c1, c2, c3, c4, c5, c6, c7, c8, c9, c10, c11, c12, c13, c14, c15, c16, c17, c18, c19])) = xs[7]? := hf 7 _ rfl
    rw [cells3, y7] at e
    exact e
  obtain ⟨z7, e7, b7⟩ := t_int Try.underlying3 h7
  have y8 : xs[8]? = some xs[8] := List.getElem?_eq_getElem (by omega)
  have h8 : DataW.trod enc Try.prog W 0 (fun _ => true) true mm 29 [c11, c12] = some xs[8] := by
    have e : DataW.trod enc Try.prog W 0 (fun _ => true) true mm 29 (List.take (Try.prog.cellsOf 29) (List.drop 11 [c0, c1, c2, c3, c4, c5, c6, c7, c8, c9, c10, c11, c12, c13, c14, c15, c16, c17, c18, c19])) = xs[8]? := hf 8 _ rfl
    rw [cells29, y8] at e
    exact e
  obtain ⟨p8, q8, e8, b8, b8'⟩ := t_two Try.underlying29 cells29 rfl rfl rfl rfl h8
  have y9 : xs[9]? = some xs[9] := List.getElem?_eq_getElem (by omega)
  have h9 : DataW.trod enc Try.prog W 0 (fun _ => true) true mm 31 [c13, c14, c15, c16] = some xs[9] := by
    have e : DataW.trod enc Try.prog W 0 (fun _ => true) true mm 31 (List.take (Try.prog.cellsOf 31) (List.drop 13 [c0, c1, c2, c3, c4, c5, c6, c7, c8, c9, c10, c11, c12, c13, c14, c15, c16, c17, c18, c19])) = xs[9]? := hf 9 _ rfl
    rw [cells31, y9] at e
    exact e
  obtain ⟨ok9, os9, oa9, ob9, e9, b9⟩ := t_op h9 (w_part Try.underlying35 hx hw (i := 9) rfl y9)
  have y10 : xs[10]? = some xs[10] := List.getElem?_eq_getElem (by omega)
  have h10 : DataW.trod enc Try.prog W 0 (fun _ => true) true mm 32 [c17] = some xs[10] := by
    have e : DataW.trod enc Try.prog W 0 (fun _ => true) true mm 32 (List.take (Try.prog.cellsOf 32) (List.drop 17 [c0, c1, c2, c3, c4, c5, c6, c7, c8, c9, c10, c11, c12, c13, c14, c15, c16, c17, c18, c19])) = xs[10]? := hf 10 _ rfl
    rw [cells32, y10] at e
    exact e
  obtain ⟨z10, e10, b10⟩ := t_int Try.underlying32 h10
  have y11 : xs[11]? = some xs[11] := List.getElem?_eq_getElem (by omega)
  have h11 : DataW.trod enc Try.prog W 0 (fun _ => true) true mm 3 [c18] = some xs[11] := by
    have e : DataW.trod enc Try.prog W 0 (fun _ => true) true mm 3 (List.take (Try.prog.cellsOf 3) (List.drop 18 [c0, c1, c2, c3, c4, c5, c6, c7, c8, c9, c10, c11, c12, c13, c14, c15, c16, c17, c18, c19])) = xs[11]? := hf 11 _ rfl
    rw [cells3, y11] at e
    exact e
  obtain ⟨z11, e11, b11⟩ := t_int Try.underlying3 h11
  have y12 : xs[12]? = some xs[12] := List.getElem?_eq_getElem (by omega)
  have h12 : DataW.trod enc Try.prog W 0 (fun _ => true) true mm 33 [c19] = some xs[12] := by
    have e : DataW.trod enc Try.prog W 0 (fun _ => true) true mm 33 (List.take (Try.prog.cellsOf 33) (List.drop 19 [c0, c1, c2, c3, c4, c5, c6, c7, c8, c9, c10, c11, c12, c13, c14, c15, c16, c17, c18, c19])) = xs[12]? := hf 12 _ rfl
    rw [cells33, y12] at e
    exact e
  obtain ⟨ao12, cv12, vs12, e12, b12⟩ := t_views h12 (w_part Try.underlying35 hx hw (i := 12) rfl y12)
  clear hf h hl
  cases e0; cases e1; cases e2; cases e3; cases e4; cases e5; cases e6; cases e7; cases e8; cases e9; cases e10; cases e11; cases e12
  exact ⟨⟨z0, s1, z2, z3, p4, q4, p5, q5, p6, q6, z7, p8, q8, ok9, os9, oa9, ob9, z10, z11, vs12⟩, ao12, cv12, rfl, b12.1, b1, b9.1, b9.2.1, b9.2.2, b12.2⟩
end
end Go.Proofs.Ytfgnlfemckdfnaa
