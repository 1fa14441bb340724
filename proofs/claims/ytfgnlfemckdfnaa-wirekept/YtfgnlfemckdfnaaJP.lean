import Derived.Deep.MidRow
import Derived.Test.YtfgnlfemckdfnaaArgs
import Derived.Test.YtfgnlfemckdfnaaJE
import Derived.Test.YtfgnlfemckdfnaaKpL
namespace Go.Proofs.Ytfgnlfemckdfnaa
open Go.ChangeShapes Go.WideShapes Go.ChangeAt Go.RowKit Go.WideMaps Go.WideElems
set_option linter.unusedSimpArgs false
set_option linter.unusedVariables false
theorem cells55 : Try.prog.cellsOf 55 = 4 := by kernel_rfl
section
variable {H : Type} {enc : TypeId × Value → H} {W : World} {fuel : Nat} {cs : List Value} {x : DataW H × List MemPlace}
set_option maxRecDepth 100000
set_option maxHeartbeats 1600000
theorem t_rep (h : DataW.trod enc Try.prog W 0 (fun _ => true) true fuel 55 cs = some x) : ∃ a b e v, cs = [.int .i64 a, .int .i64 b, .int .i64 e, .int .i64 v] ∧ In64 v := by
  obtain ⟨xs, mm, _, hx, hl, hxl, hf⟩ := DataW.trod_struct Try.underlying55 h
  have hxl' : xs.length = 3 := hxl
  rw [cells55] at hl
  obtain ⟨c0, l1, rfl, k1⟩ := uncons hl
  obtain ⟨c1, l2, rfl, k2⟩ := uncons k1
  obtain ⟨c2, l3, rfl, k3⟩ := uncons k2
  obtain ⟨c3, l4, rfl, k4⟩ := uncons k3
  obtain rfl := List.eq_nil_of_length_eq_zero k4
  have y0 : xs[0]? = some xs[0] := List.getElem?_eq_getElem (by omega)
  have h0 : DataW.trod enc Try.prog W 0 (fun _ => true) true mm 29 [c0, c1] = some xs[0] := by
    have e : DataW.trod enc Try.prog W 0 (fun _ => true) true mm 29 (List.take (Try.prog.cellsOf 29) (List.drop 0 [c0, c1, c2, c3])) = xs[0]? := hf 0 _ rfl
    rw [cells29, y0] at e
    exact e
  obtain ⟨z0, z1, e0, _⟩ := t_two Try.underlying29 cells29 rfl rfl rfl rfl h0
  have y1 : xs[1]? = some xs[1] := List.getElem?_eq_getElem (by omega)
  have h1 : DataW.trod enc Try.prog W 0 (fun _ => true) true mm 32 [c2] = some xs[1] := by
    have e : DataW.trod enc Try.prog W 0 (fun _ => true) true mm 32 (List.take (Try.prog.cellsOf 32) (List.drop 2 [c0, c1, c2, c3])) = xs[1]? := hf 1 _ rfl
    rw [cells32, y1] at e
    exact e
  obtain ⟨z2, e2, _⟩ := t_int Try.underlying32 h1
  have y2 : xs[2]? = some xs[2] := List.getElem?_eq_getElem (by omega)
  have h2 : DataW.trod enc Try.prog W 0 (fun _ => true) true mm 3 [c3] = some xs[2] := by
    have e : DataW.trod enc Try.prog W 0 (fun _ => true) true mm 3 (List.take (Try.prog.cellsOf 3) (List.drop 3 [c0, c1, c2, c3])) = xs[2]? := hf 2 _ rfl
    rw [cells3, y2] at e
    exact e
  obtain ⟨z3, e3, b3⟩ := t_int Try.underlying3 h2
  cases e0; cases e2; cases e3
  exact ⟨z0, z1, z2, z3, rfl, b3⟩
end
theorem cells22 : Try.prog.cellsOf 22 = 1 := by kernel_rfl
theorem cells46 : Try.prog.cellsOf 46 = 5 := by kernel_rfl
section
variable {H : Type} {enc : TypeId × Value → H} {W : World} {fuel : Nat} {cs : List Value} {x : DataW H × List MemPlace}
set_option maxRecDepth 100000
set_option maxHeartbeats 1600000
theorem t_bytes (h : DataW.trod enc Try.prog W 0 (fun _ => true) true fuel 22 cs = some x) (hw : ∀ n ∈ x.1.weights Try.prog 22, n ≤ reachBytes) :
    ∃ ao cap ps, cs = [.slice ao ps.length cap] ∧ (ao = none → ps.length = 0 ∧ cap = 0) ∧ From W ao ps ∧ ps.length ≤ 140737488351232 := by
  rcases open_ints Try.underlying22 Try.underlying5 cells5 h with ⟨hcs, hx⟩ | ⟨a, len, cap, zs, hcs, _, hl, hm, hz, hx, hcell, hwz⟩
  · exact ⟨none, 0, [], hcs, fun _ => ⟨rfl, rfl⟩, fun h => by simp at h, by simp⟩
  · simp only [if_true] at hz
    have hb8 : ∀ j, j < zs.length → W.cell? (a.add j) = some (B (UInt8.ofNat (zs.getD j 0).toNat)) := by
      intro j hj
      rw [hcell j hj, B]
      have e2 : zs.getD j 0 = zs[j] := by rw [List.getD_eq_getElem?_getD, List.getElem?_eq_getElem hj]; rfl
      have hb := bounds_u8 (hwz zs[j] (List.getElem_mem hj))
      rw [e2]
      congr 1
      apply val_u8
      simp
      omega
    have hlen : ((zs.take len).map (fun z => UInt8.ofNat z.toNat)).length = len := by simp; omega
    have hbd : len ≤ 140737488351232 := by
      have := hw ((lits .u8 (zs.take len)).length * 1 + (lits .u8 (zs.drop len)).length * 1) (by
        rw [hx]
        simp only [DataW.weights, Try.underlying22, bytes5]
        refine List.mem_cons.2 (.inl ?_)
        first | rfl | omega | (simp; omega))
      have e : reachBytes = 140737488351232 := rfl
      have e1 : (lits .u8 (zs.take len) : List (DataW H)).length = len := by simp [lits]; omega
      omega
    refine ⟨some a, cap, (zs.take len).map (fun z => UInt8.ofNat z.toNat), by rw [hlen]; exact hcs, (fun h => by cases h), fun h => ?_, by omega⟩
    have h0 := hb8 0 (by omega)
    have hsp : a.spot = none := by
      have := spot_none h0
      simpa [Addr.add] using this
    refine ⟨a.block, a.off, by rw [← hsp], fun j u hu => ?_⟩
    rw [List.getElem?_map, List.getElem?_take] at hu
    split at hu
    · have hjz : j < zs.length := by omega
      rw [List.getElem?_eq_getElem hjz] at hu
      have e2 : zs.getD j 0 = zs[j] := by rw [List.getD_eq_getElem?_getD, List.getElem?_eq_getElem hjz]; rfl
      have := hb8 j hjz
      rw [add_none hsp, e2] at this
      rw [this]
      simp only [Option.map_some, Option.some.injEq] at hu
      rw [← hu]
    · cases hu
theorem t_seg (h : DataW.trod enc Try.prog W 0 (fun _ => true) true fuel 46 cs = some x) (hw : ∀ n ∈ x.1.weights Try.prog 46, n ≤ reachBytes) :
    ∃ (s : Seg) (ao : Option Addr) (cc : Nat), cs = (segCells s.src s.dst s.seq s.ack (.slice ao s.data.length cc)).toList ∧ (ao = none → s.data.length = 0 ∧ cc = 0) ∧ From W ao s.data ∧ s.data.length ≤ 140737488351232 := by
  obtain ⟨xs, mm, _, hx, hl, hxl, hf⟩ := DataW.trod_struct Try.underlying46 h
  have hxl' : xs.length = 5 := hxl
  rw [cells46] at hl
  obtain ⟨c0, l1, rfl, k1⟩ := uncons hl
  obtain ⟨c1, l2, rfl, k2⟩ := uncons k1
  obtain ⟨c2, l3, rfl, k3⟩ := uncons k2
  obtain ⟨c3, l4, rfl, k4⟩ := uncons k3
  obtain ⟨c4, l5, rfl, k5⟩ := uncons k4
  obtain rfl := List.eq_nil_of_length_eq_zero k5
  have y0 : xs[0]? = some xs[0] := List.getElem?_eq_getElem (by omega)
  have h0 : DataW.trod enc Try.prog W 0 (fun _ => true) true mm 3 [c0] = some xs[0] := by
    have e : DataW.trod enc Try.prog W 0 (fun _ => true) true mm 3 (List.take (Try.prog.cellsOf 3) (List.drop 0 [c0, c1, c2, c3, c4])) = xs[0]? := hf 0 _ rfl
    rw [cells3, y0] at e
    exact e
  obtain ⟨z0, e0, b0⟩ := t_int Try.underlying3 h0
  have y1 : xs[1]? = some xs[1] := List.getElem?_eq_getElem (by omega)
  have h1 : DataW.trod enc Try.prog W 0 (fun _ => true) true mm 3 [c1] = some xs[1] := by
    have e : DataW.trod enc Try.prog W 0 (fun _ => true) true mm 3 (List.take (Try.prog.cellsOf 3) (List.drop 1 [c0, c1, c2, c3, c4])) = xs[1]? := hf 1 _ rfl
    rw [cells3, y1] at e
    exact e
  obtain ⟨z1, e1, b1⟩ := t_int Try.underlying3 h1
  have y2 : xs[2]? = some xs[2] := List.getElem?_eq_getElem (by omega)
  have h2 : DataW.trod enc Try.prog W 0 (fun _ => true) true mm 3 [c2] = some xs[2] := by
    have e : DataW.trod enc Try.prog W 0 (fun _ => true) true mm 3 (List.take (Try.prog.cellsOf 3) (List.drop 2 [c0, c1, c2, c3, c4])) = xs[2]? := hf 2 _ rfl
    rw [cells3, y2] at e
    exact e
  obtain ⟨z2, e2, b2⟩ := t_int Try.underlying3 h2
  have y3 : xs[3]? = some xs[3] := List.getElem?_eq_getElem (by omega)
  have h3 : DataW.trod enc Try.prog W 0 (fun _ => true) true mm 3 [c3] = some xs[3] := by
    have e : DataW.trod enc Try.prog W 0 (fun _ => true) true mm 3 (List.take (Try.prog.cellsOf 3) (List.drop 3 [c0, c1, c2, c3, c4])) = xs[3]? := hf 3 _ rfl
    rw [cells3, y3] at e
    exact e
  obtain ⟨z3, e3, b3⟩ := t_int Try.underlying3 h3
  have y4 : xs[4]? = some xs[4] := List.getElem?_eq_getElem (by omega)
  have h4 : DataW.trod enc Try.prog W 0 (fun _ => true) true mm 22 [c4] = some xs[4] := by
    have e : DataW.trod enc Try.prog W 0 (fun _ => true) true mm 22 (List.take (Try.prog.cellsOf 22) (List.drop 4 [c0, c1, c2, c3, c4])) = xs[4]? := hf 4 _ rfl
    rw [cells22, y4] at e
    exact e
  obtain ⟨ao, cc, ps, e4, hn4, hf4, hl4⟩ := t_bytes h4 (w_part Try.underlying46 hx hw (i := 4) rfl y4)
  cases e0; cases e1; cases e2; cases e3; cases e4
  exact ⟨⟨z0, z1, z2, z3, ps⟩, ao, cc, rfl, hn4, hf4, hl4⟩
end
theorem cells114 : Try.prog.cellsOf 114 = 37 := by kernel_rfl
section
variable {H : Type} {enc : TypeId × Value → H} {W : World} {fuel : Nat} {cs : List Value} {x : DataW H × List MemPlace}
set_option maxRecDepth 100000
set_option maxHeartbeats 1600000
theorem parts7 {cs : List Value} (h : cs.length = 37) : cs = (cs.drop 0).take 1 ++ ((cs.drop 1).take 20 ++ ((cs.drop 21).take 5 ++ ((cs.drop 26).take 2 ++ ((cs.drop 28).take 4 ++ ((cs.drop 32).take 4 ++ (cs.drop 36).take 1))))) := by
  have st : ∀ i n, cs.drop i = (cs.drop i).take n ++ cs.drop (i + n) := fun i n => by rw [← List.drop_drop, List.take_append_drop]
  have e : cs.drop 37 = [] := List.drop_of_length_le (by omega)
  conv => lhs; rw [show cs = cs.drop 0 from rfl, st 0 1, st (0 + 1) 20, st (0 + 1 + 20) 5, st (0 + 1 + 20 + 5) 2, st (0 + 1 + 20 + 5 + 2) 4, st (0 + 1 + 20 + 5 + 2 + 4) 4, st (0 + 1 + 20 + 5 + 2 + 4 + 4) 1, e, List.append_nil]
theorem VFrom.lt {l : List View} {ao : Option Addr} (h : VFrom W ao l) : ∀ b o, ao = some ⟨b, o, none⟩ → 0 < l.length → b < W.heap.size := fun b o e h0 => by
  obtain ⟨vb, vo, e2, hc⟩ := h 0 l[0] (List.getElem?_eq_getElem h0)
  rw [e] at e2
  cases e2
  exact World.block_lt_of_cell? W (a := ⟨b, o + 0 * 7 + 0, none⟩) (hc 0 _ rfl)
theorem From.lt0 {l : List UInt8} {ao : Option Addr} (h : From W ao l) : ∀ b o, ao = some ⟨b, o, none⟩ → 0 < l.length → b < W.heap.size := fun b o e h0 => by
  obtain ⟨vb, vo, e2, hc⟩ := h h0
  rw [e] at e2
  cases e2
  exact World.block_lt_of_cell? W (a := ⟨b, o + 0, none⟩) (hc 0 l[0] (List.getElem?_eq_getElem h0))
theorem t_act (h : DataW.trod enc Try.prog W 0 (fun _ => true) true fuel 114 cs = some x) (hw : ∀ n ∈ x.1.weights Try.prog 114, n ≤ reachBytes) : ∃ v : Sh.AV, cs = v.cells ∧ Sh.AOk W v := by
  obtain ⟨xs, mm, _, hx, hl, hxl, hf⟩ := DataW.trod_struct Try.underlying114 h
  have hxl' : xs.length = 7 := hxl
  rw [cells114] at hl
  have y0 : xs[0]? = some xs[0] := List.getElem?_eq_getElem (by omega)
  have h0 : DataW.trod enc Try.prog W 0 (fun _ => true) true mm 3 ((cs.drop 0).take 1) = some xs[0] := by
    have e : DataW.trod enc Try.prog W 0 (fun _ => true) true mm 3 (List.take (Try.prog.cellsOf 3) (List.drop 0 cs)) = xs[0]? := hf 0 _ rfl
    rw [cells3, y0] at e
    exact e
  have y1 : xs[1]? = some xs[1] := List.getElem?_eq_getElem (by omega)
  have h1 : DataW.trod enc Try.prog W 0 (fun _ => true) true mm 35 ((cs.drop 1).take 20) = some xs[1] := by
    have e : DataW.trod enc Try.prog W 0 (fun _ => true) true mm 35 (List.take (Try.prog.cellsOf 35) (List.drop 1 cs)) = xs[1]? := hf 1 _ rfl
    rw [cells35, y1] at e
    exact e
  have y2 : xs[2]? = some xs[2] := List.getElem?_eq_getElem (by omega)
  have h2 : DataW.trod enc Try.prog W 0 (fun _ => true) true mm 46 ((cs.drop 21).take 5) = some xs[2] := by
    have e : DataW.trod enc Try.prog W 0 (fun _ => true) true mm 46 (List.take (Try.prog.cellsOf 46) (List.drop 21 cs)) = xs[2]? := hf 2 _ rfl
    rw [cells46, y2] at e
    exact e
  have y3 : xs[3]? = some xs[3] := List.getElem?_eq_getElem (by omega)
  have h3 : DataW.trod enc Try.prog W 0 (fun _ => true) true mm 29 ((cs.drop 26).take 2) = some xs[3] := by
    have e : DataW.trod enc Try.prog W 0 (fun _ => true) true mm 29 (List.take (Try.prog.cellsOf 29) (List.drop 26 cs)) = xs[3]? := hf 3 _ rfl
    rw [cells29, y3] at e
    exact e
  have y4 : xs[4]? = some xs[4] := List.getElem?_eq_getElem (by omega)
  have h4 : DataW.trod enc Try.prog W 0 (fun _ => true) true mm 31 ((cs.drop 28).take 4) = some xs[4] := by
    have e : DataW.trod enc Try.prog W 0 (fun _ => true) true mm 31 (List.take (Try.prog.cellsOf 31) (List.drop 28 cs)) = xs[4]? := hf 4 _ rfl
    rw [cells31, y4] at e
    exact e
  have y5 : xs[5]? = some xs[5] := List.getElem?_eq_getElem (by omega)
  have h5 : DataW.trod enc Try.prog W 0 (fun _ => true) true mm 55 ((cs.drop 32).take 4) = some xs[5] := by
    have e : DataW.trod enc Try.prog W 0 (fun _ => true) true mm 55 (List.take (Try.prog.cellsOf 55) (List.drop 32 cs)) = xs[5]? := hf 5 _ rfl
    rw [cells55, y5] at e
    exact e
  have y6 : xs[6]? = some xs[6] := List.getElem?_eq_getElem (by omega)
  have h6 : DataW.trod enc Try.prog W 0 (fun _ => true) true mm 22 ((cs.drop 36).take 1) = some xs[6] := by
    have e : DataW.trod enc Try.prog W 0 (fun _ => true) true mm 22 (List.take (Try.prog.cellsOf 22) (List.drop 36 cs)) = xs[6]? := hf 6 _ rfl
    rw [cells22, y6] at e
    exact e
  obtain ⟨z0, e0, _⟩ := t_int Try.underlying3 h0
  obtain ⟨m, ao, cv, e1, m1, m2, m3, m4, m5, m6, m7⟩ := t_msg h1 (w_part Try.underlying114 hx hw (i := 1) rfl y1)
  obtain ⟨s, so, sc, e2, s1, s2, s3⟩ := t_seg h2 (w_part Try.underlying114 hx hw (i := 2) rfl y2)
  obtain ⟨qa, qb, e3, _⟩ := t_two Try.underlying29 cells29 rfl rfl rfl rfl h3
  obtain ⟨ok, os, oa, ob, e4, o1, o2, o3⟩ := t_op h4 (w_part Try.underlying114 hx hw (i := 4) rfl y4)
  obtain ⟨ra, rb, re, rv, e5, r1⟩ := t_rep h5
  obtain ⟨bo, bc, ps, e6, _⟩ := t_bytes h6 (w_part Try.underlying114 hx hw (i := 6) rfl y6)
  refine ⟨⟨z0, m, ao, cv, s, so, sc, (qa, qb), (ok, os, oa, ob), ((ra, rb), re, rv), .slice bo ps.length bc⟩, ?_, ⟨by show m.name.length ≤ _; omega, by show m.oname.length ≤ _; omega, m1, m1.lt, fun v hv => by have := m6 v hv; omega, m4.1, m4.2, m5.1, m5.2, s1, s2, s2.lt0, by show os.length ≤ _; omega, o2.1, o2.2, o3.1, o3.2, r1.1, r1.2, rfl⟩⟩
  rw [parts7 hl, e0, e1, e2, e3, e4, e5, e6]
  simp only [Sh.AV.cells, Sh.AV.D, Sh.AV.E, List.append_assoc]
  rfl
theorem t_acts (h : DataW.trod enc Try.prog W 0 (fun _ => true) true fuel 64 cs = some x) (hw : ∀ n ∈ x.1.weights Try.prog 64, n ≤ reachBytes) :
    ∃ (ao : Option Addr) (cv : Nat) (xs : List Sh.AV), cs = [.slice ao xs.length cv] ∧ xs.length ≤ maxLen ∧ ∀ (i : Nat) (x : Sh.AV), xs[i]? = some x → Sh.AOk W x ∧ ∃ b o, ao = some ⟨b, o, none⟩ ∧ b < W.heap.size ∧ W.rangeAt b (o + i * 37) x.cells := by
  rcases DataW.trod_slice Try.underlying64 h with ⟨hcs, _⟩ | ⟨a, len, cap, elems, rest, mm, _, hcs, hx, _, hl, hm, hel, he, _, _⟩
  · exact ⟨none, 0, [], hcs, Nat.zero_le _, fun i x h => by simp at h⟩
  · rw [cells114] at he
    have hxd : x.1 = .slice (elems.map (·.1)) (rest.map (·.1)) := by rw [hx]
    obtain ⟨vs, hvl, hv⟩ := list_of (fun i (v : Sh.AV) => (∀ j c, v.cells[j]? = some c → W.cell? ((a.add (i * 37)).add j) = some c) ∧ Sh.AOk W v) len fun i hi => by
      have h1 := he i hi
      rw [List.getElem?_eq_getElem (by omega), Option.bind_eq_some_iff] at h1
      obtain ⟨cs', hcs', ht⟩ := h1
      obtain ⟨_, hl', hcell⟩ := World.cells?_some hcs'
      obtain ⟨v, rfl, hv⟩ := t_act ht fun n hn => hw n (by
        rw [hxd]
        simp only [DataW.weights, Try.underlying64]
        refine List.mem_cons.2 (.inr (List.mem_append.2 (.inl ?_)))
        exact w_all (i := i) (d := elems[i].1) (by rw [List.getElem?_map, List.getElem?_eq_getElem (by omega)]; rfl) n hn)
      refine ⟨v, fun j c hc => ?_, hv⟩
      have hj : j < 37 := by have := (List.getElem?_eq_some_iff.1 hc).1; rwa [Sh.AV.len] at this
      rw [hcell j hj, hc]
    refine ⟨some a, cap, vs, by rw [hvl]; exact hcs, by omega, fun i v hi => ⟨(hv i v hi).2, ?_⟩⟩
    have hp0 : 0 < vs.length := by have := (List.getElem?_eq_some_iff.1 hi).1; omega
    have h00 := (hv 0 vs[0] (List.getElem?_eq_getElem hp0)).1 0 (.int .i64 vs[0].kind) rfl
    have hs : a.spot = none := by
      have := spot_none h00
      simpa [Addr.add] using this
    have hcell : ∀ j c, v.cells[j]? = some c → W.cell? ⟨a.block, a.off + i * 37 + j, none⟩ = some c := fun j c hc => by
      have := (hv i v hi).1 j c hc
      rwa [add_none hs, add_none rfl] at this
    refine ⟨a.block, a.off, by obtain ⟨b, o, s⟩ := a; simp only at hs; subst hs; rfl, ?_, hcell⟩
    exact World.block_lt_of_cell? W (a := ⟨a.block, a.off + i * 37 + 0, none⟩) (hcell 0 (.int .i64 v.kind) rfl)
end
set_option maxRecDepth 100000 in
theorem open_acts {H : Type} {enc : TypeId × Value → H} {W : World} {base : Nat} {v : Value} {d : DataW H} {p : List MemPlace} (hval : Value.okWide Try.prog W .any base 64 v) (h0 : DataW.Trod enc Try.prog W 0 (fun _ => true) true 64 v d p) (hw : ∀ n ∈ d.weights Try.prog 64, n ≤ reachBytes) :
    ∃ (ao : Option Addr) (cv : Nat) (xs : List Sh.AV), v = .slice ao xs.length cv ∧ xs.length ≤ maxLen ∧ ∀ (i : Nat) (x : Sh.AV), xs[i]? = some x → Sh.AOk W x ∧ ∃ b o, ao = some ⟨b, o, none⟩ ∧ b < W.heap.size ∧ W.rangeAt b (o + i * 37) x.cells := by
  obtain ⟨a0, len, cap, rfl⟩ := okWide_slice Try.underlying64 hval
  obtain ⟨fuel, hf⟩ := h0
  obtain ⟨ao, cv, xs, e, h1, h2⟩ := t_acts hf hw
  exact ⟨ao, cv, xs, by simpa [Value.cells] using e, h1, h2⟩
end Go.Proofs.Ytfgnlfemckdfnaa
namespace Go.Proofs.Ytfgnlfemckdfnaa.Sh
open Go.RowKit Go.PlainAid
set_option linter.unusedVariables false
set_option linter.unusedSimpArgs false
@[reducible] def LS0 : LS := ⟨.slice none 0 0, .slice none 0 0, .slice none 0 0, .slice none 0 0, [], []⟩
theorem KL.new {L kb : Nat} {w : World} (h : Blk w kb #[.bool true, .slice none 0 0, .slice none 0 0, .slice none 0 0, .slice none 0 0, .slice none 0 0, .slice none 0 0] 71) (hL : L ≤ kb) : KL L kb LS0 w :=
  ⟨h, ⟨World.ownsRow_nil _ _ _ _, World.ownsRow_nil _ _ _ _, (fun e he => by cases he), (fun e he => by cases he), (fun e he => by cases he), (fun e he => by cases he), (fun g e => by cases e), List.Pairwise.nil⟩, ⟨World.ownsRow_nil _ _ _ _, World.ownsRow_nil _ _ _ _, (fun e he => by cases he), (fun e he => by cases he), (fun e he => by cases he), (fun e he => by cases he), (fun g e => by cases e), List.Pairwise.nil⟩, hL⟩
set_option maxRecDepth 100000 in
set_option maxHeartbeats 3200000 in
theorem kept_law (lo : Option Addr) (n lc : Nat) (xs : List AV) (w : World) (hn : xs.length = n) (hnm : n ≤ maxLen)
    (hxs : ∀ (i : Nat) (x : AV), xs[i]? = some x → AOk w x ∧ ∃ b o, lo = some ⟨b, o, none⟩ ∧ b < w.heap.size ∧ w.rangeAt b (o + i * 37) x.cells) :
    Calls Try.prog 8 #[.slice lo n lc] w fun e w' => e = .returned (.bool true) ∧ Below w.heap.size w w' := by
  have hable := able_any w
  have HX : Hid _ := And.intro hn (And.intro hnm hxs)
  clear hn hnm hxs
  go_enter Try.func8, Try.ntmps8
  go_wp2_with fail
  refine hable.mono ?_
  rintro e1 w1 ⟨rfl, hb1⟩
  have hk1 := kept_any (w := w) (w0 := w1.alloc (.cells #[.bool false, .slice none 0 0, .slice none 0 0, .slice none 0 0, .slice none 0 0, .slice none 0 0, .slice none 0 0] 71)) (early w.heap.size w1.heap.size) ES0 lo n lc xs (KE.new (heap_alloc_new w1 _) hb1.size) rfl (hb1.alloc hb1.size _) HX.out.1 HX.out.2.1 HX.out.2.2
  clear hable
  have HB1 : Hid _ := hb1
  clear hb1
  go_wp2_with fail
  refine hk1.mono ?_
  rintro e2 w2 ⟨rfl, hb2⟩
  have hk2 := kept_any (w := w) (w0 := w2.alloc (.cells #[.bool true, .slice none 0 0, .slice none 0 0, .slice none 0 0, .slice none 0 0, .slice none 0 0, .slice none 0 0] 71)) (late w.heap.size w2.heap.size) LS0 lo n lc xs (KL.new (heap_alloc_new w2 _) hb2.size) rfl (hb2.alloc hb2.size _) HX.out.1 HX.out.2.1 HX.out.2.2
  clear hk1 hb2
  go_wp2_with fail
  refine hk2.mono ?_
  rintro e3 w3 ⟨rfl, hb3⟩
  have HB3 : Hid _ := hb3
  clear hk2 hb3
  go_wp2_with fail
  go_ret
  exact ⟨rfl, HB3.out⟩
end Go.Proofs.Ytfgnlfemckdfnaa.Sh
namespace Go.Proofs.Ytfgnlfemckdfnaa.wireKept
open Go.ChangeShapes Go.WideShapes Go.ChangeAt Go.RowKit Go.WideMaps Go.WideElems
set_option maxRecDepth 100000 in
set_option maxHeartbeats 1600000 in
theorem contract (H : Type) (enc : TypeId × Value → H) (W : World) (base : Nat) (args : Array Value) (ds gs : List (DataW H)) (before : List MemPlace)
    (hval : ∀ (j : Nat) t v, Try.f8.params[j]? = some t → args[j]? = some v → Value.okWide Try.prog W .any base t v)
    (hW : DataW.Whole enc Try.prog Try.f8.params.toList Rows.wireKeptSpec.vars false W args.toList ds gs before)
    (hsz : (DataW.weightsEach Try.prog (Try.f8.params.toList ++ Rows.wireKeptSpec.plain.varTypes Try.prog) (ds ++ gs)).all (· ≤ reachBytes) = true) :
    Calls Try.prog 8 args W fun e W' => ∃ v, e = .returned v ∧ Rows.wireKeptSpec.post enc Try.prog Try.f8 false true false false W args v W' := by
  have hW' := hW
  obtain ⟨p, q, hA0, hV, rfl, hfz, hnd⟩ := hW
  have hA : DataW.TrodAll enc Try.prog W 0 (fun _ => true) true Try.f8.params.toList args.toList ds p := hA0
  rw [Try.params8] at hA hval
  obtain ⟨v0, vs0, d0, ds0, p0, q0, hargs, rfl, rfl, h0, r0⟩ := trodAll_cons hA
  obtain ⟨rfl, rfl, rfl⟩ := trodAll_nil r0
  obtain rfl : args = #[v0] := by cases args; simp_all
  obtain ⟨rfl, rfl⟩ := trodVars_none hV
  clear hA0 r0 hA
  have hlt0 : ∀ x ∈ p0, x.block < W.heap.size := fun x hx => hW'.lt x (by simp [hx])
  have hw0 : ∀ n ∈ d0.weights Try.prog 64, n ≤ reachBytes := fun n hn => by
    have := List.all_eq_true.1 hsz n (DataW.weights_mem_each (j := 0) (t := 64) (d := d0) (by rw [Try.params8]; rfl) rfl n hn)
    simpa using this
  obtain ⟨ao, cv, xs, rfl, hn, hx⟩ := open_acts (hval 0 64 v0 rfl rfl) h0 hw0
  refine (Sh.kept_law ao xs.length cv xs W rfl hn hx).mono fun e W' ⟨he, hbl⟩ => ?_
  subst he
  exact ⟨_, rfl, _, _, _, [], _, [], hW', trodAll_cons_mk (shut_bool Try.underlying4 _) trodAll_mk0, trodAll_cons_mk (Below.trod laidOut (by kernel_rfl) (of_decide_eq_true (by kernel_rfl)) h0 hbl hlt0) trodAll_mk0, rfl, hbl.frame _, fun h => by cases h⟩
set_option maxRecDepth 100000 in
theorem lifted (os : Os) (started : os.Started) (H : Type) (enc : TypeId × Value → H) :
    ReturnsInHanded {} Try.checked os 8 .any (Rows.wireKeptSpec.pre6 enc Try.prog Try.f8 Rows.wireKeptRow.domain false) (Rows.wireKeptSpec.post enc Try.prog Try.f8 false true false false) := by
  refine returnsInHanded_of_change_sized (C := Try.checked) (s := Rows.wireKeptSpec) own started (by kernel_rfl) Try.func8
    (ChangeSpec.witness6 (enc := enc) (C := Try.checked) (s := Rows.wireKeptSpec) false ⟨#[], #[.slice none 0 0], []⟩ 8 (by kernel_rfl) (by kernel_rfl) (by kernel_rfl) (by kernel_rfl)) ?_
  intro W base args ds gs before hval hW _ hsz _
  exact contract H enc W base args ds gs before hval hW hsz
theorem said : Rows.WireKeptSaid :=
  OpenClaim.holds_of_wide 8 Try.f8 rfl rfl rfl rfl rfl rfl rfl ⟨rfl, rfl, rfl, rfl, rfl⟩ rfl rfl rfl rfl rfl (by kernel_rfl) Try.func8 (by kernel_rfl)
    (of_decide_eq_true (by kernel_rfl)) (by unfold Func.isWrapper; first | (rw [if_pos (by decide +kernel)]; kernel_rfl) | (rw [if_neg (by decide +kernel)]; exact ⟨rfl, rfl⟩))
    (fun os started H enc _ => lifted os started H enc)
end Go.Proofs.Ytfgnlfemckdfnaa.wireKept
namespace Go.Proofs.Ytfgnlfemckdfnaa
theorem wireKept_said : Rows.WireKeptSaid := wireKept.said
end Go.Proofs.Ytfgnlfemckdfnaa
