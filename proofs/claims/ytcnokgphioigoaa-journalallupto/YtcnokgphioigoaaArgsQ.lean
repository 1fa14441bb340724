import Derived.Test.YtcnokgphioigoaaArgs
import Derived.Test.YtcnokgphioigoaaJq20
namespace Go.Proofs.Ytcnokgphioigoaa
open Go.ChangeShapes Go.WideShapes Go.ChangeAt Go.RowKit Go.WideMaps Go.WideElems Go.PlainAid
set_option linter.unusedVariables false
theorem cells91 : Try.prog.cellsOf 91 = 4 := by kernel_rfl
theorem one_bulk {H : Type} (d : DataW H) : 1 ≤ Rows.uptoBulk d := by
  cases d with
  | lit l => cases l <;> simp [Rows.uptoBulk]
  | nil => simp [Rows.uptoBulk]
  | ptr d => simp [Rows.uptoBulk]
  | slice elems spare => simp [Rows.uptoBulk]
  | agg parts => simp [Rows.uptoBulk]
  | iface t d => simp [Rows.uptoBulk]
  | map entries => simp [Rows.uptoBulk]
  | held h => simp [Rows.uptoBulk]
theorem length_bulk {H : Type} (l : List (DataW H)) : l.length ≤ Rows.uptoBulkAll l := by
  induction l with
  | nil => simp [Rows.uptoBulkAll]
  | cons x r ih => have := one_bulk x; simp only [Rows.uptoBulkAll, List.length_cons]; omega
theorem part_bulk {H : Type} : ∀ {l : List (DataW H)} {i : Nat} {d : DataW H}, l[i]? = some d → Rows.uptoBulk d ≤ Rows.uptoBulkAll l
  | d0 :: r, 0, d, h => by
    simp only [List.getElem?_cons_zero, Option.some.injEq] at h
    subst h
    simp only [Rows.uptoBulkAll]
    omega
  | d0 :: r, i + 1, d, h => by
    simp only [List.getElem?_cons_succ] at h
    have := part_bulk h
    simp only [Rows.uptoBulkAll]
    omega
  | [], _, _, h => by simp at h
section
variable {H : Type} {enc : TypeId × Value → H} {W : World} {fuel : Nat} {cs : List Value} {x : DataW H × List MemPlace}
set_option maxRecDepth 100000
set_option maxHeartbeats 1600000
/-- Bytes that came in, few enough. -/
theorem t_bytesK (h : DataW.trod enc Try.prog W 0 (fun _ => true) true fuel 38 cs = some x) (hk : Rows.uptoBulk x.1 ≤ 1048576) : ∃ (ao : Option Addr) (n c : Nat) (s : List UInt8), cs = [.slice ao n c] ∧ s.length = n ∧ n ≤ 1048576 ∧ By W (.slice ao n c) s := by
  rcases open_ints Try.underlying38 Try.underlying5 cells5 h with ⟨hcs, hx⟩ | ⟨a, len, cap, zs, hcs, _, hl, hm, hz, hx, hcell, hwz⟩
  · exact ⟨none, 0, 0, [], hcs, rfl, Nat.zero_le _, ⟨none, 0, 0, rfl, rfl, fun _ => ⟨rfl, rfl⟩, fun ad e => by cases e⟩⟩
  · simp only [if_true] at hz
    have hlen : ((zs.take len).map (fun z => UInt8.ofNat z.toNat)).length = len := by simp; omega
    have hsize : len ≤ 1048576 := by
      rw [hx] at hk
      simp only [Rows.uptoBulk] at hk
      have h1 := length_bulk (H := H) (lits .u8 (zs.take len))
      have h2 : (lits (H := H) .u8 (zs.take len)).length = len := by simp [lits]; omega
      omega
    refine ⟨some a, len, cap, (zs.take len).map (fun z => UInt8.ofNat z.toNat), hcs, hlen, hsize, ⟨some a, len, cap, rfl, hlen, (fun e => by cases e), fun ad e j u hu => ?_⟩⟩
    cases e
    rw [List.map_map, List.getElem?_map, List.getElem?_take] at hu
    split at hu
    · have hjz : j < zs.length := by omega
      rw [List.getElem?_eq_getElem hjz] at hu
      cases hu
      have hb := bounds_u8 (hwz zs[j] (List.getElem_mem hjz))
      have e2 : zs.getD j 0 = zs[j] := by rw [List.getD_eq_getElem?_getD, List.getElem?_eq_getElem hjz]; rfl
      rw [hcell j hjz, e2]
      simp only [Function.comp, B]
      congr 2
      simp
      omega
    · cases hu
/-- A call that came in. -/
theorem t_act (h : DataW.trod enc Try.prog W 0 (fun _ => true) true fuel 91 cs = some x) (hk : Rows.uptoBulk x.1 ≤ 1048576) : ∃ c : Ak, cs = c.row.toList ∧ c.Ok W := by
  obtain ⟨xs, mm, _, hx, hl, hxl, hf⟩ := DataW.trod_struct Try.underlying91 h
  have hxl' : xs.length = 4 := hxl
  rw [cells91] at hl
  obtain ⟨c0, l1, rfl, k1⟩ := uncons hl
  obtain ⟨c1, l2, rfl, k2⟩ := uncons k1
  obtain ⟨c2, l3, rfl, k3⟩ := uncons k2
  obtain ⟨c3, l4, rfl, k4⟩ := uncons k3
  obtain rfl := List.eq_nil_of_length_eq_zero k4
  have y0 : xs[0]? = some xs[0] := List.getElem?_eq_getElem (by omega)
  have f0 : DataW.trod enc Try.prog W 0 (fun _ => true) true mm 3 [c0] = some xs[0] := by
    have e : DataW.trod enc Try.prog W 0 (fun _ => true) true mm 3 (List.take (Try.prog.cellsOf 3) (List.drop 0 [c0, c1, c2, c3])) = xs[0]? := hf 0 _ rfl
    rw [cells3', y0] at e
    exact e
  have y1 : xs[1]? = some xs[1] := List.getElem?_eq_getElem (by omega)
  have f1 : DataW.trod enc Try.prog W 0 (fun _ => true) true mm 3 [c1] = some xs[1] := by
    have e : DataW.trod enc Try.prog W 0 (fun _ => true) true mm 3 (List.take (Try.prog.cellsOf 3) (List.drop 1 [c0, c1, c2, c3])) = xs[1]? := hf 1 _ rfl
    rw [cells3', y1] at e
    exact e
  have y2 : xs[2]? = some xs[2] := List.getElem?_eq_getElem (by omega)
  have f2 : DataW.trod enc Try.prog W 0 (fun _ => true) true mm 3 [c2] = some xs[2] := by
    have e : DataW.trod enc Try.prog W 0 (fun _ => true) true mm 3 (List.take (Try.prog.cellsOf 3) (List.drop 2 [c0, c1, c2, c3])) = xs[2]? := hf 2 _ rfl
    rw [cells3', y2] at e
    exact e
  have y3 : xs[3]? = some xs[3] := List.getElem?_eq_getElem (by omega)
  have f3 : DataW.trod enc Try.prog W 0 (fun _ => true) true mm 38 [c3] = some xs[3] := by
    have e : DataW.trod enc Try.prog W 0 (fun _ => true) true mm 38 (List.take (Try.prog.cellsOf 38) (List.drop 3 [c0, c1, c2, c3])) = xs[3]? := hf 3 _ rfl
    rw [cells30, y3] at e
    exact e
  have hb3 : Rows.uptoBulk xs[3].1 ≤ 1048576 := by
    rw [hx] at hk
    simp only [Rows.uptoBulk] at hk
    have := part_bulk (l := xs.map (·.1)) (i := 3) (d := xs[3].1) (by rw [List.getElem?_map, y3]; rfl)
    omega
  obtain ⟨z0, e0, h0⟩ := t_int Try.underlying3 f0
  obtain ⟨z1, e1, h1⟩ := t_int Try.underlying3 f1
  obtain ⟨z2, e2, h2⟩ := t_int Try.underlying3 f2
  obtain ⟨ao, n, c, s, e3, hs, hn, hby⟩ := t_bytesK f3 hb3
  cases e0; cases e1; cases e2; cases e3
  exact ⟨⟨z0, z1, z2, ao, n, c, s⟩, rfl, ⟨h1.2, h2.1, h2.2, hs, hn, hby⟩⟩
theorem add_none' {a : Addr} (hs : a.spot = none) (k : Nat) : a.add k = ⟨a.block, a.off + k, none⟩ := by
  unfold Addr.add
  split
  · rename_i e; subst e; obtain ⟨b, o, s⟩ := a; simp only at hs; subst hs; rfl
  · rfl
/-- The calls that came in. -/
theorem t_acts (h : DataW.trod enc Try.prog W 0 (fun _ => true) true fuel 67 cs = some x) (hk : Rows.uptoBulk x.1 ≤ 1048576) :
    ∃ (ao : Option Addr) (cv : Nat) (xs : List Ak), cs = [.slice ao xs.length cv] ∧ ActIn W ao xs ∧ (∀ c ∈ xs, c.Ok W) ∧ xs.length ≤ 1048576 := by
  rcases DataW.trod_slice Try.underlying67 h with ⟨hcs, _⟩ | ⟨a, len, cap, elems, rest, mm, _, hcs, hx, _, hl, hm, hel, he, _, _⟩
  · exact ⟨none, 0, [], hcs, (fun i x h => by simp at h), (fun c hc => by cases hc), by simp⟩
  · rw [cells91] at he
    have hbk : Rows.uptoBulkAll (elems.map (·.1)) ≤ 1048576 := by
      rw [hx] at hk
      simp only [Rows.uptoBulk] at hk
      omega
    have hlb := length_bulk (elems.map (·.1))
    rw [List.length_map] at hlb
    obtain ⟨vs, hvl, hv⟩ := list_of (fun i (v : Ak) => (∀ j c, v.row[j]? = some c → W.cell? ((a.add (i * 4)).add j) = some c) ∧ v.Ok W) len fun i hi => by
      have h1 := he i hi
      rw [List.getElem?_eq_getElem (by omega), Option.bind_eq_some_iff] at h1
      obtain ⟨cs', hcs', ht⟩ := h1
      obtain ⟨_, hl', hcell⟩ := World.cells?_some hcs'
      obtain ⟨v, rfl, hvo⟩ := t_act ht (by
        have := part_bulk (l := elems.map (·.1)) (i := i) (d := elems[i].1) (by rw [List.getElem?_map, List.getElem?_eq_getElem (by omega)]; rfl)
        omega)
      refine ⟨v, fun j c hc => ?_, hvo⟩
      have hj : j < 4 := by have := (Array.getElem?_eq_some_iff.1 hc).1; simpa [Ak.row] using this
      rw [hcell j hj, ← hc, ← Array.getElem?_toList]
    refine ⟨some a, cap, vs, by rw [hvl]; exact hcs, fun i v hi => ?_, fun c hc => ?_, by omega⟩
    · have hp0 : 0 < vs.length := by have := (List.getElem?_eq_some_iff.1 hi).1; omega
      have h00 := (hv 0 vs[0] (List.getElem?_eq_getElem hp0)).1 0 _ rfl
      have hs : a.spot = none := by
        obtain ⟨b9, o9, e9⟩ := spot_none h00
        have e8 : (a.add (0 * 4)).add 0 = a := by simp [Addr.add]
        rw [e8] at e9
        rw [e9]
      have hcell : ∀ j c, v.row[j]? = some c → W.cell? ⟨a.block, a.off + i * 4 + j, none⟩ = some c := fun j c hc => by
        have := (hv i v hi).1 j c hc
        rwa [add_none' hs, add_none' rfl] at this
      refine ⟨a.block, a.off, by obtain ⟨b, o, s⟩ := a; simp only at hs; subst hs; rfl, ?_, hcell⟩
      exact World.block_lt_of_cell? W (a := ⟨a.block, a.off + i * 4 + 0, none⟩) (hcell 0 _ rfl)
    · obtain ⟨i, hi⟩ := List.getElem?_of_mem hc
      exact (hv i c hi).2
end
set_option maxRecDepth 100000 in
/-- A []Act that came in. -/
theorem open_acts {H : Type} {enc : TypeId × Value → H} {W : World} {base : Nat} {v : Value} {d : DataW H} {p : List MemPlace} (hval : Value.okWide Try.prog W .any base 67 v) (h0 : DataW.Trod enc Try.prog W 0 (fun _ => true) true 67 v d p) (hk : Rows.uptoBulk d ≤ 1048576) :
    ∃ (ao : Option Addr) (cv : Nat) (xs : List Ak), v = .slice ao xs.length cv ∧ ActIn W ao xs ∧ (∀ c ∈ xs, c.Ok W) ∧ xs.length ≤ 1048576 := by
  obtain ⟨a0, len, cap, rfl⟩ := okWide_slice Try.underlying67 hval
  obtain ⟨fuel, hf⟩ := h0
  obtain ⟨ao, cv, xs, e, h1, h2, h3⟩ := t_acts hf hk
  exact ⟨ao, cv, xs, by simpa [Value.cells] using e, h1, h2, h3⟩
set_option maxRecDepth 100000 in
theorem open_bytesK {H : Type} {enc : TypeId × Value → H} {W : World} {base : Nat} {v : Value} {d : DataW H} {p : List MemPlace} (hval : Value.okWide Try.prog W .any base 38 v) (h0 : DataW.Trod enc Try.prog W 0 (fun _ => true) true 38 v d p) (hk : Rows.uptoBulk d ≤ 1048576) :
    ∃ (ao : Option Addr) (n c : Nat) (s : List UInt8), v = .slice ao n c ∧ By W (.slice ao n c) s := by
  obtain ⟨a0, len, cap, rfl⟩ := okWide_slice Try.underlying38 hval
  obtain ⟨fuel, hf⟩ := h0
  obtain ⟨ao, n, c, s, e, h1, h2, h3⟩ := t_bytesK hf hk
  exact ⟨ao, n, c, s, by simpa [Value.cells] using e, h3⟩
end Go.Proofs.Ytcnokgphioigoaa
