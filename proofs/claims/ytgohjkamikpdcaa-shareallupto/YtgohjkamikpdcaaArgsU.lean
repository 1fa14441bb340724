import Derived.Test.YtgohjkamikpdcaaArgs
import Derived.Test.YtgohjkamikpdcaaPlA
namespace Go.Proofs.Ytgohjkamikpdcaa
open Go.ChangeShapes Go.WideShapes Go.ChangeAt Go.RowKit Go.WideMaps Go.WideElems
set_option linter.unusedVariables false
theorem cells22 : Try.prog.cellsOf 22 = 1 := by kernel_rfl
theorem cells47 : Try.prog.cellsOf 47 = 4 := by kernel_rfl
theorem uncons {α : Type} {l : List α} {n : Nat} (h : l.length = n + 1) : ∃ a t, l = a :: t ∧ t.length = n := by
  cases l with
  | nil => simp at h
  | cons a t => exact ⟨a, t, rfl, by simpa using h⟩
theorem list_of {α : Type} (P : Nat → α → Prop) : ∀ n, (∀ i, i < n → ∃ c, P i c) → ∃ cs : List α, cs.length = n ∧ ∀ i c, cs[i]? = some c → P i c
  | 0, _ => ⟨[], rfl, fun i c h => by simp at h⟩
  | n + 1, h => by
    obtain ⟨cs, hl, hc⟩ := list_of P n fun i hi => h i (by omega)
    obtain ⟨c, hP⟩ := h n (by omega)
    refine ⟨cs ++ [c], by simp [hl], fun i c' hi => ?_⟩
    by_cases hin : i < n
    · rw [List.getElem?_append_left (by omega)] at hi
      exact hc i c' hi
    · rw [List.getElem?_append_right (by omega)] at hi
      by_cases e0 : i - cs.length = 0
      · rw [e0] at hi
        cases hi
        rw [show i = n from by omega]
        exact hP
      · rw [List.getElem?_eq_none (by simp; omega)] at hi; cases hi
theorem one_bulk {H : Type} (d : DataW H) : 1 ≤ Rows.uptoBulk d := by
  cases d with
  | lit l => cases l <;> simp [Rows.uptoBulk]
  | nil => simp [Rows.uptoBulk]
  | ptr d => simp [Rows.uptoBulk]
  | slice elems spare => simp [Rows.uptoBulk]
  | agg parts => simp [Rows.uptoBulk]
  | iface t d => simp [Rows.uptoBulk]
  | map entries => simp [Rows.uptoBulk]
  | held h => simp [Rows.uptoBulk]
theorem part_bulk {H : Type} {d : DataW H} {l : List (DataW H)} (h : d ∈ l) : Rows.uptoBulk d ≤ Rows.uptoBulkAll l := by
  induction l with
  | nil => cases h
  | cons x r ih =>
    simp only [Rows.uptoBulkAll]
    cases List.mem_cons.1 h with
    | inl e => subst e; omega
    | inr e => have := ih e; omega
theorem length_bulk {H : Type} (l : List (DataW H)) : l.length ≤ Rows.uptoBulkAll l := by
  induction l with
  | nil => simp [Rows.uptoBulkAll]
  | cons x r ih => have := one_bulk x; simp only [Rows.uptoBulkAll, List.length_cons]; omega
section
variable {H : Type} {enc : TypeId × Value → H} {W : World} {fuel : Nat} {cs : List Value} {x : DataW H × List MemPlace}
set_option maxRecDepth 100000
set_option maxHeartbeats 1600000
theorem spot_none {a : Addr} {v : Value} (h : W.cell? a = some v) : a.spot = none := by
  cases hs : a.spot with
  | none => rfl
  | some k =>
    rw [World.cell?] at h
    split at h
    · rw [hs] at h; simp at h
    · cases h
theorem add_none {a : Addr} (hs : a.spot = none) (k : Nat) : a.add k = ⟨a.block, a.off + k, none⟩ := by
  unfold Addr.add
  split
  · rename_i e; subst e; obtain ⟨b, o, s⟩ := a; simp only at hs; subst hs; rfl
  · rfl
theorem t_int {t : TypeId} (hu : Try.prog.underlying t = some (.int .i64)) (h : DataW.trod enc Try.prog W 0 (fun _ => true) true fuel t cs = some x) : ∃ z, cs = [.int .i64 z] ∧ IntKind.i64.wrap z = z := by
  obtain ⟨z, e, _, hw⟩ := DataW.trod_int hu h
  exact ⟨z, e, wrap_of hw⟩
theorem t_nums (h : DataW.trod enc Try.prog W 0 (fun _ => true) true fuel 22 cs = some x) :
    ∃ (lo : Option Addr) (n c : Nat) (zs : List Int), cs = [.slice lo n c] ∧ zs.length = n ∧ (lo = none → n = 0 ∧ c = 0) ∧ FromI W lo zs ∧ n ≤ Rows.uptoBulk x.1 := by
  rcases open_ints Try.underlying22 Try.underlying3 cells3 h with ⟨hcs, hx⟩ | ⟨a, len, cap, zs, hcs, _, hl, hm, hz, hx, hcell, hwz⟩
  · exact ⟨none, 0, 0, [], hcs, rfl, fun _ => ⟨rfl, rfl⟩, fun h => by simp at h, Nat.zero_le _⟩
  · simp only [if_true] at hz
    have hlen : (zs.take len).length = len := by simp; omega
    refine ⟨some a, len, cap, zs.take len, hcs, hlen, (fun h => by cases h), fun h => ?_, ?_⟩
    · have h0 := hcell 0 (by omega)
      have hsp : a.spot = none := spot_none (W := W) (a := a) h0
      refine ⟨a.block, a.off, by rw [← hsp], fun j u hu => ?_⟩
      rw [List.getElem?_take] at hu
      split at hu
      · have hjz : j < zs.length := by omega
        rw [List.getElem?_eq_getElem hjz] at hu
        have e2 : zs.getD j 0 = zs[j] := by rw [List.getD_eq_getElem?_getD, List.getElem?_eq_getElem hjz]; rfl
        have := hcell j hjz
        rw [add_none hsp, e2] at this
        rw [this]
        cases hu
        rfl
      · cases hu
    · rw [hx]
      simp only [Rows.uptoBulk]
      have h1 := length_bulk (H := H) (lits .i64 (zs.take len))
      have h2 : (lits (H := H) .i64 (zs.take len)).length = len := by simp [lits]; omega
      omega
/-- A call that came in. -/
theorem t_act (h : DataW.trod enc Try.prog W 0 (fun _ => true) true fuel 47 cs = some x) :
    ∃ o : AV, cs = o.cells ∧ o.zs.length = o.n ∧ (o.lo = none → o.n = 0 ∧ o.c = 0) ∧ FromI W o.lo o.zs ∧ IntKind.i64.wrap o.a = o.a ∧ IntKind.i64.wrap o.b = o.b ∧ o.n ≤ Rows.uptoBulk x.1 := by
  obtain ⟨xs, mm, _, hx, hl, hxl, hf⟩ := DataW.trod_struct Try.underlying47 h
  have hxl' : xs.length = 4 := hxl
  rw [cells47] at hl
  obtain ⟨c0, l1, rfl, k1⟩ := uncons hl
  obtain ⟨c1, l2, rfl, k2⟩ := uncons k1
  obtain ⟨c2, l3, rfl, k3⟩ := uncons k2
  obtain ⟨c3, l4, rfl, k4⟩ := uncons k3
  obtain rfl := List.eq_nil_of_length_eq_zero k4
  have y0 : xs[0]? = some xs[0] := List.getElem?_eq_getElem (by omega)
  have h0 : DataW.trod enc Try.prog W 0 (fun _ => true) true mm 3 [c0] = some xs[0] := by
    have e : DataW.trod enc Try.prog W 0 (fun _ => true) true mm 3 (List.take (Try.prog.cellsOf 3) (List.drop 0 [c0, c1, c2, c3])) = xs[0]? := hf 0 _ rfl
    rw [cells3, y0] at e
    exact e
  obtain ⟨z0, e0, b0⟩ := t_int Try.underlying3 h0
  have y1 : xs[1]? = some xs[1] := List.getElem?_eq_getElem (by omega)
  have h1 : DataW.trod enc Try.prog W 0 (fun _ => true) true mm 3 [c1] = some xs[1] := by
    have e : DataW.trod enc Try.prog W 0 (fun _ => true) true mm 3 (List.take (Try.prog.cellsOf 3) (List.drop 1 [c0, c1, c2, c3])) = xs[1]? := hf 1 _ rfl
    rw [cells3, y1] at e
    exact e
  obtain ⟨z1, e1, b1⟩ := t_int Try.underlying3 h1
  have y2 : xs[2]? = some xs[2] := List.getElem?_eq_getElem (by omega)
  have h2 : DataW.trod enc Try.prog W 0 (fun _ => true) true mm 3 [c2] = some xs[2] := by
    have e : DataW.trod enc Try.prog W 0 (fun _ => true) true mm 3 (List.take (Try.prog.cellsOf 3) (List.drop 2 [c0, c1, c2, c3])) = xs[2]? := hf 2 _ rfl
    rw [cells3, y2] at e
    exact e
  obtain ⟨z2, e2, b2⟩ := t_int Try.underlying3 h2
  have y3 : xs[3]? = some xs[3] := List.getElem?_eq_getElem (by omega)
  have h3 : DataW.trod enc Try.prog W 0 (fun _ => true) true mm 22 [c3] = some xs[3] := by
    have e : DataW.trod enc Try.prog W 0 (fun _ => true) true mm 22 (List.take (Try.prog.cellsOf 22) (List.drop 3 [c0, c1, c2, c3])) = xs[3]? := hf 3 _ rfl
    rw [cells22, y3] at e
    exact e
  obtain ⟨lo, n, c, zs, e3, f1, f2, f3, f4⟩ := t_nums h3
  have hb : n ≤ Rows.uptoBulk x.1 := by
    rw [hx]
    simp only [Rows.uptoBulk]
    have := part_bulk (d := xs[3].1) (l := xs.map (·.1)) (List.mem_map.2 ⟨xs[3], List.getElem_mem _, rfl⟩)
    omega
  clear hf h hl
  cases e0; cases e1; cases e2; cases e3
  exact ⟨⟨z0, z1, z2, lo, n, c, zs⟩, rfl, f1, f2, f3, b1, b2, hb⟩
/-- The calls that came in. -/
theorem t_acts (h : DataW.trod enc Try.prog W 0 (fun _ => true) true fuel 48 cs = some x) (hk : Rows.uptoBulk x.1 ≤ 1048576) :
    ∃ (ao : Option Addr) (cv : Nat) (xs : List AV), cs = [.slice ao xs.length cv] ∧ AL W.heap.size W ao xs ∧ xs.length ≤ 1048576 := by
  rcases DataW.trod_slice Try.underlying48 h with ⟨hcs, _⟩ | ⟨a, len, cap, elems, rest, mm, _, hcs, hx, _, hl, hm, hel, he, _, _⟩
  · exact ⟨none, 0, [], hcs, ⟨(fun v hv => by cases hv), (fun i x h => by simp at h)⟩, by simp⟩
  · rw [cells47] at he
    have hbk : Rows.uptoBulkAll (elems.map (·.1)) ≤ 1048576 := by
      rw [hx] at hk
      simp only [Rows.uptoBulk] at hk
      omega
    have hlb := length_bulk (elems.map (·.1))
    rw [List.length_map] at hlb
    obtain ⟨vs, hvl, hv⟩ := list_of (fun i (v : AV) => (∀ j c, v.cells[j]? = some c → W.cell? ((a.add (i * 4)).add j) = some c) ∧ v.zs.length = v.n ∧ (v.lo = none → v.n = 0 ∧ v.c = 0) ∧ FromI W v.lo v.zs ∧ IntKind.i64.wrap v.a = v.a ∧ IntKind.i64.wrap v.b = v.b ∧ v.n ≤ 1048576) len fun i hi => by
      have h1 := he i hi
      rw [List.getElem?_eq_getElem (by omega), Option.bind_eq_some_iff] at h1
      obtain ⟨cs', hcs', ht⟩ := h1
      obtain ⟨_, hl', hcell⟩ := World.cells?_some hcs'
      obtain ⟨v, rfl, g1, g2, g3, g4, g5, g6⟩ := t_act ht
      have hp := part_bulk (d := elems[i].1) (l := elems.map (·.1)) (List.mem_map.2 ⟨elems[i], List.getElem_mem _, rfl⟩)
      refine ⟨v, fun j c hc => ?_, g1, g2, g3, g4, g5, by omega⟩
      have hj : j < 4 := by have := (List.getElem?_eq_some_iff.1 hc).1; simpa [AV.cells] using this
      rw [hcell j hj, hc]
    refine ⟨some a, cap, vs, by rw [hvl]; exact hcs, ⟨fun v hvm => ?_, fun i v hi => ?_⟩, by omega⟩
    · obtain ⟨i, hi⟩ := List.getElem?_of_mem hvm
      obtain ⟨_, g1, g2, g3, g4, g5, g6⟩ := hv i v hi
      exact ⟨g1, g2, g3, fun h0 b off e => by rw [e] at g3; exact g3.lt h0, by omega, g4, g5⟩
    · have hp0 : 0 < vs.length := by have := (List.getElem?_eq_some_iff.1 hi).1; omega
      have h00 := (hv 0 vs[0] (List.getElem?_eq_getElem hp0)).1 0 _ rfl
      have hs : a.spot = none := by
        have := spot_none h00
        simpa [Addr.add] using this
      have hcell : ∀ j c, v.cells[j]? = some c → W.cell? ⟨a.block, a.off + i * 4 + j, none⟩ = some c := fun j c hc => by
        have := (hv i v hi).1 j c hc
        rwa [add_none hs, add_none rfl] at this
      refine ⟨a.block, a.off, by obtain ⟨b, o, s⟩ := a; simp only at hs; subst hs; rfl, ?_, hcell⟩
      exact World.block_lt_of_cell? W (a := ⟨a.block, a.off + i * 4 + 0, none⟩) (hcell 0 _ rfl)
end
/-- A []Act that came in. -/
theorem open_acts {H : Type} {enc : TypeId × Value → H} {W : World} {base : Nat} {v : Value} {d : DataW H} {p : List MemPlace} (hval : Value.okWide Try.prog W .any base 48 v) (h0 : DataW.Trod enc Try.prog W 0 (fun _ => true) true 48 v d p) (hk : Rows.uptoBulk d ≤ 1048576) :
    ∃ (ao : Option Addr) (cv : Nat) (xs : List AV), v = .slice ao xs.length cv ∧ AL W.heap.size W ao xs ∧ xs.length ≤ 1048576 := by
  obtain ⟨a0, len, cap, rfl⟩ := okWide_slice Try.underlying48 hval
  obtain ⟨fuel, hf⟩ := h0
  obtain ⟨ao, cv, xs, e, h1, h2⟩ := t_acts hf hk
  exact ⟨ao, cv, xs, by simpa [Value.cells] using e, h1, h2⟩
end Go.Proofs.Ytgohjkamikpdcaa
