import Derived.Test.YtjojhhkbebddmaaRows
import Derived.Test.YtjojhhkbebddmaaL12
import Derived.WalkKit
import Derived.ProofKit
import Derived.OpenShut
import Derived.SizedLaws
namespace Go.Proofs.Ytjojhhkbebddmaa
open Go.ChangeShapes Go.WideShapes Go.ChangeAt Go.RowKit Go.WideMaps Go.WideElems
set_option linter.unusedVariables false
theorem own : ownKnob Try.prog.godebug = none := by kernel_rfl
theorem laidOut : laidOutB Try.prog = true := by kernel_rfl
theorem cells3 : Try.prog.cellsOf 3 = 1 := by kernel_rfl
theorem cells4 : Try.prog.cellsOf 4 = 1 := by kernel_rfl
theorem cells49 : Try.prog.cellsOf 49 = 2 := by kernel_rfl
theorem cells78 : Try.prog.cellsOf 78 = 12 := by kernel_rfl
theorem uncons {α : Type} {l : List α} {n : Nat} (h : l.length = n + 1) : ∃ a t, l = a :: t ∧ t.length = n := by
  cases l with
  | nil => simp at h
  | cons a t => exact ⟨a, t, rfl, by simpa using h⟩
theorem list_of {α : Type} (P : Nat → α → Prop) : ∀ n, (∀ i, i < n → ∃ c, P i c) → ∃ cs : List α, cs.length = n ∧ ∀ i c, cs[i]? = some c → P i c
  | 0, _ => ⟨[], rfl, fun i c h => by simp at h⟩
  | n + 1, h => by
    obtain ⟨cs, hl, hc⟩ := list_of P n fun i hi => h i (by omega)
    obtain ⟨c, hP⟩ := h n (by omega)
    refine ⟨cs ++ [c], by simp [hl], fun i c' hi => ?_⟩
    by_cases hin : i < n
    · rw [List.getElem?_append_left (by omega)] at hi
      exact hc i c' hi
    · rw [List.getElem?_append_right (by omega)] at hi
      by_cases e0 : i - cs.length = 0
      · rw [e0] at hi
        cases hi
        rw [show i = n from by omega]
        exact hP
      · rw [List.getElem?_eq_none (by simp; omega)] at hi; cases hi
theorem one_bulk {H : Type} (d : DataW H) : 1 ≤ Rows.uptoBulk d := by
  cases d with
  | lit l => cases l <;> simp [Rows.uptoBulk]
  | nil => simp [Rows.uptoBulk]
  | ptr d => simp [Rows.uptoBulk]
  | slice elems spare => simp [Rows.uptoBulk]
  | agg parts => simp [Rows.uptoBulk]
  | iface t d => simp [Rows.uptoBulk]
  | map entries => simp [Rows.uptoBulk]
  | held h => simp [Rows.uptoBulk]
theorem length_bulk {H : Type} (l : List (DataW H)) : l.length ≤ Rows.uptoBulkAll l := by
  induction l with
  | nil => simp [Rows.uptoBulkAll]
  | cons x r ih => have := one_bulk x; simp only [Rows.uptoBulkAll, List.length_cons]; omega
section
variable {H : Type} {enc : TypeId × Value → H} {W : World} {fuel : Nat} {cs : List Value} {x : DataW H × List MemPlace}
set_option maxRecDepth 100000
set_option maxHeartbeats 1600000
theorem spot_none {a : Addr} {v : Value} (h : W.cell? a = some v) : a.spot = none := by
  cases hs : a.spot with
  | none => rfl
  | some k =>
    rw [World.cell?] at h
    split at h
    · rw [hs] at h; simp at h
    · cases h
theorem add_none {a : Addr} (hs : a.spot = none) (k : Nat) : a.add k = ⟨a.block, a.off + k, none⟩ := by
  unfold Addr.add
  split
  · rename_i e; subst e; obtain ⟨b, o, s⟩ := a; simp only at hs; subst hs; rfl
  · rfl
theorem t_int {t : TypeId} (hu : Try.prog.underlying t = some (.int .i64)) (h : DataW.trod enc Try.prog W 0 (fun _ => true) true fuel t cs = some x) : ∃ z, cs = [.int .i64 z] := by
  obtain ⟨z, e, _, hw⟩ := DataW.trod_int hu h
  exact ⟨z, e⟩
theorem t_bool (h : DataW.trod enc Try.prog W 0 (fun _ => true) true fuel 4 cs = some x) : ∃ b, cs = [.bool b] := by
  obtain ⟨b, e, _⟩ := DataW.trod_bool Try.underlying4 h
  exact ⟨b, e⟩
/-- An epoch that came in. -/
theorem t_ep (h : DataW.trod enc Try.prog W 0 (fun _ => true) true fuel 49 cs = some x) : ∃ a b, cs = [.int .i64 a, .int .i64 b] := by
  obtain ⟨xs, mm, _, hx, hl, hxl, hf⟩ := DataW.trod_struct Try.underlying49 h
  have hxl' : xs.length = 2 := hxl
  rw [cells49] at hl
  obtain ⟨c0, l1, rfl, k1⟩ := uncons hl
  obtain ⟨c1, l2, rfl, k2⟩ := uncons k1
  obtain rfl := List.eq_nil_of_length_eq_zero k2
  have y0 : xs[0]? = some xs[0] := List.getElem?_eq_getElem (by omega)
  have h0 : DataW.trod enc Try.prog W 0 (fun _ => true) true mm 3 [c0] = some xs[0] := by
    have e : DataW.trod enc Try.prog W 0 (fun _ => true) true mm 3 (List.take (Try.prog.cellsOf 3) (List.drop 0 [c0, c1])) = xs[0]? := hf 0 _ rfl
    rw [cells3, y0] at e
    exact e
  obtain ⟨z0, e0⟩ := t_int Try.underlying3 h0
  have y1 : xs[1]? = some xs[1] := List.getElem?_eq_getElem (by omega)
  have h1 : DataW.trod enc Try.prog W 0 (fun _ => true) true mm 3 [c1] = some xs[1] := by
    have e : DataW.trod enc Try.prog W 0 (fun _ => true) true mm 3 (List.take (Try.prog.cellsOf 3) (List.drop 1 [c0, c1])) = xs[1]? := hf 1 _ rfl
    rw [cells3, y1] at e
    exact e
  obtain ⟨z1, e1⟩ := t_int Try.underlying3 h1
  cases e0; cases e1
  exact ⟨z0, z1, rfl⟩
/-- A call that came in. -/
theorem t_call (h : DataW.trod enc Try.prog W 0 (fun _ => true) true fuel 78 cs = some x) : ∃ c : Cl, cs = c.cells.toList := by
  obtain ⟨xs, mm, _, hx, hl, hxl, hf⟩ := DataW.trod_struct Try.underlying78 h
  have hxl' : xs.length = 10 := hxl
  rw [cells78] at hl
  obtain ⟨c0, l1, rfl, k1⟩ := uncons hl
  obtain ⟨c1, l2, rfl, k2⟩ := uncons k1
  obtain ⟨c2, l3, rfl, k3⟩ := uncons k2
  obtain ⟨c3, l4, rfl, k4⟩ := uncons k3
  obtain ⟨c4, l5, rfl, k5⟩ := uncons k4
  obtain ⟨c5, l6, rfl, k6⟩ := uncons k5
  obtain ⟨c6, l7, rfl, k7⟩ := uncons k6
  obtain ⟨c7, l8, rfl, k8⟩ := uncons k7
  obtain ⟨c8, l9, rfl, k9⟩ := uncons k8
  obtain ⟨c9, l10, rfl, k10⟩ := uncons k9
  obtain ⟨c10, l11, rfl, k11⟩ := uncons k10
  obtain ⟨c11, l12, rfl, k12⟩ := uncons k11
  obtain rfl := List.eq_nil_of_length_eq_zero k12
  have y0 : xs[0]? = some xs[0] := List.getElem?_eq_getElem (by omega)
  have h0 : DataW.trod enc Try.prog W 0 (fun _ => true) true mm 3 [c0] = some xs[0] := by
    have e : DataW.trod enc Try.prog W 0 (fun _ => true) true mm 3 (List.take (Try.prog.cellsOf 3) (List.drop 0 [c0, c1, c2, c3, c4, c5, c6, c7, c8, c9, c10, c11])) = xs[0]? := hf 0 _ rfl
    rw [cells3, y0] at e
    exact e
  obtain ⟨z0, e0⟩ := t_int Try.underlying3 h0
  have y1 : xs[1]? = some xs[1] := List.getElem?_eq_getElem (by omega)
  have h1 : DataW.trod enc Try.prog W 0 (fun _ => true) true mm 3 [c1] = some xs[1] := by
    have e : DataW.trod enc Try.prog W 0 (fun _ => true) true mm 3 (List.take (Try.prog.cellsOf 3) (List.drop 1 [c0, c1, c2, c3, c4, c5, c6, c7, c8, c9, c10, c11])) = xs[1]? := hf 1 _ rfl
    rw [cells3, y1] at e
    exact e
  obtain ⟨z1, e1⟩ := t_int Try.underlying3 h1
  have y2 : xs[2]? = some xs[2] := List.getElem?_eq_getElem (by omega)
  have h2 : DataW.trod enc Try.prog W 0 (fun _ => true) true mm 3 [c2] = some xs[2] := by
    have e : DataW.trod enc Try.prog W 0 (fun _ => true) true mm 3 (List.take (Try.prog.cellsOf 3) (List.drop 2 [c0, c1, c2, c3, c4, c5, c6, c7, c8, c9, c10, c11])) = xs[2]? := hf 2 _ rfl
    rw [cells3, y2] at e
    exact e
  obtain ⟨z2, e2⟩ := t_int Try.underlying3 h2
  have y3 : xs[3]? = some xs[3] := List.getElem?_eq_getElem (by omega)
  have h3 : DataW.trod enc Try.prog W 0 (fun _ => true) true mm 3 [c3] = some xs[3] := by
    have e : DataW.trod enc Try.prog W 0 (fun _ => true) true mm 3 (List.take (Try.prog.cellsOf 3) (List.drop 3 [c0, c1, c2, c3, c4, c5, c6, c7, c8, c9, c10, c11])) = xs[3]? := hf 3 _ rfl
    rw [cells3, y3] at e
    exact e
  obtain ⟨z3, e3⟩ := t_int Try.underlying3 h3
  have y4 : xs[4]? = some xs[4] := List.getElem?_eq_getElem (by omega)
  have h4 : DataW.trod enc Try.prog W 0 (fun _ => true) true mm 3 [c4] = some xs[4] := by
    have e : DataW.trod enc Try.prog W 0 (fun _ => true) true mm 3 (List.take (Try.prog.cellsOf 3) (List.drop 4 [c0, c1, c2, c3, c4, c5, c6, c7, c8, c9, c10, c11])) = xs[4]? := hf 4 _ rfl
    rw [cells3, y4] at e
    exact e
  obtain ⟨z4, e4⟩ := t_int Try.underlying3 h4
  have y5 : xs[5]? = some xs[5] := List.getElem?_eq_getElem (by omega)
  have h5 : DataW.trod enc Try.prog W 0 (fun _ => true) true mm 4 [c5] = some xs[5] := by
    have e : DataW.trod enc Try.prog W 0 (fun _ => true) true mm 4 (List.take (Try.prog.cellsOf 4) (List.drop 5 [c0, c1, c2, c3, c4, c5, c6, c7, c8, c9, c10, c11])) = xs[5]? := hf 5 _ rfl
    rw [cells4, y5] at e
    exact e
  obtain ⟨z5, e5⟩ := t_bool h5
  have y6 : xs[6]? = some xs[6] := List.getElem?_eq_getElem (by omega)
  have h6 : DataW.trod enc Try.prog W 0 (fun _ => true) true mm 4 [c6] = some xs[6] := by
    have e : DataW.trod enc Try.prog W 0 (fun _ => true) true mm 4 (List.take (Try.prog.cellsOf 4) (List.drop 6 [c0, c1, c2, c3, c4, c5, c6, c7, c8, c9, c10, c11])) = xs[6]? := hf 6 _ rfl
    rw [cells4, y6] at e
    exact e
  obtain ⟨z6, e6⟩ := t_bool h6
  have y7 : xs[7]? = some xs[7] := List.getElem?_eq_getElem (by omega)
  have h7 : DataW.trod enc Try.prog W 0 (fun _ => true) true mm 3 [c7] = some xs[7] := by
    have e : DataW.trod enc Try.prog W 0 (fun _ => true) true mm 3 (List.take (Try.prog.cellsOf 3) (List.drop 7 [c0, c1, c2, c3, c4, c5, c6, c7, c8, c9, c10, c11])) = xs[7]? := hf 7 _ rfl
    rw [cells3, y7] at e
    exact e
  obtain ⟨z7, e7⟩ := t_int Try.underlying3 h7
  have y8 : xs[8]? = some xs[8] := List.getElem?_eq_getElem (by omega)
  have h8 : DataW.trod enc Try.prog W 0 (fun _ => true) true mm 49 [c8, c9] = some xs[8] := by
    have e : DataW.trod enc Try.prog W 0 (fun _ => true) true mm 49 (List.take (Try.prog.cellsOf 49) (List.drop 8 [c0, c1, c2, c3, c4, c5, c6, c7, c8, c9, c10, c11])) = xs[8]? := hf 8 _ rfl
    rw [cells49, y8] at e
    exact e
  obtain ⟨z8, u8, e8⟩ := t_ep h8
  have y9 : xs[9]? = some xs[9] := List.getElem?_eq_getElem (by omega)
  have h9 : DataW.trod enc Try.prog W 0 (fun _ => true) true mm 49 [c10, c11] = some xs[9] := by
    have e : DataW.trod enc Try.prog W 0 (fun _ => true) true mm 49 (List.take (Try.prog.cellsOf 49) (List.drop 10 [c0, c1, c2, c3, c4, c5, c6, c7, c8, c9, c10, c11])) = xs[9]? := hf 9 _ rfl
    rw [cells49, y9] at e
    exact e
  obtain ⟨z9, u9, e9⟩ := t_ep h9
  clear hf h hl
  cases e0; cases e1; cases e2; cases e3; cases e4; cases e5; cases e6; cases e7; cases e8; cases e9
  exact ⟨⟨z0, z1, z2, z3, z4, z5, z6, z7, ⟨z8, u8⟩, ⟨z9, u9⟩⟩, rfl⟩
/-- The calls that came in. -/
theorem t_calls (h : DataW.trod enc Try.prog W 0 (fun _ => true) true fuel 37 cs = some x) (hk : Rows.uptoBulk x.1 ≤ 1048576) :
    ∃ (ao : Option Addr) (cv : Nat) (xs : List Cl), cs = [.slice ao xs.length cv] ∧ ScrIn W ao xs ∧ xs.length ≤ 1048576 := by
  rcases DataW.trod_slice Try.underlying37 h with ⟨hcs, _⟩ | ⟨a, len, cap, elems, rest, mm, _, hcs, hx, _, hl, hm, hel, he, _, _⟩
  · exact ⟨none, 0, [], hcs, (fun i x h => by simp at h), by simp⟩
  · rw [cells78] at he
    have hbk : Rows.uptoBulkAll (elems.map (·.1)) ≤ 1048576 := by
      rw [hx] at hk
      simp only [Rows.uptoBulk] at hk
      omega
    have hlb := length_bulk (elems.map (·.1))
    rw [List.length_map] at hlb
    obtain ⟨vs, hvl, hv⟩ := list_of (fun i (v : Cl) => ∀ j c, v.cells[j]? = some c → W.cell? ((a.add (i * 12)).add j) = some c) len fun i hi => by
      have h1 := he i hi
      rw [List.getElem?_eq_getElem (by omega), Option.bind_eq_some_iff] at h1
      obtain ⟨cs', hcs', ht⟩ := h1
      obtain ⟨_, hl', hcell⟩ := World.cells?_some hcs'
      obtain ⟨v, rfl⟩ := t_call ht
      refine ⟨v, fun j c hc => ?_⟩
      have hj : j < 12 := by have := (Array.getElem?_eq_some_iff.1 hc).1; simpa [Cl.cells] using this
      rw [hcell j hj, ← hc, ← Array.getElem?_toList]
    refine ⟨some a, cap, vs, by rw [hvl]; exact hcs, fun i v hi => ?_, by omega⟩
    have hp0 : 0 < vs.length := by have := (List.getElem?_eq_some_iff.1 hi).1; omega
    have h00 := hv 0 vs[0] (List.getElem?_eq_getElem hp0) 0 _ rfl
    have hs : a.spot = none := by
      have := spot_none h00
      simpa [Addr.add] using this
    have hcell : ∀ j c, v.cells[j]? = some c → W.cell? ⟨a.block, a.off + i * 12 + j, none⟩ = some c := fun j c hc => by
      have := hv i v hi j c hc
      rwa [add_none hs, add_none rfl] at this
    refine ⟨a.block, a.off, by obtain ⟨b, o, s⟩ := a; simp only at hs; subst hs; rfl, ?_, hcell⟩
    exact World.block_lt_of_cell? W (a := ⟨a.block, a.off + i * 12 + 0, none⟩) (hcell 0 _ rfl)
end
set_option maxRecDepth 100000 in
/-- A []Call that came in. -/
theorem open_calls {H : Type} {enc : TypeId × Value → H} {W : World} {base : Nat} {v : Value} {d : DataW H} {p : List MemPlace} (hval : Value.okWide Try.prog W .any base 37 v) (h0 : DataW.Trod enc Try.prog W 0 (fun _ => true) true 37 v d p) (hk : Rows.uptoBulk d ≤ 1048576) :
    ∃ (ao : Option Addr) (cv : Nat) (xs : List Cl), v = .slice ao xs.length cv ∧ ScrIn W ao xs ∧ xs.length ≤ 1048576 := by
  obtain ⟨a0, len, cap, rfl⟩ := okWide_slice Try.underlying37 hval
  obtain ⟨fuel, hf⟩ := h0
  obtain ⟨ao, cv, xs, e, h1, h2⟩ := t_calls hf hk
  exact ⟨ao, cv, xs, by simpa [Value.cells] using e, h1, h2⟩
end Go.Proofs.Ytjojhhkbebddmaa
