import Derived.Test.YtnphkmdanicemaaGreatDoorCards
import Derived.Test.YtnphkmdanicemaaGreatDoorTie
import Derived.Test.YtnphkmdanicemaaGreatDoorZ11
import Derived.WalkKit
import Derived.ProofKit
import Derived.OpenShut
import Derived.SizedLaws
import Derived.Deep.DeepHandedRow
import Derived.MakeChecks
namespace Go.Proofs.YtnphkmdanicemaaGreatDoor
open Go.ChangeShapes Go.WideShapes Go.ChangeAt Go.RowKit Go.WideMaps Go.WideElems Go.PlainAid
set_option linter.unusedVariables false
theorem ownKn : ownKnob Tryz.prog.godebug = none := by kernel_rfl
theorem laidOut : laidOutB Tryz.prog = true := by kernel_rfl
theorem gArg : Tryz.prog.globalNamed "sluice/ledger.errArg" = some 0 := by kernel_rfl
theorem gCap : Tryz.prog.globalNamed "sluice/ledger.errCap" = some 1 := by kernel_rfl
theorem gRights : Tryz.prog.globalNamed "sluice/ledger.errRights" = some 2 := by kernel_rfl
theorem gArgT : (Tryz.prog.globals[0]?).map (·.type) = some 100 := by kernel_rfl
theorem gCapT : (Tryz.prog.globals[1]?).map (·.type) = some 100 := by kernel_rfl
theorem gRightsT : (Tryz.prog.globals[2]?).map (·.type) = some 100 := by kernel_rfl
theorem cells208 : Tryz.prog.cellsOf 208 = 1 := by kernel_rfl
theorem cells9 : Tryz.prog.cellsOf 9 = 1 := by kernel_rfl
theorem star : "*" ++ "errors.errorString" = "*errors.errorString" := by decide
theorem row185 (u : TypeId) (h : Tryz.prog.typeName? 3 u = some "*errors.errorString") : u = 185 :=
  typeName_ptr_named (nm := "errors.errorString") (by rw [star]; kernel_rfl) (by kernel_rfl) (by decide) u (by rw [star]; exact h)
/-- What the row's list gives: the three errors. -/
theorem sen_of {W : World} (h : laidMetH Tryz.prog [("sluice/ledger.errArg", Rows.laid_sluice_ledger_errArg), ("sluice/ledger.errRights", Rows.laid_sluice_ledger_errRights), ("sluice/ledger.errCap", Rows.laid_sluice_ledger_errCap)] W) : ∃ S, Led.Sen S W.heap.size W := by
  rw [Go.MakeChecks.laidMetH_plain _ _ _ (by rfl)] at h
  obtain ⟨a0, a2, s0, s2, c0, c2, t0, t2, hv0, hv2, hc0, hs0, _, hc2, hs2, _, hne02, hb0, hb2⟩ := laid_sentinels2 h gArg gArgT gRights gRightsT Tryz.underlying100 row185 Tryz.underlying185 Tryz.underlying208 rfl rfl Tryz.underlying9 cells208 cells9
  obtain ⟨b2, a1, s2', s1, c2', c1, t2', t1, hv2', hv1, hc2', hs2', _, hc1, hs1, _, hne21, hb2', hb1⟩ := laid_sentinels2 h.tail gRights gRightsT gCap gCapT Tryz.underlying100 row185 Tryz.underlying185 Tryz.underlying208 rfl rfl Tryz.underlying9 cells208 cells9
  have e : a2 = b2 := by
    have := hv2.symm.trans hv2'
    simpa using this
  subst e
  have hne01 : a0 ≠ a1 := fun e => by
    subst e
    have e2 : s0 = s1 := by simpa using hc0.symm.trans hc1
    subst e2
    exact absurd (hs0.symm.trans hs1) (by decide)
  have hlt : ∀ (a : Addr) c t, W.heap[a.block]? = some (Obj.cells c t (0, 0)) → a.block < W.heap.size := fun a c t h => (Array.getElem?_eq_some_iff.1 h).1
  have x0 : W.cell? ⟨0, 0, none⟩ = some (.iface 185 (.pointer (some a0))) := by simpa using World.var?_cell gArg hv0 0
  have x1 : W.cell? ⟨1, 0, none⟩ = some (.iface 185 (.pointer (some a1))) := by simpa using World.var?_cell gCap hv1 0
  have x2 : W.cell? ⟨2, 0, none⟩ = some (.iface 185 (.pointer (some a2))) := by simpa using World.var?_cell gRights hv2 0
  have := World.block_lt_of_cell? _ _ x2
  exact ⟨⟨a0, a1, a2⟩, x0, x1, x2, hne01, hne02, Ne.symm hne21, ⟨_, _, hb0⟩, ⟨_, _, hb1⟩, ⟨_, _, hb2⟩, ⟨hlt _ _ _ hb0, hlt _ _ _ hb1, hlt _ _ _ hb2, this⟩⟩
theorem cells3 : Tryz.prog.cellsOf 3 = 1 := by kernel_rfl
theorem cells37 : Tryz.prog.cellsOf 37 = 2 := by kernel_rfl
theorem cells29 : Tryz.prog.cellsOf 29 = 4 := by kernel_rfl
theorem list_of {α : Type} (P : Nat → α → Prop) : ∀ n, (∀ i, i < n → ∃ c, P i c) → ∃ cs : List α, cs.length = n ∧ ∀ i c, cs[i]? = some c → P i c
  | 0, _ => ⟨[], rfl, fun i c h => by simp at h⟩
  | n + 1, h => by
    obtain ⟨cs, hl, hc⟩ := list_of P n fun i hi => h i (by omega)
    obtain ⟨c, hP⟩ := h n (by omega)
    refine ⟨cs ++ [c], by simp [hl], fun i c' hi => ?_⟩
    by_cases hin : i < n
    · rw [List.getElem?_append_left (by omega)] at hi
      exact hc i c' hi
    · rw [List.getElem?_append_right (by omega)] at hi
      by_cases e0 : i - cs.length = 0
      · rw [e0] at hi
        cases hi
        rw [show i = n from by omega]
        exact hP
      · rw [List.getElem?_eq_none (by simp; omega)] at hi; cases hi
theorem spot_none {W : World} {a : Addr} {v : Value} (h : W.cell? a = some v) : ∃ b off, a = ⟨b, off, none⟩ := by
  obtain ⟨b, off, sp⟩ := a
  cases sp with
  | none => exact ⟨b, off, rfl⟩
  | some s =>
    unfold World.cell? at h
    split at h <;> simp at h
theorem weights_all {H : Type} {P : Program} {e : TypeId} : ∀ {ds : List (DataW H)} {i : Nat} {d : DataW H}, ds[i]? = some d → ∀ n ∈ d.weights P e, n ∈ DataW.weightsAll P e ds
  | d0 :: ds, 0, d, hd, n, hn => by
    simp only [List.getElem?_cons_zero, Option.some.injEq] at hd
    subst hd
    simp only [DataW.weightsAll, List.mem_append]
    exact .inl hn
  | d0 :: ds, i + 1, d, hd, n, hn => by
    simp only [List.getElem?_cons_succ] at hd
    simp only [DataW.weightsAll, List.mem_append]
    exact .inr (weights_all hd n hn)
  | [], _, _, hd, _, _ => by simp at hd
theorem uncons {α : Type} {l : List α} {n : Nat} (h : l.length = n + 1) : ∃ a t, l = a :: t ∧ t.length = n := by
  cases l with
  | nil => simp at h
  | cons a t => exact ⟨a, t, rfl, by simpa using h⟩
/-- Cells in a row. -/
def RowAt (W : World) (b off : Nat) (cs : List Value) : Prop := ∀ j v, cs[j]? = some v → W.cell? ⟨b, off + j, none⟩ = some v
theorem RowAt.below {W W' : World} {L b off : Nat} {cs : List Value} (h : RowAt W b off cs) (hb : Below L W W') (hL : b < L) : RowAt W' b off cs := fun j v hv => (hb.cell (p := ⟨b, off + j, none⟩) hL).trans (h j v hv)
theorem RowAt.lt {W : World} {b off : Nat} {cs : List Value} (h : RowAt W b off cs) (h0 : 0 < cs.length) : b < W.heap.size := World.block_lt_of_cell? W _ (h 0 _ (List.getElem?_eq_getElem h0))
def In64 (z : Int) : Prop := (-9223372036854775808 : Int) ≤ z ∧ z ≤ 9223372036854775807
def Tn.rowL (c : Tn) : List Value := [.int .i64 c.k, .int .i64 c.wh, .int .i64 c.d, .int .i64 c.u]
section
variable {H : Type} {enc : TypeId × Value → H} {W : World} {fuel : Nat} {cs : List Value} {x : DataW H × List MemPlace}
set_option maxRecDepth 100000
set_option maxHeartbeats 1600000
theorem t_int {t : TypeId} (hu : Tryz.prog.underlying t = some (.int .i64)) (h : DataW.trod enc Tryz.prog W 0 (fun _ => true) true fuel t cs = some x) : ∃ z, cs = [.int .i64 z] ∧ In64 z := by
  obtain ⟨z, e, _, hw⟩ := DataW.trod_int hu h
  have := bounds_i64 hw
  exact ⟨z, e, by unfold In64; omega⟩
theorem t_str {t : TypeId} (hu : Tryz.prog.underlying t = some .string) (h : DataW.trod enc Tryz.prog W 0 (fun _ => true) true fuel t cs = some x) (hw : ∀ n ∈ x.1.weights Tryz.prog t, n ≤ reachBytes) : ∃ s : List UInt8, cs = [.string ⟨s.toArray⟩] ∧ s.length ≤ 140737488351232 := by
  obtain ⟨s, e, hx, _⟩ := DataW.trod_string hu h
  refine ⟨s.data.toList, e, ?_⟩
  have := hw s.data.toList.length (by rw [hx]; simp [DataW.weights])
  exact this
theorem t_two {t : TypeId} {f0 f1 : Field} (hu : Tryz.prog.underlying t = some (.struct #[f0, f1])) (hc : Tryz.prog.cellsOf t = 2) (t0 : f0.type = 3) (t1 : f1.type = 3) (o0 : f0.offset = 0) (o1 : f1.offset = 1)
    (h : DataW.trod enc Tryz.prog W 0 (fun _ => true) true fuel t cs = some x) : ∃ a b, cs = [.int .i64 a, .int .i64 b] ∧ In64 a ∧ In64 b := by
  obtain ⟨xs, m, _, hx, hl, hxl, hf⟩ := DataW.trod_struct hu h
  have hxl' : xs.length = 2 := hxl
  rw [hc] at hl
  obtain ⟨c0, l1, rfl, k1⟩ := uncons hl
  obtain ⟨c1, l2, rfl, k2⟩ := uncons k1
  obtain rfl := List.eq_nil_of_length_eq_zero k2
  have h0 := hf 0 f0 rfl
  have h1 := hf 1 f1 rfl
  rw [t0, o0, cells3, List.getElem?_eq_getElem (by omega)] at h0
  rw [t1, o1, cells3, List.getElem?_eq_getElem (by omega)] at h1
  obtain ⟨a, ea, ha⟩ := t_int Tryz.underlying3 h0
  obtain ⟨b, eb, hb⟩ := t_int Tryz.underlying3 h1
  simp only [List.drop_zero, List.take_succ_cons, List.take_zero, List.cons.injEq, and_true, List.drop_succ_cons] at ea eb
  exact ⟨a, b, by rw [ea, eb], ha, hb⟩
theorem w_part {t t' : TypeId} {fs : Array Field} {xs : List (DataW H × List MemPlace)} {i : Nat} {y : DataW H × List MemPlace} (hu : Tryz.prog.underlying t = some (.struct fs)) (hx : x = (.agg (xs.map (·.1)), xs.flatMap (·.2))) (hw : ∀ n ∈ x.1.weights Tryz.prog t, n ≤ reachBytes)
    (ht : (fs.toList.map (·.type))[i]? = some t') (hy : xs[i]? = some y) : ∀ n ∈ y.1.weights Tryz.prog t', n ≤ reachBytes := by
  intro n hn
  refine hw n ?_
  rw [hx]
  simp only [DataW.weights, hu]
  exact DataW.weights_mem_each ht (by rw [List.getElem?_map, hy]; rfl) n hn
theorem t_turn (h : DataW.trod enc Tryz.prog W 0 (fun _ => true) true fuel 29 cs = some x) :
    ∃ o : Tn, cs = o.rowL ∧ o.Ok := by
  obtain ⟨xs, mm, _, hx, hl, hxl, hf⟩ := DataW.trod_struct Tryz.underlying29 h
  have hxl' : xs.length = 4 := hxl
  rw [cells29] at hl
  obtain ⟨c0, l1, rfl, k1⟩ := uncons hl
  obtain ⟨c1, l2, rfl, k2⟩ := uncons k1
  obtain ⟨c2, l3, rfl, k3⟩ := uncons k2
  obtain ⟨c3, l4, rfl, k4⟩ := uncons k3
  obtain rfl := List.eq_nil_of_length_eq_zero k4
  have key : ∀ (i : Nat) (c : Value), i < 4 → [c0, c1, c2, c3][i]? = some c → ∃ z, c = .int .i64 z ∧ In64 z := fun i c hi hc => by
    have y0 : xs[i]? = some xs[i] := List.getElem?_eq_getElem (by omega)
    have e : DataW.trod enc Tryz.prog W 0 (fun _ => true) true mm 3 (List.take (Tryz.prog.cellsOf 3) (List.drop i [c0, c1, c2, c3])) = xs[i]? := by
      rcases (show i = 0 ∨ i = 1 ∨ i = 2 ∨ i = 3 by omega) with rfl | rfl | rfl | rfl
      · exact hf 0 _ rfl
      · exact hf 1 _ rfl
      · exact hf 2 _ rfl
      · exact hf 3 _ rfl
    rw [cells3, y0] at e
    have e2 : List.take 1 (List.drop i [c0, c1, c2, c3]) = [c] := by
      rcases (show i = 0 ∨ i = 1 ∨ i = 2 ∨ i = 3 by omega) with rfl | rfl | rfl | rfl <;> simp at hc <;> subst hc <;> rfl
    rw [e2] at e
    obtain ⟨z, ez, bz⟩ := t_int Tryz.underlying3 e
    cases ez
    exact ⟨z, rfl, bz⟩
  obtain ⟨z0, rfl, b0⟩ := key 0 c0 (by omega) rfl
  obtain ⟨z1, rfl, b1⟩ := key 1 c1 (by omega) rfl
  obtain ⟨z2, rfl, b2⟩ := key 2 c2 (by omega) rfl
  obtain ⟨z3, rfl, b3⟩ := key 3 c3 (by omega) rfl
  exact ⟨⟨z0, z1, z2, z3⟩, rfl, b0, b1, b2, b3⟩
/-- A slice that came in, whatever its elements. -/
theorem open_rows {α : Type} (T e : TypeId) (sz : Nat) (f : α → List Value) (ok : α → Prop) (hu : Tryz.prog.underlying T = some (.slice e)) (hc : Tryz.prog.cellsOf e = sz) (h1 : 0 < sz) (hfl : ∀ a, (f a).length = sz)
    (hel : ∀ (fuel : Nat) (cs : List Value) (x : DataW H × List MemPlace), DataW.trod enc Tryz.prog W 0 (fun _ => true) true fuel e cs = some x → (∀ n ∈ x.1.weights Tryz.prog e, n ≤ reachBytes) → ∃ a, cs = f a ∧ ok a)
    {base : Nat} {v : Value} {d : DataW H} {p : List MemPlace} (hval : Value.okWide Tryz.prog W .any base T v) (h0 : DataW.Trod enc Tryz.prog W 0 (fun _ => true) true T v d p) (hsz : ∀ n ∈ d.weights Tryz.prog T, n ≤ reachBytes) :
    ∃ (ao : Option Addr) (N cap : Nat) (os : List α), v = .slice ao N cap ∧ os.length = N ∧ N ≤ cap ∧ cap ≤ maxLen ∧ (∀ o ∈ os, ok o) ∧ (ao = none → N = 0 ∧ cap = 0) ∧ (0 < N → ∃ b off, ao = some ⟨b, off, none⟩ ∧ ∀ i o, os[i]? = some o → RowAt W b (off + i * sz) (f o)) := by
  obtain ⟨a0, len, cap, rfl⟩ := okWide_slice hu hval
  obtain ⟨fuel, hf⟩ := h0
  rcases DataW.trod_slice hu hf with ⟨hcs, hx⟩ | ⟨a, len', cap', elems, rest, m, _, hcs, hx, _, hl, hm, hel2, he, _, _⟩
  · have e : Value.slice a0 len cap = .slice none 0 0 := by simpa [Value.cells] using hcs
    cases e
    exact ⟨none, 0, 0, [], rfl, rfl, Nat.le_refl _, Nat.zero_le _, (fun c hc => by cases hc), fun _ => ⟨rfl, rfl⟩, fun h => by omega⟩
  · have e : Value.slice a0 len cap = .slice (some a) len' cap' := by simpa [Value.cells] using hcs
    cases e
    rw [hc] at he
    have hxd : d = .slice (elems.map (·.1)) (rest.map (·.1)) := (Prod.mk.inj hx).1
    obtain ⟨cs, hcl, hcc⟩ := list_of (fun i o => (∃ b off, a.add (i * sz) = ⟨b, off, none⟩ ∧ RowAt W b off (f o)) ∧ ok o) len fun i hi => by
      have h2 := he i hi
      rw [List.getElem?_eq_getElem (by omega), Option.bind_eq_some_iff] at h2
      obtain ⟨cs, hcs2, ht⟩ := h2
      obtain ⟨_, hl2, hcell⟩ := World.cells?_some hcs2
      obtain ⟨o, rfl, ho⟩ := hel _ _ _ ht fun n hn => hsz n (by
        rw [hxd]
        simp only [DataW.weights, hu]
        refine List.mem_cons.2 (.inr (List.mem_append.2 (.inl ?_)))
        exact weights_all (i := i) (d := elems[i].1) (by rw [List.getElem?_map, List.getElem?_eq_getElem (by omega)]; rfl) n hn)
      have a0 := hcell 0 (by omega)
      rw [List.getElem?_eq_getElem (by rw [hfl]; exact h1)] at a0
      obtain ⟨b, off, e2⟩ := spot_none (show W.cell? (a.add (i * sz)) = some _ from a0)
      refine ⟨o, ⟨b, off, e2, fun j v hv => ?_⟩, ho⟩
      have hj := (List.getElem?_eq_some_iff.1 hv).1
      have := hcell j (by rw [hfl] at hj; omega)
      rw [e2, addr_add, hv] at this
      exact this
    refine ⟨some a, len, cap, cs, rfl, hcl, hl, by omega, fun c hcm => ?_, (fun h => by cases h), fun hN => ?_⟩
    · obtain ⟨i, hi⟩ := List.getElem?_of_mem hcm
      exact (hcc i c hi).2
    · obtain ⟨⟨b, off, e0, _⟩, _⟩ := hcc 0 cs[0] (List.getElem?_eq_getElem (by omega))
      rw [Nat.zero_mul, show a.add 0 = a from rfl] at e0
      subst e0
      refine ⟨b, off, rfl, fun i c hi => ?_⟩
      obtain ⟨⟨b2, off2, e2, h2⟩, _⟩ := hcc i c hi
      rw [addr_add] at e2
      cases e2
      exact h2
end
/-- A world for the witness: the errors as their initialisers lay them. -/
noncomputable def low : Nat := (World.holding Tryz.prog default ⟨#[], #[], []⟩).heap.size
noncomputable def laidWorld (os : Os) : World :=
  let w0 := World.holding Tryz.prog os ⟨#[.cells #[.string ⟨#[108, 101, 100, 103, 101, 114, 58, 32, 97, 32, 110, 117, 109, 98, 101, 114, 32, 116, 104, 97, 116, 32, 109, 97, 121, 32, 110, 111, 116, 32, 98, 101]⟩] 208, .cells #[.string ⟨#[108, 101, 100, 103, 101, 114, 58, 32, 109, 111, 114, 101, 32, 116, 104, 97, 110, 32, 116, 104, 101, 32, 99, 97, 112, 32, 104, 97, 115, 32, 114, 111, 111, 109, 32, 102, 111, 114]⟩] 208, .cells #[.string ⟨#[108, 101, 100, 103, 101, 114, 58, 32, 102, 101, 119, 101, 114, 32, 114, 105, 103, 104, 116, 115, 32, 116, 104, 97, 110, 32, 97, 114, 101, 32, 97, 115, 107, 101, 100, 32, 102, 111, 114]⟩] 208], #[], []⟩
  { w0 with heap := ((w0.heap.modify 0 fun
      | .cells _ t frozen => .cells #[.iface 185 (.pointer (some ⟨low, 0, none⟩))] t frozen
      | o => o).modify 1 fun
      | .cells _ t frozen => .cells #[.iface 185 (.pointer (some ⟨low + 1, 0, none⟩))] t frozen
      | o => o).modify 2 fun
      | .cells _ t frozen => .cells #[.iface 185 (.pointer (some ⟨low + 2, 0, none⟩))] t frozen
      | o => o }
end Go.Proofs.YtnphkmdanicemaaGreatDoor
