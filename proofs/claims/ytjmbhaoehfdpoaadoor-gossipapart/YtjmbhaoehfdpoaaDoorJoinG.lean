import Derived.Test.YtjmbhaoehfdpoaaDoorCards
import Derived.Test.YtjmbhaoehfdpoaaDoorTie
import Derived.Test.YtjmbhaoehfdpoaaDoorL1
import Derived.WalkKit
import Derived.ProofKit
import Derived.OpenShut
import Derived.SizedLaws
import Derived.Deep.DeepHandedRow
import Derived.MakeChecks
namespace Go.Proofs.YtjmbhaoehfdpoaaDoor
open Go.ChangeShapes Go.WideShapes Go.ChangeAt Go.RowKit Go.WideMaps Go.WideElems Go.PlainAid
set_option linter.unusedVariables false
theorem ownKn : ownKnob Tryd.prog.godebug = none := by kernel_rfl
theorem laidOut : laidOutB Tryd.prog = true := by kernel_rfl
theorem gArg : Tryd.prog.globalNamed "sluice/ledger.errArg" = some 0 := by kernel_rfl
theorem gCap : Tryd.prog.globalNamed "sluice/ledger.errCap" = some 1 := by kernel_rfl
theorem gRights : Tryd.prog.globalNamed "sluice/ledger.errRights" = some 2 := by kernel_rfl
theorem gArgT : (Tryd.prog.globals[0]?).map (·.type) = some 105 := by kernel_rfl
theorem gCapT : (Tryd.prog.globals[1]?).map (·.type) = some 105 := by kernel_rfl
theorem gRightsT : (Tryd.prog.globals[2]?).map (·.type) = some 105 := by kernel_rfl
theorem cells173 : Tryd.prog.cellsOf 173 = 1 := by kernel_rfl
theorem cells9 : Tryd.prog.cellsOf 9 = 1 := by kernel_rfl
theorem star : "*" ++ "errors.errorString" = "*errors.errorString" := by decide
theorem row149 (u : TypeId) (h : Tryd.prog.typeName? 3 u = some "*errors.errorString") : u = 149 :=
  typeName_ptr_named (nm := "errors.errorString") (by rw [star]; kernel_rfl) (by kernel_rfl) (by decide) u (by rw [star]; exact h)
/-- What the row's list gives: the three errors. -/
theorem sen_of {W : World} (h : laidMetH Tryd.prog [("sluice/ledger.errArg", Rows.laid_sluice_ledger_errArg), ("sluice/ledger.errRights", Rows.laid_sluice_ledger_errRights), ("sluice/ledger.errCap", Rows.laid_sluice_ledger_errCap)] W) : ∃ S, Led.Sen S W.heap.size W := by
  rw [Go.MakeChecks.laidMetH_plain _ _ _ (by rfl)] at h
  obtain ⟨a0, a2, s0, s2, c0, c2, t0, t2, hv0, hv2, hc0, hs0, _, hc2, hs2, _, hne02, hb0, hb2⟩ := laid_sentinels2 h gArg gArgT gRights gRightsT Tryd.underlying105 row149 Tryd.underlying149 Tryd.underlying173 rfl rfl Tryd.underlying9 cells173 cells9
  obtain ⟨b2, a1, s2', s1, c2', c1, t2', t1, hv2', hv1, hc2', hs2', _, hc1, hs1, _, hne21, hb2', hb1⟩ := laid_sentinels2 h.tail gRights gRightsT gCap gCapT Tryd.underlying105 row149 Tryd.underlying149 Tryd.underlying173 rfl rfl Tryd.underlying9 cells173 cells9
  have e : a2 = b2 := by
    have := hv2.symm.trans hv2'
    simpa using this
  subst e
  have hne01 : a0 ≠ a1 := fun e => by
    subst e
    have e2 : s0 = s1 := by simpa using hc0.symm.trans hc1
    subst e2
    exact absurd (hs0.symm.trans hs1) (by decide)
  have hlt : ∀ (a : Addr) c t, W.heap[a.block]? = some (Obj.cells c t (0, 0)) → a.block < W.heap.size := fun a c t h => (Array.getElem?_eq_some_iff.1 h).1
  have x0 : W.cell? ⟨0, 0, none⟩ = some (.iface 149 (.pointer (some a0))) := by simpa using World.var?_cell gArg hv0 0
  have x1 : W.cell? ⟨1, 0, none⟩ = some (.iface 149 (.pointer (some a1))) := by simpa using World.var?_cell gCap hv1 0
  have x2 : W.cell? ⟨2, 0, none⟩ = some (.iface 149 (.pointer (some a2))) := by simpa using World.var?_cell gRights hv2 0
  have := World.block_lt_of_cell? _ _ x2
  exact ⟨⟨a0, a1, a2⟩, x0, x1, x2, hne01, hne02, Ne.symm hne21, ⟨_, _, hb0⟩, ⟨_, _, hb1⟩, ⟨_, _, hb2⟩, ⟨hlt _ _ _ hb0, hlt _ _ _ hb1, hlt _ _ _ hb2, this⟩⟩
theorem cells3 : Tryd.prog.cellsOf 3 = 1 := by kernel_rfl
theorem cells36 : Tryd.prog.cellsOf 36 = 2 := by kernel_rfl
theorem cells38 : Tryd.prog.cellsOf 38 = 6 := by kernel_rfl
theorem list_of {α : Type} (P : Nat → α → Prop) : ∀ n, (∀ i, i < n → ∃ c, P i c) → ∃ cs : List α, cs.length = n ∧ ∀ i c, cs[i]? = some c → P i c
  | 0, _ => ⟨[], rfl, fun i c h => by simp at h⟩
  | n + 1, h => by
    obtain ⟨cs, hl, hc⟩ := list_of P n fun i hi => h i (by omega)
    obtain ⟨c, hP⟩ := h n (by omega)
    refine ⟨cs ++ [c], by simp [hl], fun i c' hi => ?_⟩
    by_cases hin : i < n
    · rw [List.getElem?_append_left (by omega)] at hi
      exact hc i c' hi
    · rw [List.getElem?_append_right (by omega)] at hi
      by_cases e0 : i - cs.length = 0
      · rw [e0] at hi
        cases hi
        rw [show i = n from by omega]
        exact hP
      · rw [List.getElem?_eq_none (by simp; omega)] at hi; cases hi
theorem spot_none {W : World} {a : Addr} {v : Value} (h : W.cell? a = some v) : ∃ b off, a = ⟨b, off, none⟩ := by
  obtain ⟨b, off, sp⟩ := a
  cases sp with
  | none => exact ⟨b, off, rfl⟩
  | some s =>
    unfold World.cell? at h
    split at h <;> simp at h
theorem weights_all {H : Type} {P : Program} {e : TypeId} : ∀ {ds : List (DataW H)} {i : Nat} {d : DataW H}, ds[i]? = some d → ∀ n ∈ d.weights P e, n ∈ DataW.weightsAll P e ds
  | d0 :: ds, 0, d, hd, n, hn => by
    simp only [List.getElem?_cons_zero, Option.some.injEq] at hd
    subst hd
    simp only [DataW.weightsAll, List.mem_append]
    exact .inl hn
  | d0 :: ds, i + 1, d, hd, n, hn => by
    simp only [List.getElem?_cons_succ] at hd
    simp only [DataW.weightsAll, List.mem_append]
    exact .inr (weights_all hd n hn)
  | [], _, _, hd, _, _ => by simp at hd
theorem uncons {α : Type} {l : List α} {n : Nat} (h : l.length = n + 1) : ∃ a t, l = a :: t ∧ t.length = n := by
  cases l with
  | nil => simp at h
  | cons a t => exact ⟨a, t, rfl, by simpa using h⟩
/-- Cells in a row. -/
def RowAt (W : World) (b off : Nat) (cs : List Value) : Prop := ∀ j v, cs[j]? = some v → W.cell? ⟨b, off + j, none⟩ = some v
theorem RowAt.below {W W' : World} {L b off : Nat} {cs : List Value} (h : RowAt W b off cs) (hb : Below L W W') (hL : b < L) : RowAt W' b off cs := fun j v hv => (hb.cell (p := ⟨b, off + j, none⟩) hL).trans (h j v hv)
theorem RowAt.lt {W : World} {b off : Nat} {cs : List Value} (h : RowAt W b off cs) (h0 : 0 < cs.length) : b < W.heap.size := World.block_lt_of_cell? W _ (h 0 _ (List.getElem?_eq_getElem h0))
def In64 (z : Int) : Prop := (-9223372036854775808 : Int) ≤ z ∧ z ≤ 9223372036854775807
def GO.row (o : GO) : List Value := [.int .i64 o.k, .int .i64 o.wh, .int .i64 o.a, .string ⟨o.n.toArray⟩, .int .i64 o.d, .int .i64 o.u]
def GO.okL (o : GO) : Prop := o.n.length ≤ 140737488351232
theorem RowAt.go {W : World} {b off : Nat} {o : GO} (h : RowAt W b off o.row) : GAt W b off o := ⟨h 0 _ rfl, h 1 _ rfl, h 2 _ rfl, h 3 _ rfl, h 4 _ rfl, h 5 _ rfl⟩
section
variable {H : Type} {enc : TypeId × Value → H} {W : World} {fuel : Nat} {cs : List Value} {x : DataW H × List MemPlace}
set_option maxRecDepth 100000
set_option maxHeartbeats 1600000
theorem t_int {t : TypeId} (hu : Tryd.prog.underlying t = some (.int .i64)) (h : DataW.trod enc Tryd.prog W 0 (fun _ => true) true fuel t cs = some x) : ∃ z, cs = [.int .i64 z] ∧ In64 z := by
  obtain ⟨z, e, _, hw⟩ := DataW.trod_int hu h
  have := bounds_i64 hw
  exact ⟨z, e, by unfold In64; omega⟩
theorem t_str {t : TypeId} (hu : Tryd.prog.underlying t = some .string) (h : DataW.trod enc Tryd.prog W 0 (fun _ => true) true fuel t cs = some x) (hw : ∀ n ∈ x.1.weights Tryd.prog t, n ≤ reachBytes) : ∃ s : List UInt8, cs = [.string ⟨s.toArray⟩] ∧ s.length ≤ 140737488351232 := by
  obtain ⟨s, e, hx, _⟩ := DataW.trod_string hu h
  refine ⟨s.data.toList, e, ?_⟩
  have := hw s.data.toList.length (by rw [hx]; simp [DataW.weights])
  exact this
theorem t_two {t : TypeId} {f0 f1 : Field} (hu : Tryd.prog.underlying t = some (.struct #[f0, f1])) (hc : Tryd.prog.cellsOf t = 2) (t0 : f0.type = 3) (t1 : f1.type = 3) (o0 : f0.offset = 0) (o1 : f1.offset = 1)
    (h : DataW.trod enc Tryd.prog W 0 (fun _ => true) true fuel t cs = some x) : ∃ a b, cs = [.int .i64 a, .int .i64 b] ∧ In64 a ∧ In64 b := by
  obtain ⟨xs, m, _, hx, hl, hxl, hf⟩ := DataW.trod_struct hu h
  have hxl' : xs.length = 2 := hxl
  rw [hc] at hl
  obtain ⟨c0, l1, rfl, k1⟩ := uncons hl
  obtain ⟨c1, l2, rfl, k2⟩ := uncons k1
  obtain rfl := List.eq_nil_of_length_eq_zero k2
  have h0 := hf 0 f0 rfl
  have h1 := hf 1 f1 rfl
  rw [t0, o0, cells3, List.getElem?_eq_getElem (by omega)] at h0
  rw [t1, o1, cells3, List.getElem?_eq_getElem (by omega)] at h1
  obtain ⟨a, ea, ha⟩ := t_int Tryd.underlying3 h0
  obtain ⟨b, eb, hb⟩ := t_int Tryd.underlying3 h1
  simp only [List.drop_zero, List.take_succ_cons, List.take_zero, List.cons.injEq, and_true, List.drop_succ_cons] at ea eb
  exact ⟨a, b, by rw [ea, eb], ha, hb⟩
theorem w_part {t t' : TypeId} {fs : Array Field} {xs : List (DataW H × List MemPlace)} {i : Nat} {y : DataW H × List MemPlace} (hu : Tryd.prog.underlying t = some (.struct fs)) (hx : x = (.agg (xs.map (·.1)), xs.flatMap (·.2))) (hw : ∀ n ∈ x.1.weights Tryd.prog t, n ≤ reachBytes)
    (ht : (fs.toList.map (·.type))[i]? = some t') (hy : xs[i]? = some y) : ∀ n ∈ y.1.weights Tryd.prog t', n ≤ reachBytes := by
  intro n hn
  refine hw n ?_
  rw [hx]
  simp only [DataW.weights, hu]
  exact DataW.weights_mem_each ht (by rw [List.getElem?_map, hy]; rfl) n hn
theorem t_go (h : DataW.trod enc Tryd.prog W 0 (fun _ => true) true fuel 38 cs = some x) (hw : ∀ n ∈ x.1.weights Tryd.prog 38, n ≤ reachBytes) :
    ∃ o : GO, cs = o.row ∧ o.okL := by
  obtain ⟨xs, mm, _, hx, hl, hxl, hf⟩ := DataW.trod_struct Tryd.underlying38 h
  have hxl' : xs.length = 5 := hxl
  rw [cells38] at hl
  obtain ⟨c0, l1, rfl, k1⟩ := uncons hl
  obtain ⟨c1, l2, rfl, k2⟩ := uncons k1
  obtain ⟨c2, l3, rfl, k3⟩ := uncons k2
  obtain ⟨c3, l4, rfl, k4⟩ := uncons k3
  obtain ⟨c4, l5, rfl, k5⟩ := uncons k4
  obtain ⟨c5, l6, rfl, k6⟩ := uncons k5
  obtain rfl := List.eq_nil_of_length_eq_zero k6
  have y0 : xs[0]? = some xs[0] := List.getElem?_eq_getElem (by omega)
  have h0 : DataW.trod enc Tryd.prog W 0 (fun _ => true) true mm 3 [c0] = some xs[0] := by
    have e : DataW.trod enc Tryd.prog W 0 (fun _ => true) true mm 3 (List.take (Tryd.prog.cellsOf 3) (List.drop 0 [c0, c1, c2, c3, c4, c5])) = xs[0]? := hf 0 _ rfl
    rw [cells3, y0] at e
    exact e
  obtain ⟨z0, e0, b0⟩ := t_int Tryd.underlying3 h0
  have y1 : xs[1]? = some xs[1] := List.getElem?_eq_getElem (by omega)
  have h1 : DataW.trod enc Tryd.prog W 0 (fun _ => true) true mm 3 [c1] = some xs[1] := by
    have e : DataW.trod enc Tryd.prog W 0 (fun _ => true) true mm 3 (List.take (Tryd.prog.cellsOf 3) (List.drop 1 [c0, c1, c2, c3, c4, c5])) = xs[1]? := hf 1 _ rfl
    rw [cells3, y1] at e
    exact e
  obtain ⟨z1, e1, b1⟩ := t_int Tryd.underlying3 h1
  have y2 : xs[2]? = some xs[2] := List.getElem?_eq_getElem (by omega)
  have h2 : DataW.trod enc Tryd.prog W 0 (fun _ => true) true mm 3 [c2] = some xs[2] := by
    have e : DataW.trod enc Tryd.prog W 0 (fun _ => true) true mm 3 (List.take (Tryd.prog.cellsOf 3) (List.drop 2 [c0, c1, c2, c3, c4, c5])) = xs[2]? := hf 2 _ rfl
    rw [cells3, y2] at e
    exact e
  obtain ⟨z2, e2, b2⟩ := t_int Tryd.underlying3 h2
  have y3 : xs[3]? = some xs[3] := List.getElem?_eq_getElem (by omega)
  have h3 : DataW.trod enc Tryd.prog W 0 (fun _ => true) true mm 9 [c3] = some xs[3] := by
    have e : DataW.trod enc Tryd.prog W 0 (fun _ => true) true mm 9 (List.take (Tryd.prog.cellsOf 9) (List.drop 3 [c0, c1, c2, c3, c4, c5])) = xs[3]? := hf 3 _ rfl
    rw [cells9, y3] at e
    exact e
  obtain ⟨s3, e3, b3⟩ := t_str Tryd.underlying9 h3 (w_part Tryd.underlying38 hx hw (i := 3) rfl y3)
  have y4 : xs[4]? = some xs[4] := List.getElem?_eq_getElem (by omega)
  have h4 : DataW.trod enc Tryd.prog W 0 (fun _ => true) true mm 36 [c4, c5] = some xs[4] := by
    have e : DataW.trod enc Tryd.prog W 0 (fun _ => true) true mm 36 (List.take (Tryd.prog.cellsOf 36) (List.drop 4 [c0, c1, c2, c3, c4, c5])) = xs[4]? := hf 4 _ rfl
    rw [cells36, y4] at e
    exact e
  obtain ⟨p4, q4, e4, b4, d4⟩ := t_two Tryd.underlying36 cells36 rfl rfl rfl rfl h4
  clear hf h hl
  cases e0; cases e1; cases e2; cases e3; cases e4
  exact ⟨⟨z0, z1, z2, s3, p4, q4⟩, rfl, b3⟩
/-- A slice that came in, whatever its elements. -/
theorem open_rows {α : Type} (T e : TypeId) (sz : Nat) (f : α → List Value) (ok : α → Prop) (hu : Tryd.prog.underlying T = some (.slice e)) (hc : Tryd.prog.cellsOf e = sz) (h1 : 0 < sz) (hfl : ∀ a, (f a).length = sz)
    (hel : ∀ (fuel : Nat) (cs : List Value) (x : DataW H × List MemPlace), DataW.trod enc Tryd.prog W 0 (fun _ => true) true fuel e cs = some x → (∀ n ∈ x.1.weights Tryd.prog e, n ≤ reachBytes) → ∃ a, cs = f a ∧ ok a)
    {base : Nat} {v : Value} {d : DataW H} {p : List MemPlace} (hval : Value.okWide Tryd.prog W .any base T v) (h0 : DataW.Trod enc Tryd.prog W 0 (fun _ => true) true T v d p) (hsz : ∀ n ∈ d.weights Tryd.prog T, n ≤ reachBytes) :
    ∃ (ao : Option Addr) (N cap : Nat) (os : List α), v = .slice ao N cap ∧ os.length = N ∧ N ≤ cap ∧ cap ≤ maxLen ∧ (∀ o ∈ os, ok o) ∧ (ao = none → N = 0 ∧ cap = 0) ∧ (0 < N → ∃ b off, ao = some ⟨b, off, none⟩ ∧ ∀ i o, os[i]? = some o → RowAt W b (off + i * sz) (f o)) := by
  obtain ⟨a0, len, cap, rfl⟩ := okWide_slice hu hval
  obtain ⟨fuel, hf⟩ := h0
  rcases DataW.trod_slice hu hf with ⟨hcs, hx⟩ | ⟨a, len', cap', elems, rest, m, _, hcs, hx, _, hl, hm, hel2, he, _, _⟩
  · have e : Value.slice a0 len cap = .slice none 0 0 := by simpa [Value.cells] using hcs
    cases e
    exact ⟨none, 0, 0, [], rfl, rfl, Nat.le_refl _, Nat.zero_le _, (fun c hc => by cases hc), fun _ => ⟨rfl, rfl⟩, fun h => by omega⟩
  · have e : Value.slice a0 len cap = .slice (some a) len' cap' := by simpa [Value.cells] using hcs
    cases e
    rw [hc] at he
    have hxd : d = .slice (elems.map (·.1)) (rest.map (·.1)) := (Prod.mk.inj hx).1
    obtain ⟨cs, hcl, hcc⟩ := list_of (fun i o => (∃ b off, a.add (i * sz) = ⟨b, off, none⟩ ∧ RowAt W b off (f o)) ∧ ok o) len fun i hi => by
      have h2 := he i hi
      rw [List.getElem?_eq_getElem (by omega), Option.bind_eq_some_iff] at h2
      obtain ⟨cs, hcs2, ht⟩ := h2
      obtain ⟨_, hl2, hcell⟩ := World.cells?_some hcs2
      obtain ⟨o, rfl, ho⟩ := hel _ _ _ ht fun n hn => hsz n (by
        rw [hxd]
        simp only [DataW.weights, hu]
        refine List.mem_cons.2 (.inr (List.mem_append.2 (.inl ?_)))
        exact weights_all (i := i) (d := elems[i].1) (by rw [List.getElem?_map, List.getElem?_eq_getElem (by omega)]; rfl) n hn)
      have a0 := hcell 0 (by omega)
      rw [List.getElem?_eq_getElem (by rw [hfl]; exact h1)] at a0
      obtain ⟨b, off, e2⟩ := spot_none (show W.cell? (a.add (i * sz)) = some _ from a0)
      refine ⟨o, ⟨b, off, e2, fun j v hv => ?_⟩, ho⟩
      have hj := (List.getElem?_eq_some_iff.1 hv).1
      have := hcell j (by rw [hfl] at hj; omega)
      rw [e2, addr_add, hv] at this
      exact this
    refine ⟨some a, len, cap, cs, rfl, hcl, hl, by omega, fun c hcm => ?_, (fun h => by cases h), fun hN => ?_⟩
    · obtain ⟨i, hi⟩ := List.getElem?_of_mem hcm
      exact (hcc i c hi).2
    · obtain ⟨⟨b, off, e0, _⟩, _⟩ := hcc 0 cs[0] (List.getElem?_eq_getElem (by omega))
      rw [Nat.zero_mul, show a.add 0 = a from rfl] at e0
      subst e0
      refine ⟨b, off, rfl, fun i c hi => ?_⟩
      obtain ⟨⟨b2, off2, e2, h2⟩, _⟩ := hcc i c hi
      rw [addr_add] at e2
      cases e2
      exact h2
end
/-- A world for the witness: the errors as their initialisers lay them. -/
noncomputable def low : Nat := (World.holding Tryd.prog default ⟨#[], #[], []⟩).heap.size
noncomputable def laidWorld (os : Os) : World :=
  let w0 := World.holding Tryd.prog os ⟨#[.cells #[.string ⟨#[108, 101, 100, 103, 101, 114, 58, 32, 97, 32, 110, 117, 109, 98, 101, 114, 32, 116, 104, 97, 116, 32, 109, 97, 121, 32, 110, 111, 116, 32, 98, 101]⟩] 173, .cells #[.string ⟨#[108, 101, 100, 103, 101, 114, 58, 32, 109, 111, 114, 101, 32, 116, 104, 97, 110, 32, 116, 104, 101, 32, 99, 97, 112, 32, 104, 97, 115, 32, 114, 111, 111, 109, 32, 102, 111, 114]⟩] 173, .cells #[.string ⟨#[108, 101, 100, 103, 101, 114, 58, 32, 102, 101, 119, 101, 114, 32, 114, 105, 103, 104, 116, 115, 32, 116, 104, 97, 110, 32, 97, 114, 101, 32, 97, 115, 107, 101, 100, 32, 102, 111, 114]⟩] 173], #[], []⟩
  { w0 with heap := ((w0.heap.modify 0 fun
      | .cells _ t frozen => .cells #[.iface 149 (.pointer (some ⟨low, 0, none⟩))] t frozen
      | o => o).modify 1 fun
      | .cells _ t frozen => .cells #[.iface 149 (.pointer (some ⟨low + 1, 0, none⟩))] t frozen
      | o => o).modify 2 fun
      | .cells _ t frozen => .cells #[.iface 149 (.pointer (some ⟨low + 2, 0, none⟩))] t frozen
      | o => o }
end Go.Proofs.YtjmbhaoehfdpoaaDoor
namespace Go.Proofs.YtjmbhaoehfdpoaaDoor.gossipApart
open Go.ChangeShapes Go.WideShapes Go.ChangeAt Go.RowKit Go.WideMaps Go.WideElems

set_option maxRecDepth 100000 in
set_option maxHeartbeats 1600000 in
theorem contract (H : Type) (enc : TypeId × Value → H) (W : World) (base : Nat) (args : Array Value) (ds gs : List (DataW H)) (before : List MemPlace)
    (hval : ∀ (j : Nat) t v, Tryd.f3.params[j]? = some t → args[j]? = some v → Value.okWide Tryd.prog W .any base t v)
    (hW : DataW.Whole enc Tryd.prog Tryd.f3.params.toList Rows.gossipApartSpec.vars false W args.toList ds gs before) (hL : laidMetH Tryd.prog Rows.gossipApartRow.laid W)
    (hsz : (DataW.weightsEach Tryd.prog (Tryd.f3.params.toList ++ (OpenSpec.ofChange Rows.gossipApartSpec).bare.plain.varTypes Tryd.prog) (ds ++ gs)).all (· ≤ reachBytes) = true) :
    Calls Tryd.prog 3 args W fun e W' => ∃ v, e = .returned v ∧ Rows.gossipApartSpec.post enc Tryd.prog Tryd.f3 false true false false W args v W' := by
  obtain ⟨S, hS⟩ := sen_of hL
  have hW' := hW
  obtain ⟨p, q, hA0, hV, rfl, hfz, hnd⟩ := hW
  have hA : DataW.TrodAll enc Tryd.prog W 0 (fun _ => true) true Tryd.f3.params.toList args.toList ds p := hA0
  rw [Tryd.params3] at hA hval
  obtain ⟨v0, vs0, d0, ds0, p0, q0, hargs, rfl, rfl, h0, r0⟩ := trodAll_cons hA
  obtain ⟨v1, vs1, d1, ds1, p1, q1, rfl, rfl, rfl, h1, r1⟩ := trodAll_cons r0
  obtain ⟨v2, vs2, d2, ds2, p2, q2, rfl, rfl, rfl, h2, r2⟩ := trodAll_cons r1
  obtain ⟨rfl, rfl, rfl⟩ := trodAll_nil r2
  obtain rfl : args = #[v0, v1, v2] := by cases args; simp_all
  obtain ⟨rfl, rfl⟩ := trodVars_none hV
  clear hA0 r0 r1 r2 hA
  have hlt2 : ∀ x ∈ p2, x.block < W.heap.size := fun x hx => hW'.lt x (by simp [hx])
  obtain ⟨z0, rfl, rfl, rfl, w0⟩ := open_int Tryd.underlying3 (hval 0 3 v0 rfl rfl) h0
  obtain ⟨z1, rfl, rfl, rfl, w1⟩ := open_int Tryd.underlying3 (hval 1 3 v1 rfl rfl) h1
  have hw2 : ∀ n ∈ d2.weights Tryd.prog 22, n ≤ reachBytes := fun n hn => by
    have := List.all_eq_true.1 hsz n (DataW.weights_mem_each (j := 2) (t := 22) (d := d2) (by rw [Tryd.params3]; rfl) rfl n hn)
    simpa using this
  obtain ⟨ao, N, cap, os, rfl, hl, hnc, hcm, hok, hnl, hat⟩ := open_rows 22 38 6 GO.row GO.okL Tryd.underlying22 cells38 (by decide) (fun _ => rfl) (fun _ _ _ h hw => t_go h hw) (hval 2 22 v2 rfl rfl) h2 hw2
  refine (apart_law z0 z1 (by have := bounds_i64 w0; omega) (by have := bounds_i64 w1; omega) ao N cap os W hS (Nat.le_refl _) hl (fun h => by obtain ⟨b, off, e, h2⟩ := hat h; exact ⟨b, off, e, fun j o ho => (h2 j o ho).go⟩) hok).mono fun e W' ⟨he, hbl⟩ => ?_
  subst he
  exact ⟨_, rfl, _, _, _, [], _, [], hW', trodAll_cons_mk (shut_bool Tryd.underlying4 _) trodAll_mk0, (trodAll_cons_mk (shut_int Tryd.underlying3 w0) (trodAll_cons_mk (shut_int Tryd.underlying3 w1) (trodAll_cons_mk (Below.trod laidOut (by kernel_rfl) (of_decide_eq_true (by kernel_rfl)) h2 hbl hlt2) trodAll_mk0))), rfl, hbl.frame _, fun h => by cases h⟩

theorem laid_met (os : Os) : laidMet Tryd.prog Rows.gossipApartRow.laid ((laidWorld os).forCall (fun _ _ => 0) ⟨#[], #[.int .i64 0, .int .i64 0, .slice none 0 0], []⟩).memory :=
  laidMet_of_run' 8 (by kernel_rfl) (by kernel_rfl)
theorem reads (os : Os) {H : Type} (enc : TypeId × Value → H) : ∃ places, DataW.whole enc Tryd.prog ((laidWorld os).forCall (fun _ _ => 0) ⟨#[], #[.int .i64 0, .int .i64 0, .slice none 0 0], []⟩).memory Tryd.f3.params.toList Rows.gossipApartSpec.vars false #[Value.int .i64 0, Value.int .i64 0, Value.slice none 0 0].toList 8 = some ([.lit (.int .i64 0), .lit (.int .i64 0), .nil], [], places) :=
  ⟨[], by kernel_rfl⟩

set_option maxRecDepth 100000 in
theorem lifted (os : Os) (started : os.Started) (H : Type) (enc : TypeId × Value → H) (F : Stop.Interp) :
    ReturnsInHanded {} Tryd.checked os 3 .any ((OpenSpec.ofChange Rows.gossipApartSpec).preRow enc Tryd.prog Tryd.f3 Rows.gossipApartRow.domain false Rows.gossipApartRow.laid) (((OpenSpec.ofChange Rows.gossipApartSpec).at F).post enc Tryd.prog Tryd.f3 false true false false) := by
  obtain ⟨places, hx⟩ := reads os enc
  refine returnsInHanded_of_row (C := Tryd.checked) (s := OpenSpec.ofChange Rows.gossipApartSpec) ownKn started (by kernel_rfl) Tryd.func3
    (witness_row_at (enc := enc) (C := Tryd.checked) false (laidWorld os) #[.int .i64 0, .int .i64 0, .slice none 0 0] rfl (by kernel_rfl) (by kernel_rfl) (by kernel_rfl)
      (OpenSpec.preRow_of_cond 8 hx (by kernel_rfl) (fun k hk => by cases hk) (by kernel_rfl) (laid_met os))) ?_
  intro W base args ds gs before hval hW _ _ hsz hL _ _
  exact contract H enc W base args ds gs before hval hW hL hsz

theorem said : Rows.GossipApartSaid :=
  OpenClaim.holds_of_cond 3 Tryd.f3 rfl rfl rfl rfl rfl rfl rfl ⟨rfl, rfl, rfl, rfl, rfl⟩ rfl rfl rfl rfl rfl (by kernel_rfl) Tryd.func3 (by kernel_rfl)
    (of_decide_eq_true (by kernel_rfl)) (by unfold Func.isWrapper; first | (rw [if_pos (by decide +kernel)]; kernel_rfl) | (rw [if_neg (by decide +kernel)]; exact ⟨rfl, rfl⟩))
    (fun os started H enc _ F => by rw [OpenClaim.pre_eq_preRow]; exact lifted os started H enc F)

theorem plain (f : FuncId) (fn : Func) (hf : Tryd.pinned.checked.prog.funcNamed "sluice/sluicelaw12.GossipApart" = some f) (hfn : Tryd.pinned.checked.prog.funcs[f]? = some fn) :
    true = Tryd.pinned.checked.prog.looks [] ∧ ∀ (j : Nat) t, fn.params[j]? = some t → Tryd.pinned.checked.prog.wantsStandIn t = false := by
  obtain rfl : f = 3 := Option.some.inj ((show Tryd.prog.funcNamed "sluice/sluicelaw12.GossipApart" = some 3 by kernel_rfl).symm.trans hf) |>.symm
  obtain rfl : fn = Tryd.f3 := (Option.some.inj (Tryd.func3.symm.trans hfn)).symm
  refine ⟨by kernel_rfl, fun j t ht => ?_⟩
  rw [Tryd.params3] at ht
  have hm : t = 3 ∨ t = 22 := by
    have := Array.mem_of_getElem? ht
    simp at this
    omega
  rcases hm with rfl | rfl
  · exact (show Tryd.prog.wantsStandIn 3 = false by kernel_rfl)
  · exact (show Tryd.prog.wantsStandIn 22 = false by kernel_rfl)
end Go.Proofs.YtjmbhaoehfdpoaaDoor.gossipApart

namespace Go.Proofs.YtjmbhaoehfdpoaaDoor
theorem gossipApart_card : Rows.GossipApartCardSaid :=
  Claim7.holds_tied_plain_at .later [] _ _ _ _ gossipApart.said (fun _ h => by cases h) (by kernel_rfl) (fun _ h => by cases h) gossipApart_row_tie rfl ⟨rfl, rfl⟩ (by kernel_rfl) rfl gossipApart.plain (by kernel_rfl)
end Go.Proofs.YtjmbhaoehfdpoaaDoor
