import Derived.Test.YtkdndfdofhnagaaDoorCards
import Derived.Test.YtkdndfdofhnagaaDoorTie
import Derived.Test.YtkdndfdofhnagaaDoorBack
import Derived.WalkKit
import Derived.ProofKit
import Derived.OpenShut
import Derived.Deep.DeepHandedRow
import Derived.MakeChecks
namespace Go.Proofs.YtkdndfdofhnagaaDoor
open Go.ChangeShapes Go.WideShapes Go.ChangeAt Go.RowKit Go.WideMaps Go.WideElems Go.PlainAid
set_option linter.unusedVariables false
theorem own : ownKnob Tryd.prog.godebug = none := by kernel_rfl
theorem laidOut : laidOutB Tryd.prog = true := by kernel_rfl
theorem gArg : Tryd.prog.globalNamed "sluice/ledger.errArg" = some 0 := by kernel_rfl
theorem gCap : Tryd.prog.globalNamed "sluice/ledger.errCap" = some 1 := by kernel_rfl
theorem gRights : Tryd.prog.globalNamed "sluice/ledger.errRights" = some 2 := by kernel_rfl
theorem gArgT : (Tryd.prog.globals[0]?).map (·.type) = some 73 := by kernel_rfl
theorem gCapT : (Tryd.prog.globals[1]?).map (·.type) = some 73 := by kernel_rfl
theorem gRightsT : (Tryd.prog.globals[2]?).map (·.type) = some 73 := by kernel_rfl
theorem cells167 : Tryd.prog.cellsOf 167 = 1 := by kernel_rfl
theorem cells9 : Tryd.prog.cellsOf 9 = 1 := by kernel_rfl
theorem cells3 : Tryd.prog.cellsOf 3 = 1 := by kernel_rfl
theorem cells29 : Tryd.prog.cellsOf 29 = 4 := by kernel_rfl
theorem star : "*" ++ "errors.errorString" = "*errors.errorString" := by decide
theorem row143 (u : TypeId) (h : Tryd.prog.typeName? 3 u = some "*errors.errorString") : u = 143 :=
  typeName_ptr_named (nm := "errors.errorString") (by rw [star]; kernel_rfl) (by kernel_rfl) (by decide) u (by rw [star]; exact h)
/-- What the row's list gives: the three errors. -/
theorem sen_of {W : World} (h : laidMetH Tryd.prog [("sluice/ledger.errArg", Rows.laid_sluice_ledger_errArg), ("sluice/ledger.errRights", Rows.laid_sluice_ledger_errRights), ("sluice/ledger.errCap", Rows.laid_sluice_ledger_errCap)] W) : ∃ S, Sen S W.heap.size W := by
  rw [Go.MakeChecks.laidMetH_plain _ _ _ (by rfl)] at h
  obtain ⟨a0, a2, s0, s2, c0, c2, t0, t2, hv0, hv2, hc0, hs0, _, hc2, hs2, _, hne02, hb0, hb2⟩ := laid_sentinels2 h gArg gArgT gRights gRightsT Tryd.underlying73 row143 Tryd.underlying143 Tryd.underlying167 rfl rfl Tryd.underlying9 cells167 cells9
  obtain ⟨b2, a1, s2', s1, c2', c1, t2', t1, hv2', hv1, hc2', hs2', _, hc1, hs1, _, hne21, hb2', hb1⟩ := laid_sentinels2 h.tail gRights gRightsT gCap gCapT Tryd.underlying73 row143 Tryd.underlying143 Tryd.underlying167 rfl rfl Tryd.underlying9 cells167 cells9
  have e : a2 = b2 := by
    have := hv2.symm.trans hv2'
    simpa using this
  subst e
  have hne01 : a0 ≠ a1 := fun e => by
    subst e
    have e2 : s0 = s1 := by simpa using hc0.symm.trans hc1
    subst e2
    exact absurd (hs0.symm.trans hs1) (by decide)
  have hlt : ∀ (a : Addr) c t, W.heap[a.block]? = some (Obj.cells c t (0, 0)) → a.block < W.heap.size := fun a c t h => (Array.getElem?_eq_some_iff.1 h).1
  have x0 : W.cell? ⟨0, 0, none⟩ = some (.iface 143 (.pointer (some a0))) := by simpa using World.var?_cell gArg hv0 0
  have x1 : W.cell? ⟨1, 0, none⟩ = some (.iface 143 (.pointer (some a1))) := by simpa using World.var?_cell gCap hv1 0
  have x2 : W.cell? ⟨2, 0, none⟩ = some (.iface 143 (.pointer (some a2))) := by simpa using World.var?_cell gRights hv2 0
  have := World.block_lt_of_cell? _ _ x2
  exact ⟨⟨a0, a1, a2⟩, x0, x1, x2, hne01, hne02, Ne.symm hne21, ⟨_, _, hb0⟩, ⟨_, _, hb1⟩, ⟨_, _, hb2⟩, ⟨hlt _ _ _ hb0, hlt _ _ _ hb1, hlt _ _ _ hb2, this⟩⟩
theorem list_of {α : Type} (P : Nat → α → Prop) : ∀ n, (∀ i, i < n → ∃ c, P i c) → ∃ cs : List α, cs.length = n ∧ ∀ i c, cs[i]? = some c → P i c
  | 0, _ => ⟨[], rfl, fun i c h => by simp at h⟩
  | n + 1, h => by
    obtain ⟨cs, hl, hc⟩ := list_of P n fun i hi => h i (by omega)
    obtain ⟨c, hP⟩ := h n (by omega)
    refine ⟨cs ++ [c], by simp [hl], fun i c' hi => ?_⟩
    by_cases hin : i < n
    · rw [List.getElem?_append_left (by omega)] at hi
      exact hc i c' hi
    · rw [List.getElem?_append_right (by omega)] at hi
      by_cases e0 : i - cs.length = 0
      · rw [e0] at hi
        cases hi
        rw [show i = n from by omega]
        exact hP
      · rw [List.getElem?_eq_none (by simp; omega)] at hi; cases hi

theorem spot_none {W : World} {a : Addr} {v : Value} (h : W.cell? a = some v) : ∃ b off, a = ⟨b, off, none⟩ := by
  obtain ⟨b, off, sp⟩ := a
  cases sp with
  | none => exact ⟨b, off, rfl⟩
  | some s =>
    unfold World.cell? at h
    split at h <;> simp at h
theorem add_zero' (ad : Addr) : ad.add 0 = ad := rfl
theorem wrap_of {n : Int} (h : (Lit.int .i64 n).wf = true) : IntKind.i64.wrap n = n := by
  have := bounds_i64 h
  rw [IntKind.wrap_i64]; omega
set_option maxRecDepth 100000 in
theorem open_op {H : Type} {enc : TypeId × Value → H} {W : World} {fuel : Nat} {ad : Addr} {y : DataW H × List MemPlace}
    (h : (W.cells? 0 ad 4).bind (DataW.trod enc Tryd.prog W 0 (fun _ => true) true fuel 29) = some y) : ∃ o b off, ad = ⟨b, off, none⟩ ∧ OpAt W b off o := by
  rw [Option.bind_eq_some_iff] at h
  obtain ⟨cs, hcs, ht⟩ := h
  obtain ⟨_, hl, hcell⟩ := World.cells?_some hcs
  obtain ⟨xs, m, _, hx, _, hxl, hf⟩ := DataW.trod_struct Tryd.underlying29 ht
  have hxl' : xs.length = 4 := hxl
  have f0 := hf 0 _ rfl
  have f1 := hf 1 _ rfl
  have f2 := hf 2 _ rfl
  have f3 := hf 3 _ rfl
  rw [List.getElem?_eq_getElem (by omega)] at f0 f1 f2 f3
  obtain ⟨z0, e0, _, w0⟩ := DataW.trod_int Tryd.underlying3 f0
  obtain ⟨z1, e1, _, w1⟩ := DataW.trod_int Tryd.underlying3 f1
  obtain ⟨z2, e2, _, w2⟩ := DataW.trod_int Tryd.underlying3 f2
  obtain ⟨z3, e3, _⟩ := DataW.trod_bool Tryd.underlying4 f3
  have at_ : ∀ (k : Nat) (v : Value), (cs.drop k).take 1 = [v] → cs[k]? = some v := fun k v e => by
    have := congrArg (fun l => l[0]?) e
    simpa [List.getElem?_take, List.getElem?_drop] using this
  have g0 : cs[0]? = some (.int .i64 z0) := at_ 0 _ e0
  have a0 : W.cell? ad = some (.int .i64 z0) := by
    have := hcell 0 (by omega)
    rw [g0] at this
    exact this
  obtain ⟨b, off, rfl⟩ := spot_none a0
  have hc : ∀ j, j < 4 → W.cell? ⟨b, off + j, none⟩ = cs[j]? := fun j hj => by
    have := hcell j (by omega)
    rwa [addr_add] at this
  exact ⟨⟨z0, z1, z2, z3⟩, b, off, rfl, a0, (hc 1 (by omega)).trans (at_ 1 _ e1), (hc 2 (by omega)).trans (at_ 2 _ e2), (hc 3 (by omega)).trans (at_ 3 _ e3), wrap_of w1, wrap_of w2⟩
set_option maxRecDepth 100000 in
/-- The script that came in. -/
theorem open_ops {H : Type} {enc : TypeId × Value → H} {W : World} {base : Nat} {v : Value} {d : DataW H} {p : List MemPlace}
    (hval : Value.okWide Tryd.prog W .any base 22 v) (h0 : DataW.Trod enc Tryd.prog W 0 (fun _ => true) true 22 v d p) :
    ∃ (ao : Option Addr) (N cap : Nat) (os : List OpA), v = .slice ao N cap ∧ os.length = N ∧ N ≤ maxLen ∧ (0 < N → ∃ b off, ao = some ⟨b, off, none⟩ ∧ ∀ i o, os[i]? = some o → OpAt W b (off + i * 4) o) := by
  obtain ⟨a0, len, cap, rfl⟩ := okWide_slice Tryd.underlying22 hval
  obtain ⟨fuel, hf⟩ := h0
  rcases DataW.trod_slice Tryd.underlying22 hf with ⟨hcs, hx⟩ | ⟨a, len', cap', elems, rest, m, _, hcs, hx, _, hl, hm, hel, he, _, _⟩
  · have e : Value.slice a0 len cap = .slice none 0 0 := by simpa [Value.cells] using hcs
    cases e
    exact ⟨none, 0, 0, [], rfl, rfl, Nat.zero_le _, fun h => by omega⟩
  · have e : Value.slice a0 len cap = .slice (some a) len' cap' := by simpa [Value.cells] using hcs
    cases e
    rw [cells29] at he
    obtain ⟨cs, hcl, hc⟩ := list_of (fun i o => ∃ b off, a.add (i * 4) = ⟨b, off, none⟩ ∧ OpAt W b off o) len fun i hi => by
      have h1 := he i hi
      rw [List.getElem?_eq_getElem (by omega)] at h1
      exact open_op h1
    refine ⟨some a, len, cap, cs, rfl, hcl, by omega, fun hN => ?_⟩
    obtain ⟨b, off, e0, _⟩ := hc 0 cs[0] (List.getElem?_eq_getElem (by omega))
    rw [Nat.zero_mul, add_zero'] at e0
    subst e0
    refine ⟨b, off, rfl, fun i c hi => ?_⟩
    obtain ⟨b2, off2, e2, h2⟩ := hc i c hi
    rw [addr_add] at e2
    cases e2
    exact h2
set_option maxRecDepth 100000 in
/-- Numbers that came in. -/
theorem open_nums {H : Type} {enc : TypeId × Value → H} {W : World} {base : Nat} {v : Value} {d : DataW H} {p : List MemPlace}
    (hval : Value.okWide Tryd.prog W .any base 48 v) (h0 : DataW.Trod enc Tryd.prog W 0 (fun _ => true) true 48 v d p) :
    ∃ (ao : Option Addr) (N cap : Nat) (zs : List Int), v = .slice ao N cap ∧ N ≤ maxLen ∧ zs.length = N ∧ (0 < N → ∃ b off, ao = some ⟨b, off, none⟩ ∧ ∀ (j : Nat) (z : Int), zs[j]? = some z → W.cell? ⟨b, off + j, none⟩ = some (.int .i64 z)) := by
  obtain ⟨a0, len, cap, rfl⟩ := okWide_slice Tryd.underlying48 hval
  obtain ⟨fuel, hf⟩ := h0
  rcases DataW.trod_slice Tryd.underlying48 hf with ⟨hcs, hx⟩ | ⟨a, len', cap', elems, rest, m, _, hcs, hx, _, hl, hm, hel, he, _, _⟩
  · have e : Value.slice a0 len cap = .slice none 0 0 := by simpa [Value.cells] using hcs
    cases e
    exact ⟨none, 0, 0, [], rfl, Nat.zero_le _, rfl, fun h => by omega⟩
  · have e : Value.slice a0 len cap = .slice (some a) len' cap' := by simpa [Value.cells] using hcs
    cases e
    rw [cells3] at he
    obtain ⟨cs, hcl, hc⟩ := list_of (fun i z => ∃ b off, a.add (i * 1) = ⟨b, off, none⟩ ∧ W.cell? ⟨b, off, none⟩ = some (.int .i64 z)) len fun i hi => by
      have h1 := he i hi
      rw [List.getElem?_eq_getElem (by omega)] at h1
      rw [Option.bind_eq_some_iff] at h1
      obtain ⟨cs, hcs, ht⟩ := h1
      obtain ⟨_, hl1, hcell⟩ := World.cells?_some hcs
      obtain ⟨z, ez, _, _⟩ := DataW.trod_int Tryd.underlying3 ht
      have hz : cs[0]? = some (.int .i64 z) := by rw [ez]; rfl
      have := hcell 0 (by omega)
      rw [hz, add_zero'] at this
      obtain ⟨b, off, e2⟩ := spot_none this
      exact ⟨z, b, off, e2, by rw [← e2]; exact this⟩
    refine ⟨some a, len, cap, cs, rfl, by omega, hcl, fun hN => ?_⟩
    obtain ⟨b, off, e0, _⟩ := hc 0 cs[0] (List.getElem?_eq_getElem (by omega))
    rw [Nat.zero_mul, add_zero'] at e0
    subst e0
    refine ⟨b, off, rfl, fun i c hi => ?_⟩
    obtain ⟨b2, off2, e2, h2⟩ := hc i c hi
    rw [addr_add, Nat.mul_one] at e2
    cases e2
    exact h2
/-- A world for the witness: the errors as their initialisers lay them. -/
noncomputable def low : Nat := (World.holding Tryd.prog default ⟨#[], #[], []⟩).heap.size
noncomputable def laidWorld (os : Os) : World :=
  let w0 := World.holding Tryd.prog os ⟨#[.cells #[.string ⟨#[108, 101, 100, 103, 101, 114, 58, 32, 97, 32, 110, 117, 109, 98, 101, 114, 32, 116, 104, 97, 116, 32, 109, 97, 121, 32, 110, 111, 116, 32, 98, 101]⟩] 167, .cells #[.string ⟨#[108, 101, 100, 103, 101, 114, 58, 32, 109, 111, 114, 101, 32, 116, 104, 97, 110, 32, 116, 104, 101, 32, 99, 97, 112, 32, 104, 97, 115, 32, 114, 111, 111, 109, 32, 102, 111, 114]⟩] 167, .cells #[.string ⟨#[108, 101, 100, 103, 101, 114, 58, 32, 102, 101, 119, 101, 114, 32, 114, 105, 103, 104, 116, 115, 32, 116, 104, 97, 110, 32, 97, 114, 101, 32, 97, 115, 107, 101, 100, 32, 102, 111, 114]⟩] 167], #[], []⟩
  { w0 with heap := ((w0.heap.modify 0 fun
      | .cells _ t frozen => .cells #[.iface 143 (.pointer (some ⟨low, 0, none⟩))] t frozen
      | o => o).modify 1 fun
      | .cells _ t frozen => .cells #[.iface 143 (.pointer (some ⟨low + 1, 0, none⟩))] t frozen
      | o => o).modify 2 fun
      | .cells _ t frozen => .cells #[.iface 143 (.pointer (some ⟨low + 2, 0, none⟩))] t frozen
      | o => o }
end Go.Proofs.YtkdndfdofhnagaaDoor
