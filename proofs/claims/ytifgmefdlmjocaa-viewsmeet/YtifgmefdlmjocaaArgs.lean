import Derived.Test.YtifgmefdlmjocaaRows
import Derived.Test.YtifgmefdlmjocaaLt3
import Derived.WalkKit
import Derived.ProofKit
import Derived.OpenShut
import Derived.SizedLaws
import Derived.Deep.DeepHandedRow
namespace Go.Proofs.Ytifgmefdlmjocaa
open Go.ChangeShapes Go.WideShapes Go.ChangeAt Go.RowKit Go.WideMaps Go.WideElems Go.PlainAid
set_option linter.unusedVariables false
theorem own_knob : ownKnob Try.prog.godebug = none := by kernel_rfl
theorem laidOut : laidOutB Try.prog = true := by kernel_rfl
theorem cells29 : Try.prog.cellsOf 29 = 7 := by kernel_rfl
theorem list_of {α : Type} (P : Nat → α → Prop) : ∀ n, (∀ i, i < n → ∃ c, P i c) → ∃ cs : List α, cs.length = n ∧ ∀ i c, cs[i]? = some c → P i c
  | 0, _ => ⟨[], rfl, fun i c h => by simp at h⟩
  | n + 1, h => by
    obtain ⟨cs, hl, hc⟩ := list_of P n fun i hi => h i (by omega)
    obtain ⟨c, hP⟩ := h n (by omega)
    refine ⟨cs ++ [c], by simp [hl], fun i c' hi => ?_⟩
    by_cases hin : i < n
    · rw [List.getElem?_append_left (by omega)] at hi
      exact hc i c' hi
    · rw [List.getElem?_append_right (by omega)] at hi
      by_cases e0 : i - cs.length = 0
      · rw [e0] at hi
        cases hi
        rw [show i = n from by omega]
        exact hP
      · rw [List.getElem?_eq_none (by simp; omega)] at hi; cases hi

theorem spot_none {W : World} {a : Addr} {v : Value} (h : W.cell? a = some v) : ∃ b off, a = ⟨b, off, none⟩ := by
  obtain ⟨b, off, sp⟩ := a
  cases sp with
  | none => exact ⟨b, off, rfl⟩
  | some s =>
    unfold World.cell? at h
    split at h <;> simp at h
theorem add_zero' (ad : Addr) : ad.add 0 = ad := rfl
theorem wrap_of {n : Int} (h : (Lit.int .i64 n).wf = true) : IntKind.i64.wrap n = n := by
  have := bounds_i64 h
  rw [IntKind.wrap_i64]; omega
set_option maxRecDepth 100000 in
theorem open_say {H : Type} {enc : TypeId × Value → H} {W : World} {fuel : Nat} {ad : Addr} {y : DataW H × List MemPlace}
    (h : (W.cells? 0 ad 7).bind (DataW.trod enc Try.prog W 0 (fun _ => true) true fuel 29) = some y) : ∃ o b off, ad = ⟨b, off, none⟩ ∧ SayAt W b off o := by
  rw [Option.bind_eq_some_iff] at h
  obtain ⟨cs, hcs, ht⟩ := h
  obtain ⟨_, hl, hcell⟩ := World.cells?_some hcs
  obtain ⟨xs, m, _, hx, _, hxl, hf⟩ := DataW.trod_struct Try.underlying29 ht
  have hxl' : xs.length = 7 := hxl
  have f0 := hf 0 _ rfl
  have f1 := hf 1 _ rfl
  have f2 := hf 2 _ rfl
  have f3 := hf 3 _ rfl
  have f4 := hf 4 _ rfl
  have f5 := hf 5 _ rfl
  have f6 := hf 6 _ rfl
  rw [List.getElem?_eq_getElem (by omega)] at f0 f1 f2 f3 f4 f5 f6
  obtain ⟨z0, e0, _, w0⟩ := DataW.trod_int Try.underlying3 f0
  obtain ⟨z1, e1, _, w1⟩ := DataW.trod_int Try.underlying3 f1
  obtain ⟨z2, e2, _, w2⟩ := DataW.trod_int Try.underlying3 f2
  obtain ⟨z3, e3, _, w3⟩ := DataW.trod_int Try.underlying3 f3
  obtain ⟨z4, e4, _, w4⟩ := DataW.trod_int Try.underlying3 f4
  obtain ⟨z5, e5, _, w5⟩ := DataW.trod_int Try.underlying3 f5
  obtain ⟨z6, e6, _, w6⟩ := DataW.trod_int Try.underlying3 f6
  have at_ : ∀ (k : Nat) (v : Value), (cs.drop k).take 1 = [v] → cs[k]? = some v := fun k v e => by
    have := congrArg (fun l => l[0]?) e
    simpa [List.getElem?_take, List.getElem?_drop] using this
  have g0 : cs[0]? = some (.int .i64 z0) := at_ 0 _ e0
  have a0 : W.cell? ad = some (.int .i64 z0) := by
    have := hcell 0 (by omega)
    rw [g0] at this
    exact this
  obtain ⟨b, off, rfl⟩ := spot_none a0
  have hc : ∀ j, j < 7 → W.cell? ⟨b, off + j, none⟩ = cs[j]? := fun j hj => by
    have := hcell j (by omega)
    rwa [addr_add] at this
  exact ⟨⟨z0, z1, z2, z3, z4, z5, z6⟩, b, off, rfl, a0, (hc 1 (by omega)).trans (at_ 1 _ e1), (hc 2 (by omega)).trans (at_ 2 _ e2), (hc 3 (by omega)).trans (at_ 3 _ e3), (hc 4 (by omega)).trans (at_ 4 _ e4), (hc 5 (by omega)).trans (at_ 5 _ e5), (hc 6 (by omega)).trans (at_ 6 _ e6), bounds_i64 w3, bounds_i64 w4, bounds_i64 w5, bounds_i64 w6⟩
set_option maxRecDepth 100000 in
/-- The script that came in. -/
theorem open_says {H : Type} {enc : TypeId × Value → H} {W : World} {base : Nat} {v : Value} {d : DataW H} {p : List MemPlace}
    (hval : Value.okWide Try.prog W .any base 22 v) (h0 : DataW.Trod enc Try.prog W 0 (fun _ => true) true 22 v d p) :
    ∃ (ao : Option Addr) (N cap : Nat) (os : List SayA), v = .slice ao N cap ∧ os.length = N ∧ N ≤ maxLen ∧ (0 < N → ∃ b off, ao = some ⟨b, off, none⟩ ∧ ∀ i o, os[i]? = some o → SayAt W b (off + i * 7) o) := by
  obtain ⟨a0, len, cap, rfl⟩ := okWide_slice Try.underlying22 hval
  obtain ⟨fuel, hf⟩ := h0
  rcases DataW.trod_slice Try.underlying22 hf with ⟨hcs, hx⟩ | ⟨a, len', cap', elems, rest, m, _, hcs, hx, _, hl, hm, hel, he, _, _⟩
  · have e : Value.slice a0 len cap = .slice none 0 0 := by simpa [Value.cells] using hcs
    cases e
    exact ⟨none, 0, 0, [], rfl, rfl, Nat.zero_le _, fun h => by omega⟩
  · have e : Value.slice a0 len cap = .slice (some a) len' cap' := by simpa [Value.cells] using hcs
    cases e
    rw [cells29] at he
    obtain ⟨cs, hcl, hc⟩ := list_of (fun i o => ∃ b off, a.add (i * 7) = ⟨b, off, none⟩ ∧ SayAt W b off o) len fun i hi => by
      have h1 := he i hi
      rw [List.getElem?_eq_getElem (by omega)] at h1
      exact open_say h1
    refine ⟨some a, len, cap, cs, rfl, hcl, by omega, fun hN => ?_⟩
    obtain ⟨b, off, e0, _⟩ := hc 0 cs[0] (List.getElem?_eq_getElem (by omega))
    rw [Nat.zero_mul, add_zero'] at e0
    subst e0
    refine ⟨b, off, rfl, fun i c hi => ?_⟩
    obtain ⟨b2, off2, e2, h2⟩ := hc i c hi
    rw [addr_add] at e2
    cases e2
    exact h2
end Go.Proofs.Ytifgmefdlmjocaa
