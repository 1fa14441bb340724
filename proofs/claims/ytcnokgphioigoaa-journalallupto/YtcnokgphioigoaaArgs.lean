import Derived.Test.YtcnokgphioigoaaRows
import Derived.Test.YtcnokgphioigoaaDk0
import Derived.WalkKit
import Derived.ProofKit
import Derived.OpenShut
import Derived.SizedLaws
namespace Go.Proofs.Ytcnokgphioigoaa
open Go.ChangeShapes Go.WideShapes Go.ChangeAt Go.RowKit Go.WideMaps Go.WideElems Go.PlainAid
set_option linter.unusedVariables false
theorem own : ownKnob Try.prog.godebug = none := by kernel_rfl
theorem laidOut : laidOutB Try.prog = true := by kernel_rfl
theorem spot_none {W : World} {a : Addr} {v : Value} (h : W.cell? a = some v) : ∃ b off, a = ⟨b, off, none⟩ := by
  obtain ⟨b, off, sp⟩ := a
  cases sp with
  | none => exact ⟨b, off, rfl⟩
  | some s =>
    unfold World.cell? at h
    split at h <;> simp at h
/-- Data: where it lies, its bytes. -/
structure Dv where
  v : Value
  s : List UInt8
def RowAt (W : World) (b off : Nat) (cs : List Value) : Prop := ∀ j v, cs[j]? = some v → W.cell? ⟨b, off + j, none⟩ = some v
theorem RowAt.below {W W' : World} {L b off : Nat} {cs : List Value} (h : RowAt W b off cs) (hb : Below L W W') (hL : b < L) : RowAt W' b off cs := fun j v hv => (hb.cell (p := ⟨b, off + j, none⟩) hL).trans (h j v hv)
theorem RowAt.lt {W : World} {b off : Nat} {cs : List Value} (h : RowAt W b off cs) (h0 : 0 < cs.length) : b < W.heap.size := World.block_lt_of_cell? W _ (h 0 _ (List.getElem?_eq_getElem h0))
theorem list_of {α : Type} (P : Nat → α → Prop) : ∀ n, (∀ i, i < n → ∃ c, P i c) → ∃ cs : List α, cs.length = n ∧ ∀ i c, cs[i]? = some c → P i c
  | 0, _ => ⟨[], rfl, fun i c h => by simp at h⟩
  | n + 1, h => by
    obtain ⟨cs, hl, hc⟩ := list_of P n fun i hi => h i (by omega)
    obtain ⟨c, hP⟩ := h n (by omega)
    refine ⟨cs ++ [c], by simp [hl], fun i c' hi => ?_⟩
    by_cases hin : i < n
    · rw [List.getElem?_append_left (by omega)] at hi
      exact hc i c' hi
    · rw [List.getElem?_append_right (by omega)] at hi
      by_cases e0 : i - cs.length = 0
      · rw [e0] at hi
        cases hi
        rw [show i = n from by omega]
        exact hP
      · rw [List.getElem?_eq_none (by simp; omega)] at hi; cases hi
theorem weights_all {H : Type} {P : Program} {e : TypeId} : ∀ {ds : List (DataW H)} {i : Nat} {d : DataW H}, ds[i]? = some d → ∀ n ∈ d.weights P e, n ∈ DataW.weightsAll P e ds
  | d0 :: ds, 0, d, hd, n, hn => by
    simp only [List.getElem?_cons_zero, Option.some.injEq] at hd
    subst hd
    simp only [DataW.weightsAll, List.mem_append]
    exact .inl hn
  | d0 :: ds, i + 1, d, hd, n, hn => by
    simp only [List.getElem?_cons_succ] at hd
    simp only [DataW.weightsAll, List.mem_append]
    exact .inr (weights_all hd n hn)
  | [], _, _, hd, _, _ => by simp at hd
theorem cells30 : Try.prog.cellsOf 38 = 1 := by kernel_rfl
theorem cells5 : Try.prog.cellsOf 5 = 1 := by kernel_rfl
theorem bytes5 : Try.prog.bytesOf 5 = 1 := by kernel_rfl
section
variable {H : Type} {enc : TypeId × Value → H} {W : World} {fuel : Nat} {cs : List Value} {x : DataW H × List MemPlace}
set_option maxRecDepth 100000
set_option maxHeartbeats 1600000
/-- Bytes that came in, as a part of something. -/
theorem t_bytes (h : DataW.trod enc Try.prog W 0 (fun _ => true) true fuel 38 cs = some x) (hw : ∀ n ∈ x.1.weights Try.prog 38, n ≤ reachBytes) : ∃ d : Dv, cs = [d.v] ∧ By W d.v d.s ∧ d.s.length ≤ reachBytes := by
  rcases open_ints Try.underlying38 Try.underlying5 cells5 h with ⟨hcs, hx⟩ | ⟨a, len, cap, zs, hcs, _, hl, hm, hz, hx, hcell, hwz⟩
  · exact ⟨⟨.slice none 0 0, []⟩, hcs, ⟨none, 0, 0, rfl, rfl, fun _ => ⟨rfl, rfl⟩, fun ad e => by cases e⟩, Nat.zero_le _⟩
  · simp only [if_true] at hz
    have hlen : ((zs.take len).map (fun z => UInt8.ofNat z.toNat)).length = len := by simp; omega
    have hsize : len ≤ reachBytes := by
      refine Nat.le_trans ?_ (hw (((zs.take len).length + (zs.drop len).length) * Try.prog.bytesOf 5) ?_)
      · rw [bytes5]; simp; omega
      · rw [hx]
        simp only [DataW.weights, Try.underlying38]
        refine List.mem_cons.2 (.inl ?_)
        simp [lits]
    refine ⟨⟨.slice (some a) len cap, (zs.take len).map (fun z => UInt8.ofNat z.toNat)⟩, hcs, ⟨some a, len, cap, rfl, hlen, (fun e => by cases e), fun ad e j u hu => ?_⟩, by rw [hlen]; exact hsize⟩
    cases e
    rw [List.map_map, List.getElem?_map, List.getElem?_take] at hu
    split at hu
    · have hjz : j < zs.length := by omega
      rw [List.getElem?_eq_getElem hjz] at hu
      cases hu
      have hb := bounds_u8 (hwz zs[j] (List.getElem_mem hjz))
      have e2 : zs.getD j 0 = zs[j] := by rw [List.getD_eq_getElem?_getD, List.getElem?_eq_getElem hjz]; rfl
      rw [hcell j hjz, e2]
      simp only [Function.comp, B]
      congr 2
      simp
      omega
    · cases hu
/-- A slice that came in, whatever its elements. -/
theorem open_rows {α : Type} (T e : TypeId) (sz : Nat) (f : α → List Value) (ok : α → Prop) (hu : Try.prog.underlying T = some (.slice e)) (hc : Try.prog.cellsOf e = sz) (h1 : 0 < sz) (hfl : ∀ a, (f a).length = sz)
    (hel : ∀ (fuel : Nat) (cs : List Value) (x : DataW H × List MemPlace), DataW.trod enc Try.prog W 0 (fun _ => true) true fuel e cs = some x → (∀ n ∈ x.1.weights Try.prog e, n ≤ reachBytes) → ∃ a, cs = f a ∧ ok a)
    {base : Nat} {v : Value} {d : DataW H} {p : List MemPlace} (hval : Value.okWide Try.prog W .any base T v) (h0 : DataW.Trod enc Try.prog W 0 (fun _ => true) true T v d p) (hsz : ∀ n ∈ d.weights Try.prog T, n ≤ reachBytes) :
    ∃ (ao : Option Addr) (N cap : Nat) (os : List α), v = .slice ao N cap ∧ os.length = N ∧ N ≤ cap ∧ cap ≤ maxLen ∧ (∀ o ∈ os, ok o) ∧ (ao = none → N = 0 ∧ cap = 0) ∧ (0 < N → ∃ b off, ao = some ⟨b, off, none⟩ ∧ ∀ i o, os[i]? = some o → RowAt W b (off + i * sz) (f o)) := by
  obtain ⟨a0, len, cap, rfl⟩ := okWide_slice hu hval
  obtain ⟨fuel, hf⟩ := h0
  rcases DataW.trod_slice hu hf with ⟨hcs, hx⟩ | ⟨a, len', cap', elems, rest, m, _, hcs, hx, _, hl, hm, hel2, he, _, _⟩
  · have e : Value.slice a0 len cap = .slice none 0 0 := by simpa [Value.cells] using hcs
    cases e
    exact ⟨none, 0, 0, [], rfl, rfl, Nat.le_refl _, Nat.zero_le _, (fun c hc => by cases hc), fun _ => ⟨rfl, rfl⟩, fun h => by omega⟩
  · have e : Value.slice a0 len cap = .slice (some a) len' cap' := by simpa [Value.cells] using hcs
    cases e
    rw [hc] at he
    have hxd : d = .slice (elems.map (·.1)) (rest.map (·.1)) := (Prod.mk.inj hx).1
    obtain ⟨cs, hcl, hcc⟩ := list_of (fun i o => (∃ b off, a.add (i * sz) = ⟨b, off, none⟩ ∧ RowAt W b off (f o)) ∧ ok o) len fun i hi => by
      have h2 := he i hi
      rw [List.getElem?_eq_getElem (by omega), Option.bind_eq_some_iff] at h2
      obtain ⟨cs, hcs2, ht⟩ := h2
      obtain ⟨_, hl2, hcell⟩ := World.cells?_some hcs2
      obtain ⟨o, rfl, ho⟩ := hel _ _ _ ht fun n hn => hsz n (by
        rw [hxd]
        simp only [DataW.weights, hu]
        refine List.mem_cons.2 (.inr (List.mem_append.2 (.inl ?_)))
        exact weights_all (i := i) (d := elems[i].1) (by rw [List.getElem?_map, List.getElem?_eq_getElem (by omega)]; rfl) n hn)
      have a0 := hcell 0 (by omega)
      rw [List.getElem?_eq_getElem (by rw [hfl]; exact h1)] at a0
      obtain ⟨b, off, e2⟩ := spot_none (show W.cell? (a.add (i * sz)) = some _ from a0)
      refine ⟨o, ⟨b, off, e2, fun j v hv => ?_⟩, ho⟩
      have hj := (List.getElem?_eq_some_iff.1 hv).1
      have := hcell j (by rw [hfl] at hj; omega)
      rw [e2, addr_add, hv] at this
      exact this
    refine ⟨some a, len, cap, cs, rfl, hcl, hl, by omega, fun c hcm => ?_, (fun h => by cases h), fun hN => ?_⟩
    · obtain ⟨i, hi⟩ := List.getElem?_of_mem hcm
      exact (hcc i c hi).2
    · obtain ⟨⟨b, off, e0, _⟩, _⟩ := hcc 0 cs[0] (List.getElem?_eq_getElem (by omega))
      rw [Nat.zero_mul, show a.add 0 = a from rfl] at e0
      subst e0
      refine ⟨b, off, rfl, fun i c hi => ?_⟩
      obtain ⟨⟨b2, off2, e2, h2⟩, _⟩ := hcc i c hi
      rw [addr_add] at e2
      cases e2
      exact h2
end
def In64 (z : Int) : Prop := (-9223372036854775808 : Int) ≤ z ∧ z ≤ 9223372036854775807
theorem cells3' : Try.prog.cellsOf 3 = 1 := by kernel_rfl
theorem uncons {α : Type} {l : List α} {n : Nat} (h : l.length = n + 1) : ∃ a t, l = a :: t ∧ t.length = n := by
  cases l with
  | nil => simp at h
  | cons a t => exact ⟨a, t, rfl, by simpa using h⟩
section
variable {H : Type} {enc : TypeId × Value → H} {W : World} {fuel : Nat} {cs : List Value} {x : DataW H × List MemPlace}
set_option maxRecDepth 100000
set_option maxHeartbeats 1600000
theorem t_int {t : TypeId} (hu : Try.prog.underlying t = some (.int .i64)) (h : DataW.trod enc Try.prog W 0 (fun _ => true) true fuel t cs = some x) : ∃ z, cs = [.int .i64 z] ∧ In64 z := by
  obtain ⟨z, e, _, hw⟩ := DataW.trod_int hu h
  have := bounds_i64 hw
  exact ⟨z, e, by unfold In64; omega⟩
theorem w_part {t t' : TypeId} {fs : Array Field} {xs : List (DataW H × List MemPlace)} {i : Nat} {y : DataW H × List MemPlace} (hu : Try.prog.underlying t = some (.struct fs)) (hx : x = (.agg (xs.map (·.1)), xs.flatMap (·.2))) (hw : ∀ n ∈ x.1.weights Try.prog t, n ≤ reachBytes)
    (ht : (fs.toList.map (·.type))[i]? = some t') (hy : xs[i]? = some y) : ∀ n ∈ y.1.weights Try.prog t', n ≤ reachBytes := by
  intro n hn
  refine hw n ?_
  rw [hx]
  simp only [DataW.weights, hu]
  exact DataW.weights_mem_each ht (by rw [List.getElem?_map, hy]; rfl) n hn
theorem t_u8 {t : TypeId} (hu : Try.prog.underlying t = some (.int .u8)) (h : DataW.trod enc Try.prog W 0 (fun _ => true) true fuel t cs = some x) : ∃ u : UInt8, cs = [B u] := by
  obtain ⟨z, e, _, hw⟩ := DataW.trod_int hu h
  have hb := bounds_u8 hw
  refine ⟨UInt8.ofNat z.toNat, ?_⟩
  rw [e]
  unfold B
  congr 2
  simp
  omega
end
end Go.Proofs.Ytcnokgphioigoaa
