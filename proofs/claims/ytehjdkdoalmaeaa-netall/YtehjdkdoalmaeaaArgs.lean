import Derived.Test.YtehjdkdoalmaeaaRows
import Derived.Test.YtehjdkdoalmaeaaLet
import Derived.WalkKit
import Derived.ProofKit
import Derived.OpenShut
import Derived.SizedLaws
namespace Go.Proofs.Ytehjdkdoalmaeaa
open Go.ChangeShapes Go.WideShapes Go.ChangeAt Go.RowKit Go.WideMaps Go.WideElems

theorem own : ownKnob Try.prog.godebug = none := by kernel_rfl
theorem laidOut : laidOutB Try.prog = true := by kernel_rfl
theorem cells5 : Try.prog.cellsOf 5 = 1 := by kernel_rfl
theorem cells31 : Try.prog.cellsOf 31 = 3 := by kernel_rfl
theorem bytes5 : Try.prog.bytesOf 5 = 1 := by kernel_rfl
theorem reach_is : reachBytes = 140737488351232 := rfl

/-- A letter, as an argument holds it. -/
structure ArgL where
  f : Int
  t : Int
  ao : Option Addr
  cap : Nat
  bs : List UInt8
def ArgL.d (c : ArgL) : Value := .slice c.ao c.bs.length c.cap
structure ArgOk (W : World) (c : ArgL) : Prop where
  size : c.bs.length ≤ 140737488351232
  nil : c.ao = none → c.bs.length = 0 ∧ c.cap = 0
  src : From W c.ao c.bs
structure LetAt (W : World) (b off : Nat) (c : ArgL) : Prop where
  c0 : W.cell? ⟨b, off, none⟩ = some (.int .i64 c.f)
  c1 : W.cell? ⟨b, off + 1, none⟩ = some (.int .i64 c.t)
  c2 : W.cell? ⟨b, off + 2, none⟩ = some c.d

theorem list_of {α : Type} (P : Nat → α → Prop) : ∀ n, (∀ i, i < n → ∃ c, P i c) → ∃ cs : List α, cs.length = n ∧ ∀ i c, cs[i]? = some c → P i c
  | 0, _ => ⟨[], rfl, fun i c h => by simp at h⟩
  | n + 1, h => by
    obtain ⟨cs, hl, hc⟩ := list_of P n fun i hi => h i (by omega)
    obtain ⟨c, hP⟩ := h n (by omega)
    refine ⟨cs ++ [c], by simp [hl], fun i c' hi => ?_⟩
    by_cases hin : i < n
    · rw [List.getElem?_append_left (by omega)] at hi
      exact hc i c' hi
    · rw [List.getElem?_append_right (by omega)] at hi
      by_cases e0 : i - cs.length = 0
      · rw [e0] at hi
        cases hi
        rw [show i = n from by omega]
        exact hP
      · rw [List.getElem?_eq_none (by simp; omega)] at hi; cases hi

theorem weights_all {H : Type} {P : Program} {e : TypeId} : ∀ {ds : List (DataW H)} {i : Nat} {d : DataW H}, ds[i]? = some d → ∀ n ∈ d.weights P e, n ∈ DataW.weightsAll P e ds
  | d0 :: ds, 0, d, hd, n, hn => by
    simp only [List.getElem?_cons_zero, Option.some.injEq] at hd
    subst hd
    simp only [DataW.weightsAll, List.mem_append]
    exact .inl hn
  | d0 :: ds, i + 1, d, hd, n, hn => by
    simp only [List.getElem?_cons_succ] at hd
    simp only [DataW.weightsAll, List.mem_append]
    exact .inr (weights_all hd n hn)
  | [], _, _, hd, _, _ => by simp at hd

theorem spot_none {W : World} {a : Addr} {v : Value} (h : W.cell? a = some v) : ∃ b off, a = ⟨b, off, none⟩ := by
  obtain ⟨b, off, sp⟩ := a
  cases sp with
  | none => exact ⟨b, off, rfl⟩
  | some s =>
    unfold World.cell? at h
    split at h <;> simp at h
theorem add_zero' (ad : Addr) : ad.add 0 = ad := rfl

set_option maxRecDepth 100000 in
/-- One of them, as it is read. -/
theorem open_let {H : Type} {enc : TypeId × Value → H} {W : World} {fuel : Nat} {ad : Addr} {y : DataW H × List MemPlace}
    (h : (W.cells? 0 ad 3).bind (DataW.trod enc Try.prog W 0 (fun _ => true) true fuel 31) = some y) (hsz : ∀ n ∈ y.1.weights Try.prog 31, n ≤ reachBytes) : ∃ c b off, ad = ⟨b, off, none⟩ ∧ LetAt W b off c ∧ ArgOk W c := by
  rw [Option.bind_eq_some_iff] at h
  obtain ⟨cs, hcs, ht⟩ := h
  obtain ⟨_, hl, hcell⟩ := World.cells?_some hcs
  obtain ⟨xs, m, _, hx, _, hxl, hf⟩ := DataW.trod_struct Try.underlying31 ht
  have hxl' : xs.length = 3 := hxl
  have f0 := hf 0 _ rfl
  have f1 := hf 1 _ rfl
  have f2 := hf 2 _ rfl
  rw [List.getElem?_eq_getElem (by omega)] at f0 f1 f2
  obtain ⟨z0, e0, _, w0⟩ := DataW.trod_int Try.underlying3 f0
  obtain ⟨z1, e1, _, w1⟩ := DataW.trod_int Try.underlying3 f1
  have at_ : ∀ (k : Nat) (v : Value), (cs.drop k).take 1 = [v] → cs[k]? = some v := fun k v e => by
    have := congrArg (fun l => l[0]?) e
    simpa [List.getElem?_take, List.getElem?_drop] using this
  have g0 : cs[0]? = some (.int .i64 z0) := at_ 0 _ e0
  have g1 : cs[1]? = some (.int .i64 z1) := at_ 1 _ e1
  have a0 : W.cell? ad = some (.int .i64 z0) := by
    have := hcell 0 (by omega)
    rw [g0] at this
    exact this
  obtain ⟨b, off, rfl⟩ := spot_none a0
  have a1 : W.cell? ⟨b, off + 1, none⟩ = some (.int .i64 z1) := by
    have := (hcell 1 (by omega)).trans g1
    rwa [addr_add] at this
  rcases open_ints Try.underlying29 Try.underlying5 cells5 f2 with ⟨hs, _⟩ | ⟨a, len, cap, zs, hs, _, hle, hm, hz, hx3, hc3, hwz⟩
  · have g3 : cs[2]? = some (.slice none 0 0) := at_ 2 _ hs
    refine ⟨⟨z0, z1, none, 0, []⟩, b, off, rfl, ⟨a0, a1, ?_⟩, ⟨Nat.zero_le _, fun _ => ⟨rfl, rfl⟩, (fun h => by simp at h)⟩⟩
    have := (hcell 2 (by omega)).trans g3
    rwa [addr_add] at this
  · have g3 : cs[2]? = some (.slice (some a) len cap) := at_ 2 _ hs
    simp only [if_true] at hz
    have hsize : len ≤ reachBytes := by
      refine Nat.le_trans ?_ (hsz (((zs.take len).length + (zs.drop len).length) * Try.prog.bytesOf 5) ?_)
      · rw [bytes5]; simp; omega
      · rw [hx]
        simp only [DataW.weights, Try.underlying31]
        refine DataW.weights_mem_each (j := 2) (t := 29) (d := xs[2].1) rfl (by rw [List.getElem?_map, List.getElem?_eq_getElem (by omega)]; rfl) _ ?_
        rw [hx3]
        simp only [DataW.weights, Try.underlying29]
        refine List.mem_cons.2 (.inl ?_)
        simp [lits]
    have hlen : ((zs.take len).map (fun z => UInt8.ofNat z.toNat)).length = len := by simp; omega
    refine ⟨⟨z0, z1, some a, cap, (zs.take len).map (fun z => UInt8.ofNat z.toNat)⟩, b, off, rfl, ⟨a0, a1, ?_⟩, ⟨by simp only [hlen]; rw [← reach_is]; exact hsize, (fun h => by cases h), fun h0 => ?_⟩⟩
    · have := (hcell 2 (by omega)).trans g3
      rw [addr_add] at this
      rw [this, ArgL.d]
      simp only [hlen]
    · simp only [hlen] at h0
      obtain ⟨b2, off2, rfl⟩ := spot_none (hc3 0 (by omega))
      refine ⟨b2, off2, rfl, fun j u hu => ?_⟩
      rw [List.getElem?_map, List.getElem?_take] at hu
      split at hu
      · have hjz : j < zs.length := by omega
        rw [List.getElem?_eq_getElem hjz] at hu
        cases hu
        have := hc3 j hjz
        rw [addr_add] at this
        rw [this, B]
        have hw := hwz zs[j] (List.getElem_mem hjz)
        have hb := bounds_u8 hw
        have e2 : zs.getD j 0 = zs[j] := by rw [List.getD_eq_getElem?_getD, List.getElem?_eq_getElem hjz]; rfl
        rw [e2]
        congr 1
        apply val_u8
        simp
        omega
      · cases hu

set_option maxRecDepth 100000 in
/-- The letters that came in. -/
theorem open_lets {H : Type} {enc : TypeId × Value → H} {W : World} {base : Nat} {v : Value} {d : DataW H} {p : List MemPlace}
    (hval : Value.okWide Try.prog W .any base 22 v) (h0 : DataW.Trod enc Try.prog W 0 (fun _ => true) true 22 v d p) (hsz : ∀ n ∈ d.weights Try.prog 22, n ≤ reachBytes) :
    ∃ (ao : Option Addr) (N cap : Nat) (cs : List ArgL), v = .slice ao N cap ∧ cs.length = N ∧ N ≤ maxLen ∧ (∀ c ∈ cs, ArgOk W c) ∧ (0 < N → ∃ b off, ao = some ⟨b, off, none⟩ ∧ ∀ i c, cs[i]? = some c → LetAt W b (off + i * 3) c) ∧ N ≤ cap ∧ (ao = none → N = 0 ∧ cap = 0) := by
  obtain ⟨a0, len, cap, rfl⟩ := okWide_slice Try.underlying22 hval
  obtain ⟨fuel, hf⟩ := h0
  rcases DataW.trod_slice Try.underlying22 hf with ⟨hcs, hx⟩ | ⟨a, len', cap', elems, rest, m, _, hcs, hx, _, hl, hm, hel, he, _, _⟩
  · have e : Value.slice a0 len cap = .slice none 0 0 := by simpa [Value.cells] using hcs
    cases e
    exact ⟨none, 0, 0, [], rfl, rfl, Nat.zero_le _, (fun c hc => by cases hc), (fun h => by omega), Nat.le_refl _, fun _ => ⟨rfl, rfl⟩⟩
  · have e : Value.slice a0 len cap = .slice (some a) len' cap' := by simpa [Value.cells] using hcs
    cases e
    rw [cells31] at he
    have hxd : d = .slice (elems.map (·.1)) (rest.map (·.1)) := (Prod.mk.inj hx).1
    obtain ⟨cs, hcl, hc⟩ := list_of (fun i c => ∃ b off, a.add (i * 3) = ⟨b, off, none⟩ ∧ LetAt W b off c ∧ ArgOk W c) len fun i hi => by
      have h1 := he i hi
      rw [List.getElem?_eq_getElem (by omega)] at h1
      refine open_let h1 fun n hn => hsz n ?_
      rw [hxd]
      simp only [DataW.weights, Try.underlying22]
      refine List.mem_cons.2 (.inr (List.mem_append.2 (.inl ?_)))
      exact weights_all (i := i) (d := elems[i].1) (by rw [List.getElem?_map, List.getElem?_eq_getElem (by omega)]; rfl) n hn
    refine ⟨some a, len, cap, cs, rfl, hcl, by omega, fun c hcm => ?_, fun hN => ?_, hl, fun h => by cases h⟩
    · obtain ⟨i, hi⟩ := List.getElem?_of_mem hcm
      obtain ⟨_, _, _, _, h⟩ := hc i c hi
      exact h
    · obtain ⟨b, off, e0, _⟩ := hc 0 cs[0] (List.getElem?_eq_getElem (by omega))
      rw [Nat.zero_mul, add_zero'] at e0
      subst e0
      refine ⟨b, off, rfl, fun i c hi => ?_⟩
      obtain ⟨b2, off2, e2, h2, _⟩ := hc i c hi
      rw [addr_add] at e2
      cases e2
      exact h2

theorem From.up {w w' : World} {ao : Option Addr} {bs : List UInt8} {L : Nat} (h : From w ao bs) (hb : Below L w w') (hL : L = w.heap.size) : From w' ao bs := by
  intro h0
  obtain ⟨b, off, rfl, hc⟩ := h h0
  refine ⟨b, off, rfl, fun j u hu => ?_⟩
  have h1 := hc j u hu
  exact (hb.cell (by rw [hL]; exact World.block_lt_of_cell? w _ h1)).trans h1
theorem LetAt.up {w w' : World} {b off : Nat} {c : ArgL} {L : Nat} (h : LetAt w b off c) (hb : Below L w w') (hL : L = w.heap.size) : LetAt w' b off c :=
  ⟨(hb.cell (by rw [hL]; exact World.block_lt_of_cell? w _ h.c0)).trans h.c0, (hb.cell (by rw [hL]; exact World.block_lt_of_cell? w _ h.c1)).trans h.c1, (hb.cell (by rw [hL]; exact World.block_lt_of_cell? w _ h.c2)).trans h.c2⟩
/-- 'x & 1023'. -/
theorem and1023 (x : Int) : ∃ m : Nat, m ≤ 1023 ∧ bits BinOp.and IntKind.i64 x 1023 = (m : Int) := by
  refine ⟨((BitVec.ofInt 64 x) &&& (BitVec.ofInt 64 1023)).toNat, ?_, ?_⟩
  · rw [BitVec.toNat_and]
    exact Nat.le_trans Nat.and_le_right (by decide)
  · have h : ((BitVec.ofInt 64 x) &&& (BitVec.ofInt 64 1023)).toNat ≤ 1023 := by
      rw [BitVec.toNat_and]
      exact Nat.le_trans Nat.and_le_right (by decide)
    show IntKind.i64.wrap _ = _
    have h2 : (((BitVec.ofInt IntKind.i64.bits x) &&& (BitVec.ofInt IntKind.i64.bits 1023)).toNat : Int) ≤ 1023 := Int.ofNat_le.2 h
    rw [IntKind.wrap_i64]
    have h3 : (0 : Int) ≤ (((BitVec.ofInt IntKind.i64.bits x) &&& (BitVec.ofInt IntKind.i64.bits 1023)).toNat : Int) := Int.natCast_nonneg _
    show ((((BitVec.ofInt IntKind.i64.bits x) &&& (BitVec.ofInt IntKind.i64.bits 1023)).toNat : Int) + 9223372036854775808) % 18446744073709551616 - 9223372036854775808 = (((BitVec.ofInt IntKind.i64.bits x) &&& (BitVec.ofInt IntKind.i64.bits 1023)).toNat : Int)
    omega
end Go.Proofs.Ytehjdkdoalmaeaa
