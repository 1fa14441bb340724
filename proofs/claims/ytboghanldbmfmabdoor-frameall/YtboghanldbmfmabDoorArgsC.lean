import Derived.Test.YtboghanldbmfmabDoorArgs
import Derived.SizedLaws
namespace Go.Proofs.YtboghanldbmfmabDoor
open Go.ChangeShapes Go.WideShapes Go.ChangeAt Go.RowKit Go.WideMaps Go.WideElems

/-- A call, as the argument holds it. -/
structure CallV where
  kind : Int
  spot : Int
  add : UInt8
  ao : Option Addr
  n : Nat
  cap : Nat
  ps : List UInt8

structure CallOk (W : World) (c : CallV) : Prop where
  len : c.ps.length = c.n
  cap : c.n ≤ c.cap
  size : c.n ≤ reachBytes
  nil : c.ao = none → c.n = 0 ∧ c.cap = 0
  src : Src W c.ao c.ps
  kindB : -9223372036854775808 ≤ c.kind ∧ c.kind ≤ 9223372036854775807
  spotB : -9223372036854775808 ≤ c.spot ∧ c.spot ≤ 9223372036854775807

structure CallAt (W : World) (ad : Addr) (c : CallV) : Prop where
  c0 : W.cell? ad = some (.int .i64 c.kind)
  c1 : W.cell? (ad.add 1) = some (.int .i64 c.spot)
  c2 : W.cell? (ad.add 2) = some (B c.add)
  c3 : W.cell? (ad.add 3) = some (.slice c.ao c.n c.cap)

theorem list_of {α : Type} (P : Nat → α → Prop) : ∀ n, (∀ i, i < n → ∃ c, P i c) → ∃ cs : List α, cs.length = n ∧ ∀ i c, cs[i]? = some c → P i c
  | 0, _ => ⟨[], rfl, fun i c h => by simp at h⟩
  | n + 1, h => by
    obtain ⟨cs, hl, hc⟩ := list_of P n fun i hi => h i (by omega)
    obtain ⟨c, hP⟩ := h n (by omega)
    refine ⟨cs ++ [c], by simp [hl], fun i c' hi => ?_⟩
    by_cases hin : i < n
    · rw [List.getElem?_append_left (by omega)] at hi
      exact hc i c' hi
    · rw [List.getElem?_append_right (by omega)] at hi
      by_cases e0 : i - cs.length = 0
      · rw [e0] at hi
        cases hi
        rw [show i = n from by omega]
        exact hP
      · rw [List.getElem?_eq_none (by simp; omega)] at hi; cases hi

theorem weights_all {H : Type} {P : Program} {e : TypeId} : ∀ {ds : List (DataW H)} {i : Nat} {d : DataW H}, ds[i]? = some d → ∀ n ∈ d.weights P e, n ∈ DataW.weightsAll P e ds
  | d0 :: ds, 0, d, hd, n, hn => by
    simp only [List.getElem?_cons_zero, Option.some.injEq] at hd
    subst hd
    simp only [DataW.weightsAll, List.mem_append]
    exact .inl hn
  | d0 :: ds, i + 1, d, hd, n, hn => by
    simp only [List.getElem?_cons_succ] at hd
    simp only [DataW.weightsAll, List.mem_append]
    exact .inr (weights_all hd n hn)
  | [], _, _, hd, _, _ => by simp at hd

theorem cells33 : Tryd.prog.cellsOf 33 = 4 := by kernel_rfl
theorem cells22 : Tryd.prog.cellsOf 22 = 1 := by kernel_rfl
theorem cells3 : Tryd.prog.cellsOf 3 = 1 := by kernel_rfl
theorem bytes5 : Tryd.prog.bytesOf 5 = 1 := by kernel_rfl

/-- One of them, as it is read. -/
theorem open_call {H : Type} {enc : TypeId × Value → H} {W : World} {fuel : Nat} {ad : Addr} {y : DataW H × List MemPlace}
    (h : (W.cells? 0 ad 4).bind (DataW.trod enc Tryd.prog W 0 (fun _ => true) true fuel 33) = some y) (hsz : ∀ n ∈ y.1.weights Tryd.prog 33, n ≤ reachBytes) : ∃ c, CallAt W ad c ∧ CallOk W c := by
  rw [Option.bind_eq_some_iff] at h
  obtain ⟨cs, hcs, ht⟩ := h
  obtain ⟨_, hl, hcell⟩ := World.cells?_some hcs
  obtain ⟨xs, m, _, hx, _, hxl, hf⟩ := DataW.trod_struct Tryd.underlying33 ht
  have hxl' : xs.length = 4 := hxl
  have f0 := hf 0 _ rfl
  have f1 := hf 1 _ rfl
  have f2 := hf 2 _ rfl
  have f3 := hf 3 _ rfl
  rw [List.getElem?_eq_getElem (by omega)] at f0 f1 f2 f3
  obtain ⟨z0, e0, _, w0⟩ := DataW.trod_int Tryd.underlying3 f0
  obtain ⟨z1, e1, _, w1⟩ := DataW.trod_int Tryd.underlying3 f1
  obtain ⟨z2, e2, _, w2⟩ := DataW.trod_int Tryd.underlying5 f2
  have at_ : ∀ (k : Nat) (v : Value), (cs.drop k).take 1 = [v] → cs[k]? = some v := fun k v e => by
    have := congrArg (fun l => l[0]?) e
    simpa [List.getElem?_take, List.getElem?_drop] using this
  have g0 : cs[0]? = some (.int .i64 z0) := at_ 0 _ e0
  have g1 : cs[1]? = some (.int .i64 z1) := at_ 1 _ e1
  have g2 : cs[2]? = some (.int .u8 z2) := at_ 2 _ e2
  have k0 := bounds_i64 w0
  have k1 := bounds_i64 w1
  have k2 := bounds_u8 w2
  have hu2 : Value.int .u8 z2 = B (UInt8.ofNat z2.toNat) := by rw [B]; symm; apply val_u8; simp; omega
  have a0 : W.cell? ad = some (.int .i64 z0) := by
    have := hcell 0 (by omega)
    rw [g0] at this
    rwa [show ad.add 0 = ad from by unfold Addr.add; split <;> simp_all] at this
  have a1 : W.cell? (ad.add 1) = some (.int .i64 z1) := (hcell 1 (by omega)).trans g1
  have a2 : W.cell? (ad.add 2) = some (B (UInt8.ofNat z2.toNat)) := by rw [← hu2]; exact (hcell 2 (by omega)).trans g2
  rcases open_ints Tryd.underlying22 Tryd.underlying5 cells5 f3 with ⟨hs, _⟩ | ⟨a, len, cap, zs, hs, _, hle, hm, hz, hx3, hc3, hwz⟩
  · have g3 : cs[3]? = some (.slice none 0 0) := at_ 3 _ hs
    exact ⟨⟨z0, z1, UInt8.ofNat z2.toNat, none, 0, 0, []⟩, ⟨a0, a1, a2, (hcell 3 (by omega)).trans g3⟩, ⟨rfl, Nat.le_refl _, Nat.zero_le _, fun _ => ⟨rfl, rfl⟩, (fun h => by simp at h), k0, k1⟩⟩
  · have g3 : cs[3]? = some (.slice (some a) len cap) := at_ 3 _ hs
    simp only [if_true] at hz
    have hsize : len ≤ reachBytes := by
      refine Nat.le_trans ?_ (hsz (((zs.take len).length + (zs.drop len).length) * Tryd.prog.bytesOf 5) ?_)
      · rw [bytes5]; simp; omega
      · rw [hx]
        simp only [DataW.weights, Tryd.underlying33]
        refine DataW.weights_mem_each (j := 3) (t := 22) (d := xs[3].1) rfl (by rw [List.getElem?_map, List.getElem?_eq_getElem (by omega)]; rfl) _ ?_
        rw [hx3]
        simp only [DataW.weights, Tryd.underlying22]
        refine List.mem_cons.2 (.inl ?_)
        simp [lits]
    refine ⟨⟨z0, z1, UInt8.ofNat z2.toNat, some a, len, cap, (zs.take len).map (fun z => UInt8.ofNat z.toNat)⟩, ⟨a0, a1, a2, (hcell 3 (by omega)).trans g3⟩, ⟨by simp; omega, hle, hsize, (fun h => by cases h), (fun _ => ⟨a, rfl, fun j u hu => ?_⟩), k0, k1⟩⟩
    rw [List.getElem?_map, List.getElem?_take] at hu
    split at hu
    · rename_i hj
      have hjz : j < zs.length := by omega
      rw [List.getElem?_eq_getElem hjz] at hu
      cases hu
      rw [hc3 j hjz, B]
      have hw := hwz zs[j] (List.getElem_mem hjz)
      have hb := bounds_u8 hw
      have e2 : zs.getD j 0 = zs[j] := by rw [List.getD_eq_getElem?_getD, List.getElem?_eq_getElem hjz]; rfl
      rw [e2]
      congr 1
      apply val_u8
      simp
      omega
    · cases hu

theorem calls_at {W : World} {a : Addr} {c : CallV} (h : CallAt W (a.add (0 * 4)) c) : ∃ b off, a = ⟨b, off, none⟩ := by
  have h1 := h.c0
  obtain ⟨b, off, sp⟩ := a
  cases sp with
  | none => exact ⟨b, off, rfl⟩
  | some s =>
    simp only [Nat.zero_mul, Addr.add, if_true] at h1
    unfold World.cell? at h1
    split at h1 <;> simp at h1

/-- The calls that came in. -/
theorem open_calls {H : Type} {enc : TypeId × Value → H} {W : World} {base : Nat} {v : Value} {d : DataW H} {p : List MemPlace}
    (hval : Value.okWide Tryd.prog W .any base 31 v) (h0 : DataW.Trod enc Tryd.prog W 0 (fun _ => true) true 31 v d p) (hsz : ∀ n ∈ d.weights Tryd.prog 31, n ≤ reachBytes) :
    ∃ (ao : Option Addr) (N cap : Nat) (cs : List CallV), v = .slice ao N cap ∧ cs.length = N ∧ N ≤ maxLen ∧ (∀ c ∈ cs, CallOk W c) ∧ (0 < N → ∃ b off, ao = some ⟨b, off, none⟩ ∧ ∀ i c, cs[i]? = some c → CallAt W ⟨b, off + i * 4, none⟩ c) := by
  obtain ⟨a0, len, cap, rfl⟩ := okWide_slice Tryd.underlying31 hval
  obtain ⟨fuel, hf⟩ := h0
  rcases DataW.trod_slice Tryd.underlying31 hf with ⟨hcs, hx⟩ | ⟨a, len', cap', elems, rest, m, _, hcs, hx, _, hl, hm, hel, he, _, _⟩
  · have e : Value.slice a0 len cap = .slice none 0 0 := by simpa [Value.cells] using hcs
    cases e
    exact ⟨none, 0, 0, [], rfl, rfl, Nat.zero_le _, (fun c hc => by cases hc), fun h => by omega⟩
  · have e : Value.slice a0 len cap = .slice (some a) len' cap' := by simpa [Value.cells] using hcs
    cases e
    rw [cells33] at he
    have hxd : d = .slice (elems.map (·.1)) (rest.map (·.1)) := (Prod.mk.inj hx).1
    obtain ⟨cs, hcl, hc⟩ := list_of (fun i c => CallAt W (a.add (i * 4)) c ∧ CallOk W c) len fun i hi => by
      have h1 := he i hi
      rw [List.getElem?_eq_getElem (by omega)] at h1
      refine open_call h1 fun n hn => hsz n ?_
      rw [hxd]
      simp only [DataW.weights, Tryd.underlying31]
      refine List.mem_cons.2 (.inr (List.mem_append.2 (.inl ?_)))
      exact weights_all (i := i) (d := elems[i].1) (by rw [List.getElem?_map, List.getElem?_eq_getElem (by omega)]; rfl) n hn
    refine ⟨some a, len, cap, cs, rfl, hcl, by omega, fun c hcm => ?_, fun hN => ?_⟩
    · obtain ⟨i, hi⟩ := List.getElem?_of_mem hcm
      exact (hc i c hi).2
    · obtain ⟨b, off, rfl⟩ := calls_at (hc 0 cs[0] (List.getElem?_eq_getElem (by omega))).1
      refine ⟨b, off, rfl, fun i c hi => ?_⟩
      have := (hc i c hi).1
      rwa [show (Addr.add ⟨b, off, none⟩ (i * 4)) = ⟨b, off + i * 4, none⟩ from by unfold Addr.add; split <;> simp_all] at this
end Go.Proofs.YtboghanldbmfmabDoor
