import Derived.Test.YtfkaopfcpnkciaaBase
import Derived.RegionDies
namespace Go.Proofs.Ytfkaopfcpnkciaa
open Go.RowKit Go.PlainAid
structure RStep (hb mb : Nat) (w w' : World) : Prop where
  os : w'.os = w.os
  tape : w'.tape = w.tape
  output : w'.output = w.output
  size : w.heap.size ≤ w'.heap.size
  block : ∀ k, k < w.heap.size → k ≠ hb → k ≠ mb → w'.heap[k]? = w.heap[k]?
theorem RStep.refl (hb mb : Nat) (w : World) : RStep hb mb w w := ⟨rfl, rfl, rfl, Nat.le_refl _, fun _ _ _ _ => rfl⟩
theorem RStep.trans {hb mb : Nat} {w w1 w2 : World} (h : RStep hb mb w w1) (k : RStep hb mb w1 w2) : RStep hb mb w w2 :=
  ⟨k.os.trans h.os, k.tape.trans h.tape, k.output.trans h.output, Nat.le_trans h.size k.size,
    fun i hi h1 h2 => (k.block i (Nat.lt_of_lt_of_le hi h.size) h1 h2).trans (h.block i hi h1 h2)⟩
theorem RStep.wide {hb mb : Nat} {w w' : World} (h : RStep hb hb w w') : RStep hb mb w w' := ⟨h.os, h.tape, h.output, h.size, fun k hk h1 _ => h.block k hk h1 h1⟩
theorem RStep.drewN {hb mb : Nat} {w w' : World} (h : RStep hb mb w w') (q : Nat) : RStep hb mb w (w'.drewN q) := ⟨h.os, h.tape, h.output, h.size, h.block⟩
theorem RStep.ofDrewN {hb mb : Nat} {w w' : World} {q : Nat} (h : RStep hb mb (w.drewN q) w') : RStep hb mb w w' := ⟨h.os, h.tape, h.output, h.size, h.block⟩
theorem RStep.ofDrew {hb mb : Nat} {w w' : World} (h : RStep hb mb w.drew w') : RStep hb mb w w' := ⟨h.os, h.tape, h.output, h.size, h.block⟩
theorem RStep.setH {hb mb : Nat} (w : World) (j : Nat) (v : Value) : RStep hb mb w (w.setCell ⟨hb, j, none⟩ v) := ⟨rfl, rfl, rfl, by simp [World.setCell], fun _ _ h _ => Below.heap_setCell _ _ _ _ h⟩
theorem RStep.setM {hb mb : Nat} (w : World) (j : Nat) (v : Value) : RStep hb mb w (w.setCell ⟨mb, j, none⟩ v) := ⟨rfl, rfl, rfl, by simp [World.setCell], fun _ _ _ h => Below.heap_setCell _ _ _ _ h⟩
theorem RSt.drewN {hb : Nat} {ao : Option Addr} {n cap : Nat} {bs : List UInt8} {p : Nat} {w : World} (h : RSt hb ao n cap bs p w) (q : Nat) : RSt hb ao n cap bs p (w.drewN q) := ⟨h.blk, h.len, h.src, h.apart, h.le, h.small, h.room⟩
theorem RSt.drew {hb : Nat} {ao : Option Addr} {n cap : Nat} {bs : List UInt8} {p : Nat} {w : World} (h : RSt hb ao n cap bs p w) : RSt hb ao n cap bs p w.drew := ⟨h.blk, h.len, h.src, h.apart, h.le, h.small, h.room⟩
def RPost (hb mb : Nat) (ao : Option Addr) (n cap : Nat) (bs : List UInt8) (w : World) (q : Nat) (w' : World) : Prop := RSt hb ao n cap bs q w' ∧ RStep hb mb w w'
theorem giveUp_any (hb : Nat) (ao : Option Addr) (n cap : Nat) (bs : List UInt8) (p q : Nat) (w : World) (hS : RSt hb ao n cap bs p w) (hq : q ≤ n) :
    Calls Try.prog 67 #[.pointer (some ⟨hb, 0, none⟩), .int .i64 (q : Nat)] w fun e w' => e = refused ∧ RPost hb hb ao n cap bs w q w' := by
  have c0 := hS.cell0
  have c1 := hS.cell1
  have z1 := hS.frozen 1
  go_enter Try.func67, Try.ntmps67
  go_wp2
  exact ⟨rfl, rfl, hS.move hq, RStep.setH _ _ _⟩
set_option maxHeartbeats 800000 in
theorem take_short (hb : Nat) (ao : Option Addr) (n cap : Nat) (bs : List UInt8) (p k : Nat) (w : World) (hS : RSt hb ao n cap bs p w) (hk : n < p + k) :
    Calls Try.prog 129 #[.pointer (some ⟨hb, 0, none⟩), .int .i64 (k : Nat)] w fun e w' => e = refused ∧ RPost hb hb ao n cap bs w n w' := by
  have c0 := hS.cell0
  have c1 := hS.cell1
  have hle := hS.le
  have hsm := hS.small
  go_enter Try.func129, Try.ntmps129
  go_wp2_with fail
  go_quiet (fail)
  go_wp2_with fail
  refine (giveUp_any hb ao n cap bs p n _ (hS.drewN nq) (Nat.le_refl _)).mono ?_
  rintro e w1 ⟨rfl, hS1, hst⟩
  exact ⟨rfl, rfl, hS1, hst.ofDrewN⟩
set_option maxHeartbeats 800000 in
theorem take_ok (hb b off : Nat) (n cap : Nat) (bs : List UInt8) (p k : Nat) (w : World) (hS : RSt hb (some ⟨b, off, none⟩) n cap bs p w) (hk : p + k ≤ n) :
    Calls Try.prog 129 #[.pointer (some ⟨hb, 0, none⟩), .int .i64 (k : Nat)] w fun e w' => (∃ o, e = .returned (.slice (some ⟨b, o, none⟩) k (cap - p)) ∧ (0 < k → o = off + p)) ∧ RPost hb hb (some ⟨b, off, none⟩) n cap bs w (p + k) w' := by
  have c0 := hS.cell0
  have c1 := hS.cell1
  have z1 := hS.frozen 1
  have hle := hS.le
  have hsm := hS.small
  have hrm := hS.room
  go_enter Try.func129, Try.ntmps129
  go_wp2_with fail
  have e1 : IntKind.i64.wrap ((p : Int) + (k : Int)) = (p : Int) + (k : Int) := by rw [IntKind.wrap_i64]; omega
  have e2 : (0 : Int) ≤ (p : Int) + (k : Int) := by omega
  have e3 : ((p : Int) + (k : Int)).toNat = p + k := by omega
  have e4 : p + k ≤ cap := by omega
  have e5 : (p : Int) + (k : Int) ≤ (cap : Int) := by omega
  go_quiet (fail)
  go_wp2
  have hS' := hS.drewN nq
  have hst' : RStep hb hb w (w.drewN nq) := (RStep.refl _ _ _).drewN nq
  clear c0 c1 z1
  generalize w.drewN nq = wq at *
  have c0 := hS'.cell0
  have c1 := hS'.cell1
  have z1 := hS'.frozen 1
  go_quiet (fail)
  have hS2 := hS'.drewN nq
  have hst2 := hst'.drewN nq
  clear c0 c1 z1
  generalize wq.drewN nq = wr at *
  have c0 := hS2.cell0
  have c1 := hS2.cell1
  have z1 := hS2.frozen 1
  have hfin := hS2.move hk
  rw [show (((p + k : Nat) : Nat) : Int) = (p : Int) + (k : Int) from by omega] at hfin
  by_cases hcp : cap = p
  · subst hcp
    go_wp2
    go_ret
    exact ⟨⟨off, by simp, fun h => by omega⟩, hfin, hst2.trans (RStep.setH _ _ _)⟩
  · go_wp2
    go_ret
    exact ⟨⟨off + p, rfl, fun _ => rfl⟩, hfin, hst2.trans (RStep.setH _ _ _)⟩
end Go.Proofs.Ytfkaopfcpnkciaa
namespace Go.Proofs.Ytfkaopfcpnkciaa
open Go.RowKit Go.PlainAid
def RPostV {α : Type} (hb mb : Nat) (ao : Option Addr) (n cap : Nat) (bs : List UInt8) (p : Nat) (w : World) (r : Res α) (ok : α → Ending → World → Prop) (e : Ending) (w' : World) : Prop := match r with
  | .error k => e = refused ∧ RPost hb mb ao n cap bs w (p + k) w'
  | .ok (x, k) => ok x e w' ∧ RPost hb mb ao n cap bs w (p + k) w'
def pre (a : List UInt8) (r : Option (List UInt8)) : Option (List UInt8) := match r with
  | none => none
  | some ds => some (a ++ ds)
structure GetI (l : List UInt8) (j u t : Nat) : Prop where
  le : j ≤ 10
  len : j ≤ l.length
  last : 0 < j → lastOf (l.take j) = t
  first : j = 0 → t = 128
  shut : t < 128 → digits 10 l = some (l.take j)
  more : 128 ≤ t → digits 10 l = pre (l.take j) (digits (10 - j) (l.drop j))
  small : j ≤ 9 → u = val (l.take j)
  great : j = 10 → t = 1 → u = val (l.take j)
  top : u < 2 ^ 64
def nextU (j u b : Nat) : Nat := if j = 9 then u + b % 2 * 2 ^ 63 else u + b % 128 * 2 ^ (7 * j)
theorem GetI.start (l : List UInt8) : GetI l 0 0 128 := ⟨by omega, by omega, fun h => by omega, fun _ => rfl, fun h => by omega, fun _ => by simp [pre]; cases digits 10 l <;> rfl, fun _ => rfl, fun h => by omega, by decide⟩
theorem lastOf_take (l : List UInt8) (j : Nat) (b : UInt8) (h : l[j]? = some b) : lastOf (l.take (j + 1)) = b.toNat := by
  have hj := (List.getElem?_eq_some_iff.1 h).1
  refine last_get _ _ ?_
  rw [List.length_take, Nat.min_eq_left (by omega), Nat.add_sub_cancel, List.getElem?_take, if_pos (by omega), h]
theorem pow7 (j : Nat) : (128 : Nat) ^ j = 2 ^ (7 * j) := by rw [show (128 : Nat) = 2 ^ 7 from rfl, ← Nat.pow_mul]
theorem val_take_succ (l : List UInt8) (j : Nat) (b : UInt8) (h : l[j]? = some b) : val (l.take (j + 1)) = val (l.take j) + b.toNat % 128 * 2 ^ (7 * j) := by
  have hj := (List.getElem?_eq_some_iff.1 h).1
  rw [val_split (l.take (j + 1)) j, List.take_take, Nat.min_eq_left (by omega)]
  congr 1
  have : (l.take (j + 1)).drop j = [b] := by
    rw [List.drop_take, show j + 1 - j = 1 from by omega]
    rw [List.drop_eq_getElem_cons hj]
    rw [List.getElem?_eq_getElem hj] at h
    cases h
    rfl
  rw [this]
  simp only [val]
  rw [pow7, Nat.mul_comm]
  simp
theorem GetI.step {l : List UInt8} {j u t : Nat} (h : GetI l j u t) (ht : 128 ≤ t) (hj : j < 10) (b : UInt8) (hb : l[j]? = some b) : GetI l (j + 1) (nextU j u b.toNat) b.toNat := by
  have hjl := (List.getElem?_eq_some_iff.1 hb).1
  have hd : l.drop j = b :: l.drop (j + 1) := by
    rw [List.drop_eq_getElem_cons hjl]
    congr 1
    rw [List.getElem?_eq_getElem hjl] at hb
    exact Option.some.inj hb
  have htk : l.take (j + 1) = l.take j ++ [b] := by rw [List.take_add_one, hb]; rfl
  have hm := h.more ht
  rw [hd, show 10 - j = (10 - (j + 1)) + 1 from by omega] at hm
  simp only [digits] at hm
  have hu := h.small (by omega)
  have hv := val_lt (l.take j)
  rw [List.length_take, Nat.min_eq_left (by omega), pow7] at hv
  have hb2 := byte_lt b
  have htop : nextU j u b.toNat < 2 ^ 64 := by
    unfold nextU
    have hp : (2 : Nat) ^ (7 * j) ≤ 2 ^ 63 := Nat.pow_le_pow_right (by omega) (by omega)
    split
    · omega
    · have h1 : b.toNat % 128 * 2 ^ (7 * j) ≤ 127 * 2 ^ (7 * j) := Nat.mul_le_mul_right _ (by omega)
      have h2 : (2 : Nat) ^ (7 * j) ≤ 2 ^ 56 := Nat.pow_le_pow_right (by omega) (by omega)
      omega
  refine ⟨by omega, by omega, fun _ => lastOf_take l j b hb, fun e => by omega, fun hlt => ?_, fun hge => ?_, fun hle => ?_, fun he hone => ?_, htop⟩
  · rw [if_pos hlt] at hm
    rw [hm, htk]
    rfl
  · rw [if_neg (by omega)] at hm
    rw [hm, htk]
    cases digits (10 - (j + 1)) (l.drop (j + 1)) with
    | none => rfl
    | some ds => simp [pre]
  · unfold nextU
    rw [if_neg (by omega), val_take_succ l j b hb, hu]
  · have : j = 9 := by omega
    subst this
    unfold nextU
    rw [if_pos rfl, val_take_succ l 9 b hb, hu, hone]
theorem GetI.short {l : List UInt8} {j u t : Nat} (h : GetI l j u t) (ht : 128 ≤ t) (hj : j < 10) (hn : l.length = j) : raw.rd l = .error l.length := by
  have hm := h.more ht
  rw [show 10 - j = (10 - (j + 1)) + 1 from by omega, List.drop_eq_nil_of_le (by omega)] at hm
  simp only [digits, pre] at hm
  simp only [raw]
  rw [hm]
theorem GetI.done {l : List UInt8} {j u t : Nat} (h : GetI l j u t) (hx : ¬ (128 ≤ t ∧ j < 10)) : 0 < j ∧ raw.rd l = if (!(decide (1 < j) && t == 0) && !(j == 10 && t != 1)) = true then .ok (u, j) else .error 0 := by
  have h0 : 0 < j := by
    rcases Nat.eq_zero_or_pos j with e | e
    · have := h.first e; omega
    · exact e
  have hl : (l.take j).length = j := by rw [List.length_take, Nat.min_eq_left h.len]
  have hd : digits 10 l = some (l.take j) := by
    by_cases ht : t < 128
    · exact h.shut ht
    · have hm := h.more (by omega)
      have : j = 10 := by have := h.le; omega
      subst this
      rw [hm]
      simp [digits, pre]
  refine ⟨h0, ?_⟩
  simp only [raw]
  rw [hd]
  simp only [right, hl, h.last h0]
  by_cases hr : (!(decide (1 < j) && t == 0) && !(j == 10 && t != 1)) = true
  · rw [if_pos hr, if_pos hr]
    congr 2
    by_cases h9 : j ≤ 9
    · exact (h.small h9).symm
    · have hj10 : j = 10 := by have := h.le; omega
      refine (h.great hj10 ?_).symm
      subst hj10
      simp at hr
      exact hr.2
  · rw [if_neg hr, if_neg hr]
theorem and127N : ∀ x : Fin 256, x.val &&& 127 = x.val % 128 := by decide +kernel
theorem and127 (x : UInt8) : bits BinOp.and IntKind.u8 (x.toNat : Int) 127 = ((x.toNat % 128 : Nat) : Int) := by
  have hx := byte_lt x
  have h := (bits_nat IntKind.u8 8 (by decide) wraps_u8 x.toNat 127 (by omega) (by omega)).1
  rw [show (127 : Int) = ((127 : Nat) : Int) from rfl, h, and127N ⟨x.toNat, hx⟩]
theorem GetI.room {l : List UInt8} {j u t : Nat} (h : GetI l j u t) (hj : j ≤ 9) : u < 2 ^ (7 * j) := by
  have hv := val_lt (l.take j)
  rw [List.length_take, Nat.min_eq_left h.len, pow7] at hv
  rw [h.small hj]
  exact hv
theorem nextU_bits (j u x : Nat) (hj : j ≤ 9) (hu : u < 2 ^ (7 * j)) : bits BinOp.or IntKind.u64 (u : Int) (IntKind.u64.wrap (((x % 128 : Nat) : Int) * 2 ^ (7 * j))) = ((nextU j u x : Nat) : Int) := by
  have e1 : (((x % 128 : Nat) : Int) * 2 ^ (7 * j)) = ((x % 128 * 2 ^ (7 * j) : Nat) : Int) := by simp
  have hp : (2 : Nat) ^ (7 * j) ≤ 2 ^ 63 := Nat.pow_le_pow_right (by omega) (by omega)
  have key : ∀ y : Nat, y * 2 ^ (7 * j) < 2 ^ 64 → bits BinOp.or IntKind.u64 (u : Int) ((y * 2 ^ (7 * j) : Nat) : Int) = ((u + y * 2 ^ (7 * j) : Nat) : Int) := by
    intro y hy
    have h := (bits_nat IntKind.u64 64 (by decide) (fun n h0 h1 => IntWalk.u64_in n ⟨h0, by omega⟩) u (y * 2 ^ (7 * j)) (by omega) hy).2
    rw [h]
    congr 1
    rw [Nat.or_comm, Nat.mul_comm, ← Nat.two_pow_add_eq_or_of_lt hu]
    omega
  rw [e1, IntKind.wrap_u64]
  unfold nextU
  by_cases h9 : j = 9
  · subst h9
    rw [if_pos rfl]
    have e2 : ((x % 128 * 2 ^ (7 * 9) : Nat) : Int) % 18446744073709551616 = ((x % 2 * 2 ^ (7 * 9) : Nat) : Int) := by
      have : (2 : Nat) ^ (7 * 9) = 9223372036854775808 := by decide
      rw [this]
      omega
    rw [e2, key (x % 2) (by have : (2 : Nat) ^ (7 * 9) = 9223372036854775808 := by decide
                            omega)]
  · rw [if_neg h9]
    have h2 : (2 : Nat) ^ (7 * j) ≤ 2 ^ 56 := Nat.pow_le_pow_right (by omega) (by omega)
    have h1 : x % 128 * 2 ^ (7 * j) ≤ 127 * 2 ^ (7 * j) := Nat.mul_le_mul_right _ (by omega)
    have e2 : ((x % 128 * 2 ^ (7 * j) : Nat) : Int) % 18446744073709551616 = ((x % 128 * 2 ^ (7 * j) : Nat) : Int) := by omega
    rw [e2, key (x % 128) (by omega)]
set_option maxRecDepth 100000 in
set_option maxHeartbeats 1600000 in
theorem get_some (hb b off : Nat) (n cap : Nat) (bs : List UInt8) (p : Nat) (w : World) (hS : RSt hb (some ⟨b, off, none⟩) n cap bs p w) :
    Calls Try.prog 124 #[.pointer (some ⟨hb, 0, none⟩)] w (RPostV hb hb (some ⟨b, off, none⟩) n cap bs p w (raw.rd (bs.drop p)) fun u e _ => e = .returned (.int .u64 (u : Nat))) := by
  have c1 := hS.cell1
  have hlen := hS.len
  have hle := hS.le
  have hdl : (bs.drop p).length = n - p := by rw [List.length_drop, hlen]
  have hsg : IntKind.u64.signed = false := rfl
  go_enter Try.func124, Try.ntmps124
  go_wp2
  go_loopw [6, 4, 5] (fun tv uv jv wr => ∃ j u t : Nat, jv = .int .i64 (j : Nat) ∧ uv = .int .u64 (u : Nat) ∧ tv = .int .u8 (t : Nat) ∧ GetI (bs.drop p) j u t ∧ t < 256 ∧ RSt hb (some ⟨b, off, none⟩) n cap bs (p + j) wr ∧ RStep hb hb w wr) (fun _ _ j _ => 10 - (intOf j).toNat)
  case atStart => exact ⟨0, 0, 128, rfl, rfl, rfl, GetI.start _, by omega, hS, RStep.refl _ _ _⟩
  case round =>
    obtain ⟨j, u, t, rfl, rfl, rfl, hI, ht, hSr, hstr⟩ := hrel
    clear c1 hS
    have hj10 := hI.le
    have hjl := hI.len
    rw [hdl] at hjl
    by_cases hx : 128 ≤ t ∧ j < 10
    · obtain ⟨hx1, hx2⟩ := hx
      by_cases hend : j < n - p
      · obtain ⟨x, hxb⟩ : ∃ x, (bs.drop p)[j]? = some x := ⟨(bs.drop p)[j]'(by omega), List.getElem?_eq_getElem _⟩
        have hI2 := hI.step hx1 hx2 x hxb
        have hroom := hI.room (by omega)
        have HI2 : Hid _ := hI2
        have HB : Hid _ := hxb
        clear hI hI2 hxb
        go_wp2_with fail
        refine (take_ok hb b off n cap bs (p + j) 1 _ hSr (by omega)).mono ?_
        rintro e w1 ⟨⟨o, rfl, ho⟩, hS1, hst1⟩
        have hxc1 : w1.cell? ⟨b, o, none⟩ = some (.int .u8 (x.toNat : Int)) := by
          rw [ho (by omega)]
          obtain ⟨b', off', e, hc⟩ := hS1.src (by omega)
          cases e
          have hxb := HB.out
          rw [List.getElem?_drop] at hxb
          exact hc _ _ hxb
        have hand : bits BinOp.and IntKind.u8 (x.toNat : Int) 127 = ((x.toNat % 128 : Nat) : Int) := and127 x
        have hT := hstr.trans hst1
        clear hst1 ho HB hSr hstr
        have hnb := nextU_bits j u x.toNat (by omega) hroom
        have HNB : Hid _ := hnb
        clear hnb hroom
        generalize hy : x.toNat % 128 = y at *
        have hxl := byte_lt x
        have hyl : y < 128 := by omega
        clear hy
        go_wp2
        go_roundw
        case rel => exact ⟨j + 1, _, x.toNat, by go_num, val_u64 HNB.out, rfl, HI2.out, hxl, hS1, hT⟩
        case measure => simp [intOf]; omega
      · have hrd := hI.short hx1 hx2 (by omega)
        rw [hdl] at hrd
        have HR : Hid _ := hrd
        clear hI hrd
        go_wp2_with fail
        refine (take_short hb _ n cap bs (p + j) 1 _ hSr (by omega)).mono ?_
        rintro e w1 ⟨rfl, hS1, hst1⟩
        refine ⟨rfl, ?_⟩
        unfold RPostV
        rw [HR.out]
        exact ⟨rfl, by rw [show p + (n - p) = n from by omega]; exact hS1, hstr.trans hst1⟩
    · obtain ⟨h0, hrd⟩ := hI.done hx
      have htop := hI.top
      have HR : Hid _ := hrd
      clear hI hrd
      by_cases hg : (!(decide (1 < j) && t == 0) && !(j == 10 && t != 1)) = true
      · rw [if_pos hg] at HR
        have g1 : ¬ (1 < j ∧ t = 0) := by simp at hg; omega
        have g2 : ¬ (j = 10 ∧ ¬ t = 1) := by simp at hg; omega
        clear hg
        by_cases hj1 : 1 < j
        · have ht0 : ((t : Int) == 0) = false := by rw [beq_eq_false_iff_ne]; omega
          by_cases hj : j = 10
          · obtain rfl : t = 1 := by omega
            subst hj
            clear g1 g2 ht0
            go_wp2
            go_ret
            unfold RPostV
            rw [HR.out]
            exact ⟨rfl, hSr, hstr⟩
          · have hjb : ((j : Int) == 10) = false := by rw [beq_eq_false_iff_ne]; omega
            have ht1 : t < 128 := by omega
            clear g1 g2
            go_wp2
            go_ret
            unfold RPostV
            rw [HR.out]
            exact ⟨rfl, hSr, hstr⟩
        · obtain rfl : j = 1 := by omega
          have ht1 : t < 128 := by omega
          clear g1 g2
          go_wp2
          go_ret
          unfold RPostV
          rw [HR.out]
          exact ⟨rfl, hSr, hstr⟩
      · rw [if_neg hg] at HR
        by_cases hz : 1 < j ∧ t = 0
        · obtain ⟨hj1, rfl⟩ := hz
          clear hg
          go_wp2_with fail
          refine (giveUp_any hb _ n cap bs (p + j) p _ hSr hle).mono ?_
          rintro e w1 ⟨rfl, hS1, hst1⟩
          refine ⟨rfl, ?_⟩
          unfold RPostV
          rw [HR.out]
          exact ⟨rfl, hS1, hstr.trans hst1⟩
        · have hj : j = 10 ∧ ¬ t = 1 := by simp at hg; omega
          obtain ⟨rfl, ht1⟩ := hj
          have ht0 : ((t : Int) == 0) = false := by rw [beq_eq_false_iff_ne]; omega
          have htn : ((t : Int) != 1) = true := by rw [bne_iff_ne]; omega
          clear hg hz
          by_cases hge : t < 128
          · go_wp2_with fail
            refine (giveUp_any hb _ n cap bs (p + 10) p _ hSr hle).mono ?_
            rintro e w1 ⟨rfl, hS1, hst1⟩
            refine ⟨rfl, ?_⟩
            unfold RPostV
            rw [HR.out]
            exact ⟨rfl, hS1, hstr.trans hst1⟩
          · go_wp2_with fail
            refine (giveUp_any hb _ n cap bs (p + 10) p _ hSr hle).mono ?_
            rintro e w1 ⟨rfl, hS1, hst1⟩
            refine ⟨rfl, ?_⟩
            unfold RPostV
            rw [HR.out]
            exact ⟨rfl, hS1, hstr.trans hst1⟩
end Go.Proofs.Ytfkaopfcpnkciaa
