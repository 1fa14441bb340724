import Derived.Test.YtfgnlfemckdfnaaBase
import Derived.RegionDies
namespace Go.Proofs.Ytfgnlfemckdfnaa
open Go.RowKit Go.PlainAid
structure RStep (hb mb : Nat) (w w' : World) : Prop where
  os : w'.os = w.os
  tape : w'.tape = w.tape
  output : w'.output = w.output
  size : w.heap.size ≤ w'.heap.size
  block : ∀ k, k < w.heap.size → k ≠ hb → k ≠ mb → w'.heap[k]? = w.heap[k]?
theorem RStep.refl (hb mb : Nat) (w : World) : RStep hb mb w w := ⟨rfl, rfl, rfl, Nat.le_refl _, fun _ _ _ _ => rfl⟩
theorem RStep.trans {hb mb : Nat} {w w1 w2 : World} (h : RStep hb mb w w1) (k : RStep hb mb w1 w2) : RStep hb mb w w2 :=
  ⟨k.os.trans h.os, k.tape.trans h.tape, k.output.trans h.output, Nat.le_trans h.size k.size,
    fun i hi h1 h2 => (k.block i (Nat.lt_of_lt_of_le hi h.size) h1 h2).trans (h.block i hi h1 h2)⟩
theorem RStep.wide {hb mb : Nat} {w w' : World} (h : RStep hb hb w w') : RStep hb mb w w' := ⟨h.os, h.tape, h.output, h.size, fun k hk h1 _ => h.block k hk h1 h1⟩
theorem RStep.drewN {hb mb : Nat} {w w' : World} (h : RStep hb mb w w') (q : Nat) : RStep hb mb w (w'.drewN q) := ⟨h.os, h.tape, h.output, h.size, h.block⟩
theorem RStep.ofDrewN {hb mb : Nat} {w w' : World} {q : Nat} (h : RStep hb mb (w.drewN q) w') : RStep hb mb w w' := ⟨h.os, h.tape, h.output, h.size, h.block⟩
theorem RStep.ofDrew {hb mb : Nat} {w w' : World} (h : RStep hb mb w.drew w') : RStep hb mb w w' := ⟨h.os, h.tape, h.output, h.size, h.block⟩
theorem RStep.setH {hb mb : Nat} (w : World) (j : Nat) (v : Value) : RStep hb mb w (w.setCell ⟨hb, j, none⟩ v) := ⟨rfl, rfl, rfl, by simp [World.setCell], fun _ _ h _ => Below.heap_setCell _ _ _ _ h⟩
theorem RStep.setM {hb mb : Nat} (w : World) (j : Nat) (v : Value) : RStep hb mb w (w.setCell ⟨mb, j, none⟩ v) := ⟨rfl, rfl, rfl, by simp [World.setCell], fun _ _ _ h => Below.heap_setCell _ _ _ _ h⟩
theorem RSt.drewN {hb : Nat} {ao : Option Addr} {n cap : Nat} {bs : List UInt8} {p : Nat} {w : World} (h : RSt hb ao n cap bs p w) (q : Nat) : RSt hb ao n cap bs p (w.drewN q) := ⟨h.blk, h.len, h.src, h.apart, h.le, h.small, h.room⟩
theorem RSt.drew {hb : Nat} {ao : Option Addr} {n cap : Nat} {bs : List UInt8} {p : Nat} {w : World} (h : RSt hb ao n cap bs p w) : RSt hb ao n cap bs p w.drew := ⟨h.blk, h.len, h.src, h.apart, h.le, h.small, h.room⟩
def RPost (hb mb : Nat) (ao : Option Addr) (n cap : Nat) (bs : List UInt8) (w : World) (q : Nat) (w' : World) : Prop := RSt hb ao n cap bs q w' ∧ RStep hb mb w w'
theorem giveUp_any (hb : Nat) (ao : Option Addr) (n cap : Nat) (bs : List UInt8) (p q : Nat) (w : World) (hS : RSt hb ao n cap bs p w) (hq : q ≤ n) :
    Calls Try.prog 67 #[.pointer (some ⟨hb, 0, none⟩), .int .i64 (q : Nat)] w fun e w' => e = refused ∧ RPost hb hb ao n cap bs w q w' := by
  have c0 := hS.cell0
  have c1 := hS.cell1
  have z1 := hS.frozen 1
  go_enter Try.func67, Try.ntmps67
  go_wp2
  exact ⟨rfl, rfl, hS.move hq, RStep.setH _ _ _⟩
set_option maxHeartbeats 800000 in
theorem take_short (hb : Nat) (ao : Option Addr) (n cap : Nat) (bs : List UInt8) (p k : Nat) (w : World) (hS : RSt hb ao n cap bs p w) (hk : n < p + k) :
    Calls Try.prog 129 #[.pointer (some ⟨hb, 0, none⟩), .int .i64 (k : Nat)] w fun e w' => e = refused ∧ RPost hb hb ao n cap bs w n w' := by
  have c0 := hS.cell0
  have c1 := hS.cell1
  have hle := hS.le
  have hsm := hS.small
  go_enter Try.func129, Try.ntmps129
  go_wp2_with fail
  go_quiet (fail)
  go_wp2_with fail
  refine (giveUp_any hb ao n cap bs p n _ (hS.drewN nq) (Nat.le_refl _)).mono ?_
  rintro e w1 ⟨rfl, hS1, hst⟩
  exact ⟨rfl, rfl, hS1, hst.ofDrewN⟩
set_option maxHeartbeats 800000 in
theorem take_ok (hb b off : Nat) (n cap : Nat) (bs : List UInt8) (p k : Nat) (w : World) (hS : RSt hb (some ⟨b, off, none⟩) n cap bs p w) (hk : p + k ≤ n) :
    Calls Try.prog 129 #[.pointer (some ⟨hb, 0, none⟩), .int .i64 (k : Nat)] w fun e w' => (∃ o, e = .returned (.slice (some ⟨b, o, none⟩) k (cap - p)) ∧ (0 < k → o = off + p)) ∧ RPost hb hb (some ⟨b, off, none⟩) n cap bs w (p + k) w' := by
  have c0 := hS.cell0
  have c1 := hS.cell1
  have z1 := hS.frozen 1
  have hle := hS.le
  have hsm := hS.small
  have hrm := hS.room
  go_enter Try.func129, Try.ntmps129
  go_wp2_with fail
  have e1 : IntKind.i64.wrap ((p : Int) + (k : Int)) = (p : Int) + (k : Int) := by rw [IntKind.wrap_i64]; omega
  have e2 : (0 : Int) ≤ (p : Int) + (k : Int) := by omega
  have e3 : ((p : Int) + (k : Int)).toNat = p + k := by omega
  have e4 : p + k ≤ cap := by omega
  have e5 : (p : Int) + (k : Int) ≤ (cap : Int) := by omega
  go_quiet (fail)
  go_wp2
  have hS' := hS.drewN nq
  have hst' : RStep hb hb w (w.drewN nq) := (RStep.refl _ _ _).drewN nq
  clear c0 c1 z1
  generalize w.drewN nq = wq at *
  have c0 := hS'.cell0
  have c1 := hS'.cell1
  have z1 := hS'.frozen 1
  go_quiet (fail)
  have hS2 := hS'.drewN nq
  have hst2 := hst'.drewN nq
  clear c0 c1 z1
  generalize wq.drewN nq = wr at *
  have c0 := hS2.cell0
  have c1 := hS2.cell1
  have z1 := hS2.frozen 1
  have hfin := hS2.move hk
  rw [show (((p + k : Nat) : Nat) : Int) = (p : Int) + (k : Int) from by omega] at hfin
  by_cases hcp : cap = p
  · subst hcp
    go_wp2
    go_ret
    exact ⟨⟨off, by simp, fun h => by omega⟩, hfin, hst2.trans (RStep.setH _ _ _)⟩
  · go_wp2
    go_ret
    exact ⟨⟨off + p, rfl, fun _ => rfl⟩, hfin, hst2.trans (RStep.setH _ _ _)⟩
end Go.Proofs.Ytfgnlfemckdfnaa
namespace Go.Proofs.Ytfgnlfemckdfnaa
open Go.RowKit Go.PlainAid
def RPostV {α : Type} (hb mb : Nat) (ao : Option Addr) (n cap : Nat) (bs : List UInt8) (p : Nat) (w : World) (r : Res α) (ok : α → Ending → World → Prop) (e : Ending) (w' : World) : Prop := match r with
  | .error k => e = refused ∧ RPost hb mb ao n cap bs w (p + k) w'
  | .ok (x, k) => ok x e w' ∧ RPost hb mb ao n cap bs w (p + k) w'
def pre (a : List UInt8) (r : Option (List UInt8)) : Option (List UInt8) := match r with
  | none => none
  | some ds => some (a ++ ds)
structure GetI (l : List UInt8) (j u t : Nat) : Prop where
  le : j ≤ 10
  len : j ≤ l.length
  last : 0 < j → lastOf (l.take j) = t
  first : j = 0 → t = 128
  shut : t < 128 → digits 10 l = some (l.take j)
  more : 128 ≤ t → digits 10 l = pre (l.take j) (digits (10 - j) (l.drop j))
  small : j ≤ 9 → u = val (l.take j)
  great : j = 10 → t = 1 → u = val (l.take j)
  top : u < 2 ^ 64
def nextU (j u b : Nat) : Nat := if j = 9 then u + b % 2 * 2 ^ 63 else u + b % 128 * 2 ^ (7 * j)
theorem GetI.start (l : List UInt8) : GetI l 0 0 128 := ⟨by omega, by omega, fun h => by omega, fun _ => rfl, fun h => by omega, fun _ => by simp [pre]; cases digits 10 l <;> rfl, fun _ => rfl, fun h => by omega, by decide⟩
theorem lastOf_take (l : List UInt8) (j : Nat) (b : UInt8) (h : l[j]? = some b) : lastOf (l.take (j + 1)) = b.toNat := by
  have hj := (List.getElem?_eq_some_iff.1 h).1
  refine last_get _ _ ?_
  rw [List.length_take, Nat.min_eq_left (by omega), Nat.add_sub_cancel, List.getElem?_take, if_pos (by omega), h]
theorem pow7 (j : Nat) : (128 : Nat) ^ j = 2 ^ (7 * j) := by rw [show (128 : Nat) = 2 ^ 7 from rfl, ← Nat.pow_mul]
theorem val_take_succ (l : List UInt8) (j : Nat) (b : UInt8) (h : l[j]? = some b) : val (l.take (j + 1)) = val (l.take j) + b.toNat % 128 * 2 ^ (7 * j) := by
  have hj := (List.getElem?_eq_some_iff.1 h).1
  rw [val_split (l.take (j + 1)) j, List.take_take, Nat.min_eq_left (by omega)]
  congr 1
  have : (l.take (j + 1)).drop j = [b] := by
    rw [List.drop_take, show j + 1 - j = 1 from by omega]
    rw [List.drop_eq_getElem_cons hj]
    rw [List.getElem?_eq_getElem hj] at h
    cases h
    rfl
  rw [this]
  simp only [val]
  rw [pow7, Nat.mul_comm]
  simp
theorem GetI.step {l : List UInt8} {j u t : Nat} (h : GetI l j u t) (ht : 128 ≤ t) (hj : j < 10) (b : UInt8) (hb : l[j]? = some b) : GetI l (j + 1) (nextU j u b.toNat) b.toNat := by
  have hjl := (List.getElem?_eq_some_iff.1 hb).1
  have hd : l.drop j = b :: l.drop (j + 1) := by
    rw [List.drop_eq_getElem_cons hjl]
    congr 1
    rw [List.getElem?_eq_getElem hjl] at hb
    exact Option.some.inj hb
  have htk : l.take (j + 1) = l.take j ++ [b] := by rw [List.take_add_one, hb]; rfl
  have hm := h.more ht
  rw [hd, show 10 - j = (10 - (j + 1)) + 1 from by omega] at hm
  simp only [digits] at hm
  have hu := h.small (by omega)
  have hv := val_lt (l.take j)
  rw [List.length_take, Nat.min_eq_left (by omega), pow7] at hv
  have hb2 := byte_lt b
  have htop : nextU j u b.toNat < 2 ^ 64 := by
    unfold nextU
    have hp : (2 : Nat) ^ (7 * j) ≤ 2 ^ 63 := Nat.pow_le_pow_right (by omega) (by omega)
    split
    · omega
    · have h1 : b.toNat % 128 * 2 ^ (7 * j) ≤ 127 * 2 ^ (7 * j) := Nat.mul_le_mul_right _ (by omega)
      have h2 : (2 : Nat) ^ (7 * j) ≤ 2 ^ 56 := Nat.pow_le_pow_right (by omega) (by omega)
      omega
  refine ⟨by omega, by omega, fun _ => lastOf_take l j b hb, fun e => by omega, fun hlt => ?_, fun hge => ?_, fun hle => ?_, fun he hone => ?_, htop⟩
  · rw [if_pos hlt] at hm
    rw [hm, htk]
    rfl
  · rw [if_neg (by omega)] at hm
    rw [hm, htk]
    cases digits (10 - (j + 1)) (l.drop (j + 1)) with
    | none => rfl
    | some ds => simp [pre]
  · unfold nextU
    rw [if_neg (by omega), val_take_succ l j b hb, hu]
  · have : j = 9 := by omega
    subst this
    unfold nextU
    rw [if_pos rfl, val_take_succ l 9 b hb, hu, hone]
theorem GetI.short {l : List UInt8} {j u t : Nat} (h : GetI l j u t) (ht : 128 ≤ t) (hj : j < 10) (hn : l.length = j) : raw.rd l = .error l.length := by
  have hm := h.more ht
  rw [show 10 - j = (10 - (j + 1)) + 1 from by omega, List.drop_eq_nil_of_le (by omega)] at hm
  simp only [digits, pre] at hm
  simp only [raw]
  rw [hm]
theorem GetI.done {l : List UInt8} {j u t : Nat} (h : GetI l j u t) (hx : ¬ (128 ≤ t ∧ j < 10)) : 0 < j ∧ raw.rd l = if (!(decide (1 < j) && t == 0) && !(j == 10 && t != 1)) = true then .ok (u, j) else .error 0 := by
  have h0 : 0 < j := by
    rcases Nat.eq_zero_or_pos j with e | e
    · have := h.first e; omega
    · exact e
  have hl : (l.take j).length = j := by rw [List.length_take, Nat.min_eq_left h.len]
  have hd : digits 10 l = some (l.take j) := by
    by_cases ht : t < 128
    · exact h.shut ht
    · have hm := h.more (by omega)
      have : j = 10 := by have := h.le; omega
      subst this
      rw [hm]
      simp [digits, pre]
  refine ⟨h0, ?_⟩
  simp only [raw]
  rw [hd]
  simp only [right, hl, h.last h0]
  by_cases hr : (!(decide (1 < j) && t == 0) && !(j == 10 && t != 1)) = true
  · rw [if_pos hr, if_pos hr]
    congr 2
    by_cases h9 : j ≤ 9
    · exact (h.small h9).symm
    · have hj10 : j = 10 := by have := h.le; omega
      refine (h.great hj10 ?_).symm
      subst hj10
      simp at hr
      exact hr.2
  · rw [if_neg hr, if_neg hr]
theorem and127N : ∀ x : Fin 256, x.val &&& 127 = x.val % 128 := by decide +kernel
theorem and127 (x : UInt8) : bits BinOp.and IntKind.u8 (x.toNat : Int) 127 = ((x.toNat % 128 : Nat) : Int) := by
  have hx := byte_lt x
  have h := (bits_nat IntKind.u8 8 (by decide) wraps_u8 x.toNat 127 (by omega) (by omega)).1
  rw [show (127 : Int) = ((127 : Nat) : Int) from rfl, h, and127N ⟨x.toNat, hx⟩]
theorem GetI.room {l : List UInt8} {j u t : Nat} (h : GetI l j u t) (hj : j ≤ 9) : u < 2 ^ (7 * j) := by
  have hv := val_lt (l.take j)
  rw [List.length_take, Nat.min_eq_left h.len, pow7] at hv
  rw [h.small hj]
  exact hv
theorem nextU_bits (j u x : Nat) (hj : j ≤ 9) (hu : u < 2 ^ (7 * j)) : bits BinOp.or IntKind.u64 (u : Int) (IntKind.u64.wrap (((x % 128 : Nat) : Int) * 2 ^ (7 * j))) = ((nextU j u x : Nat) : Int) := by
  have e1 : (((x % 128 : Nat) : Int) * 2 ^ (7 * j)) = ((x % 128 * 2 ^ (7 * j) : Nat) : Int) := by simp
  have hp : (2 : Nat) ^ (7 * j) ≤ 2 ^ 63 := Nat.pow_le_pow_right (by omega) (by omega)
  have key : ∀ y : Nat, y * 2 ^ (7 * j) < 2 ^ 64 → bits BinOp.or IntKind.u64 (u : Int) ((y * 2 ^ (7 * j) : Nat) : Int) = ((u + y * 2 ^ (7 * j) : Nat) : Int) := by
    intro y hy
    have h := (bits_nat IntKind.u64 64 (by decide) (fun n h0 h1 => IntWalk.u64_in n ⟨h0, by omega⟩) u (y * 2 ^ (7 * j)) (by omega) hy).2
    rw [h]
    congr 1
    rw [Nat.or_comm, Nat.mul_comm, ← Nat.two_pow_add_eq_or_of_lt hu]
    omega
  rw [e1, IntKind.wrap_u64]
  unfold nextU
  by_cases h9 : j = 9
  · subst h9
    rw [if_pos rfl]
    have e2 : ((x % 128 * 2 ^ (7 * 9) : Nat) : Int) % 18446744073709551616 = ((x % 2 * 2 ^ (7 * 9) : Nat) : Int) := by
      have : (2 : Nat) ^ (7 * 9) = 9223372036854775808 := by decide
      rw [this]
      omega
    rw [e2, key (x % 2) (by have : (2 : Nat) ^ (7 * 9) = 9223372036854775808 := by decide
                            omega)]
  · rw [if_neg h9]
    have h2 : (2 : Nat) ^ (7 * j) ≤ 2 ^ 56 := Nat.pow_le_pow_right (by omega) (by omega)
    have h1 : x % 128 * 2 ^ (7 * j) ≤ 127 * 2 ^ (7 * j) := Nat.mul_le_mul_right _ (by omega)
    have e2 : ((x % 128 * 2 ^ (7 * j) : Nat) : Int) % 18446744073709551616 = ((x % 128 * 2 ^ (7 * j) : Nat) : Int) := by omega
    rw [e2, key (x % 128) (by omega)]
theorem raw_lt {l : List UInt8} {u k : Nat} (h : raw.rd l = .ok (u, k)) : u < 2 ^ 64 ∧ k ≤ l.length := by
  obtain ⟨h1, h2⟩ := law_raw.back _ _ _ h
  simp only [raw] at h2
  split at h2
  · rename_i h3; exact ⟨h3, h1⟩
  · cases h2
/-- What number.Read answers. -/
def readV (l : List UInt8) : Value := match raw.rd l with
  | .ok (u, k) => .tuple #[.int .u64 (u : Nat), .int .i64 (k : Nat), .int .i64 0]
  | .error k => .tuple #[.int .u64 0, .int .i64 (k : Nat), .int .i64 20]
theorem raw_err {l : List UInt8} {k : Nat} (h : raw.rd l = .error k) : k ≤ l.length := by
  simp only [raw] at h
  split at h
  · cases h; exact Nat.le_refl _
  · split at h
    · cases h
    · cases h; exact Nat.zero_le _
set_option maxRecDepth 100000 in
set_option maxHeartbeats 3200000 in
theorem numRead_any (ao : Option Addr) (m c : Nat) (l : List UInt8) (w : World) (hl : l.length = m) (hF : From w ao l) (hm : m ≤ 140737488355328) :
    Calls Try.prog 130 #[.slice ao m c] w fun e w' => e = .returned (readV l) ∧ w' = w := by
  have hsg : IntKind.u64.signed = false := rfl
  go_enter Try.func130, Try.ntmps130
  go_wp2
  go_loop [2, 9] (fun u j => ∃ i U t : Nat, i ≤ m ∧ i ≤ 9 ∧ j = .int .i64 (i : Nat) ∧ u = .int .u64 (U : Nat) ∧ GetI l i U t ∧ 128 ≤ t) (fun _ j => m - (intOf j).toNat)
  case atStart => exact ⟨0, 0, 128, by omega, by omega, rfl, rfl, GetI.start _, Nat.le_refl _⟩
  case round =>
    obtain ⟨i, U, t, him, hi9, rfl, rfl, hI, ht⟩ := hrel
    by_cases hend : i < m
    · obtain ⟨x, hxb⟩ : ∃ x, l[i]? = some x := ⟨l[i]'(by omega), List.getElem?_eq_getElem _⟩
      have hI2 := hI.step ht (by omega) x hxb
      have hnb := nextU_bits i U x.toNat hi9 (hI.room hi9)
      obtain ⟨b, off, rfl, hc⟩ := hF (by omega)
      have hxc : w.cell? ⟨b, off + i, none⟩ = some (.int .u8 (x.toNat : Int)) := hc i x hxb
      have hand : bits BinOp.and IntKind.u8 (x.toNat : Int) 127 = ((x.toNat % 128 : Nat) : Int) := and127 x
      have hxl := byte_lt x
      have HI2 : Hid _ := hI2
      have HNB : Hid _ := hnb
      clear hI hI2 hnb hc hF hxb
      generalize x.toNat = X at *
      clear x
      have hA : (¬ (0 : Int) < (i : Int)) ∨ ((0 : Int) < (i : Int) ∧ ((X : Int) == 0) = true) ∨ ((0 : Int) < (i : Int) ∧ ((X : Int) == 0) = false) := by
        simp only [beq_iff_eq, beq_eq_false_iff_ne]; omega
      have hC : ((i : Int) == 9) = false ∨ (((i : Int) == 9) = true ∧ ((X : Int) != 1) = true) ∨ (((i : Int) == 9) = true ∧ ((X : Int) != 1) = false) := by
        simp only [beq_iff_eq, beq_eq_false_iff_ne, bne_iff_ne, bne_eq_false_iff_eq]; omega
      have hV : ∀ b : Bool, (!(decide (1 < i + 1) && X == 0) && !(i + 1 == 10 && X != 1)) = b → ¬ (128 ≤ X ∧ i + 1 < 10) → readV l = if b = true then .tuple #[.int .u64 (bits BinOp.or IntKind.u64 (U : Int) (IntKind.u64.wrap (((X % 128 : Nat) : Int) * 2 ^ (7 * i)))), .int .i64 ((i : Int) + 1), .int .i64 0] else .tuple #[.int .u64 0, .int .i64 0, .int .i64 20] := fun b hb hn => by
        have := (HI2.out.done hn).2
        unfold readV; rw [this, hb, HNB.out]
        cases b <;> rfl
      have HV : Hid _ := hV
      generalize hy : X % 128 = y at *
      have hyl : y < 128 := by omega
      clear hy hV
      rcases hA with a1 | ⟨a1, a2⟩ | ⟨a1, a2⟩
      all_goals rcases hC with c1 | ⟨c1, c2⟩ | ⟨c1, c2⟩
      all_goals by_cases h3 : (X : Int) < 128
      all_goals go_wp2
      all_goals simp only [beq_iff_eq, beq_eq_false_iff_ne, bne_iff_ne, bne_eq_false_iff_eq, ne_eq] at *
      all_goals first
        | exact ⟨⟨i + 1, nextU i U X, X, by omega, by omega, by go_num, val_u64 HNB.out, HI2.out, by omega⟩, by simp [intOf]; omega⟩
        | (have hb : (!(decide (1 < i + 1) && X == 0) && !(i + 1 == 10 && X != 1)) = true := by (simp; omega)
           go_ret3
           exact ⟨by rw [HV.out true hb (by omega)]; rfl, rfl⟩)
        | (have hb : (!(decide (1 < i + 1) && X == 0) && !(i + 1 == 10 && X != 1)) = false := by (simp; omega)
           go_ret3
           exact ⟨by rw [HV.out false hb (by omega)]; rfl, rfl⟩)
    · obtain rfl : i = m := by omega
      have hrd := hI.short ht (by omega) hl
      have hR : readV l = .tuple #[.int .u64 0, .int .i64 (i : Nat), .int .i64 20] := by unfold readV; rw [hrd, hl]
      have HR : Hid _ := hR
      clear hI hrd hR
      go_wp2
      go_ret3
      exact ⟨by rw [HR.out]; rfl, rfl⟩
theorem slice_from (b off n cap p : Nat) (hp : p ≤ n) (hn : n ≤ cap) (w : World) : ∃ ao, (∀ W, (Instr.sliceAt 22 (.slice (some ⟨b, off, none⟩) n cap) (some (.int .i64 (p : Int))) none none).run Try.prog W = .ok (.slice ao (n - p) (cap - p)) W) ∧ ∀ bs : List UInt8, bs.length = n → From w (some ⟨b, off, none⟩) bs → From w ao (bs.drop p) := by
  have hs : (sizeOf 5).run Try.prog w = .ok 1 w := by kernel_rfl
  refine ⟨if cap = p then some ⟨b, off, none⟩ else some ⟨b, off + p, none⟩, fun W => ?_, fun bs hl hF h0 => ?_⟩
  · have hs : (sizeOf 5).run Try.prog W = .ok 1 W := by kernel_rfl
    have h1 : (0 : Int) ≤ (p : Int) := by omega
    have h2 : (p : Int) ≤ (n : Int) := by omega
    have he : Try.prog.elem 22 = 5 := by kernel_rfl
    have hu2 : Try.prog.underlying 22 = some (.slice (Try.prog.elem 22)) := by rw [he]; exact Try.underlying22
    rw [run_sliceAt_slice _ _ _ _ _ _ hu2, run_slice_l _ _ _ _ _ hu2 .i64 (p : Int) (by omega) (by omega), he, hs]
    by_cases hcp : cap = p
    · simp [Result.andThen, sliced, hcp]
    · simp [Result.andThen, sliced, Addr.add, hcp]
  · rw [List.length_drop] at h0
    obtain ⟨b', off', e, hc⟩ := hF (by omega)
    cases e
    rw [if_neg (by omega)]
    exact ⟨b, off + p, rfl, fun j u hu => by rw [List.getElem?_drop] at hu; rw [Nat.add_assoc]; exact hc _ _ hu⟩
set_option maxRecDepth 100000 in
set_option maxHeartbeats 1600000 in
theorem get_some (hb b off : Nat) (n cap : Nat) (bs : List UInt8) (p : Nat) (w : World) (hS : RSt hb (some ⟨b, off, none⟩) n cap bs p w) :
    Calls Try.prog 124 #[.pointer (some ⟨hb, 0, none⟩)] w (RPostV hb hb (some ⟨b, off, none⟩) n cap bs p w (raw.rd (bs.drop p)) fun u e _ => e = .returned (.int .u64 (u : Nat))) := by
  have c0 := hS.cell0
  have c1 := hS.cell1
  have hle := hS.le
  have hsm := hS.small
  obtain ⟨ao, hsl, hfr⟩ := slice_from b off n cap p hle hS.room w
  have hF := hfr bs hS.len hS.src
  have hdl : (bs.drop p).length = n - p := by rw [List.length_drop, hS.len]
  have HRD : Hid (∀ q, Calls Try.prog 130 #[.slice ao (n - p) (cap - p)] (w.drewN q) fun e w' => e = .returned (readV (bs.drop p)) ∧ w' = w.drewN q) := fun q => numRead_any ao (n - p) (cap - p) (bs.drop p) (w.drewN q) hdl hF (by omega)
  have HS : Hid _ := hS
  have HDL : Hid _ := hdl
  clear hS hF hfr hdl
  obtain ⟨m, hm⟩ : ∃ m, m = n - p := ⟨_, rfl⟩
  have HM : Hid (m = n - p) := hm
  rw [← hm] at HRD hsl
  clear hm
  cases hr : raw.rd (bs.drop p) with
  | error k =>
    have hk := raw_err hr
    have hv : readV (bs.drop p) = .tuple #[.int .u64 0, .int .i64 (k : Nat), .int .i64 20] := by unfold readV; rw [hr]
    rw [hv] at HRD
    have HK : Hid (k ≤ n - p) := by rw [← HDL.out]; exact hk
    have hkn : p + k ≤ n := by have := HK.out; omega
    clear hr hk hv
    go_enter Try.func124, Try.ntmps124
    go_wp2_with fail
    go_quiet (first | (go_at_call 130; refine Calls.quiet_of_same (HRD.out _)))
    have hS1 := HS.out.drewN nq
    have hst : RStep hb hb w (w.drewN nq) := (RStep.refl _ _ _).drewN nq
    clear c0 c1 HRD
    generalize w.drewN nq = w1 at *
    have c0 := hS1.cell0
    have c1 := hS1.cell1
    go_wp2_with fail
    refine (giveUp_any hb _ n cap bs p (p + k) _ hS1 hkn).mono ?_
    rintro e w2 ⟨rfl, hS2, hst2⟩
    exact ⟨rfl, rfl, hS2, hst.trans hst2⟩
  | ok v =>
    obtain ⟨u, k⟩ := v
    have hk := (raw_lt hr).2
    have hv : readV (bs.drop p) = .tuple #[.int .u64 (u : Nat), .int .i64 (k : Nat), .int .i64 0] := by unfold readV; rw [hr]
    rw [hv] at HRD
    have HK : Hid (k ≤ n - p) := by rw [← HDL.out]; exact hk
    have hkn : p + k ≤ n := by have := HK.out; omega
    clear hr hk hv
    go_enter Try.func124, Try.ntmps124
    go_wp2_with fail
    go_quiet (first | (go_at_call 130; refine Calls.quiet_of_same (HRD.out _)))
    have hS1 := HS.out.drewN nq
    have hst : RStep hb hb w (w.drewN nq) := (RStep.refl _ _ _).drewN nq
    clear c0 c1 HRD
    generalize w.drewN nq = w1 at *
    have c0 := hS1.cell0
    have c1 := hS1.cell1
    have z1 := hS1.frozen 1
    have hfin := hS1.move hkn
    rw [show (((p + k : Nat) : Nat) : Int) = (p : Int) + (k : Int) from by omega] at hfin
    go_wp2
    go_ret
    exact ⟨rfl, hfin, hst.trans (RStep.setH _ _ _)⟩
end Go.Proofs.Ytfgnlfemckdfnaa
