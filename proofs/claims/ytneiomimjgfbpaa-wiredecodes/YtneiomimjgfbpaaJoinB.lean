import Derived.Test.YtneiomimjgfbpaaSameV
import Derived.Test.YtneiomimjgfbpaaFields
import Derived.Test.YtneiomimjgfbpaaRefA
import Derived.Test.YtneiomimjgfbpaaRDecQ
namespace Go.Proofs.Ytneiomimjgfbpaa
open Go.RowKit Go.PlainAid
set_option linter.unusedSimpArgs false
set_option linter.unusedVariables false

/-- The reference's reader: what it holds. -/
structure RdS (w : World) (hb : Nat) (ao : Option Addr) (n cap : Nat) (bs : List UInt8) (p : Nat) (wrong : Bool) : Prop where
  c0 : w.cell? ⟨hb, 0, none⟩ = some (.slice ao n cap)
  c1 : w.cell? ⟨hb, 1, none⟩ = some (.int .i64 (p : Nat))
  c2 : w.cell? ⟨hb, 2, none⟩ = some (.bool wrong)
  len : bs.length = n
  src : From w ao bs
  le : p ≤ n
theorem RdS.drewn {w w' : World} {hb : Nat} {ao : Option Addr} {n cap p : Nat} {bs : List UInt8} {wrong : Bool} (h : RdS w hb ao n cap bs p wrong) (hD : Drewn w w') : RdS w' hb ao n cap bs p wrong := by
  have k : ∀ a : Addr, w'.cell? a = w.cell? a := fun a => World.cell?_of_block (w := w) (by rw [hD.heap])
  exact ⟨(k _).trans h.c0, (k _).trans h.c1, (k _).trans h.c2, h.len, fun h0 => by obtain ⟨b, o, e, hc⟩ := h.src h0; exact ⟨b, o, e, fun j u hu => (k _).trans (hc j u hu)⟩, h.le⟩
theorem digits_nil {f : Nat} (hf : 0 < f) : digits f [] = none := by
  cases f with
  | zero => omega
  | succ f => rfl
theorem digits_end {f : Nat} {b : UInt8} {l : List UInt8} (hf : 0 < f) (h : b.toNat < 128) : digits f (b :: l) = some [b] := by
  cases f with
  | zero => omega
  | succ f => simp [digits, h]
theorem digits_more {f : Nat} {b : UInt8} {l : List UInt8} (h : ¬ b.toNat < 128) : (digits (f + 1) (b :: l)).isNone = (digits f l).isNone := by
  simp only [digits, if_neg h]
  cases digits f l <;> rfl
set_option maxRecDepth 100000 in
set_option maxHeartbeats 1600000 in
theorem rcut_any (hb : Nat) (ao : Option Addr) (n cap p : Nat) (bs : List UInt8) (wrong : Bool) (w : World) (hS : RdS w hb ao n cap bs p wrong) (hsm : n ≤ 140737488355328) :
    Calls Try.prog 97 #[.pointer (some ⟨hb, 0, none⟩)] w fun e w' => e = .returned (.bool (digits 10 (bs.drop p)).isNone) ∧ Drewn w w' := by
  go_enter Try.func97, Try.ntmps97
  go_wp2
  go_loopw [3] (fun iv wr => ∃ k : Nat, k ≤ 10 ∧ p + k ≤ n ∧ iv = .int .i64 (k : Nat) ∧ Drewn w wr ∧ (digits 10 (bs.drop p)).isNone = (digits (10 - k) (bs.drop (p + k))).isNone) (fun iv _ => 10 - (intOf iv).toNat)
  case atStart => exact ⟨0, by omega, by have := hS.le; omega, rfl, Drewn.refl _, rfl⟩
  case round =>
    obtain ⟨k, hk, hpk, rfl, hD, hd⟩ := hrel
    obtain ⟨c0, c1, c2, hlen, hsrc, hle⟩ := hS.drewn hD
    have HD : Hid _ := hd
    clear hd hS
    by_cases h10 : k < 10
    · by_cases hend : n ≤ p + k
      · have hv : (digits (10 - k) (bs.drop (p + k))).isNone = true := by rw [List.drop_eq_nil_of_le (by omega), digits_nil (by omega)]; rfl
        have HV : Hid _ := hv
        clear hv
        go_wp2_with fail
        go_quiet (fail)
        go_wp2
        go_ret
        exact ⟨ret_bool (by rw [HD.out, HV.out]), hD.drewN nq⟩
      · obtain ⟨u, hu⟩ : ∃ u, bs[p + k]? = some u := ⟨_, List.getElem?_eq_getElem (by omega)⟩
        obtain ⟨b, off, rfl, hc⟩ := hsrc (by omega)
        have hcu := hc (p + k) u hu
        have hcu' : wr.cell? ⟨b, off + (p + k), none⟩ = some (.int .u8 (u.toNat : Int)) := hcu
        have hdr : bs.drop (p + k) = u :: bs.drop (p + (k + 1)) := by
          rw [List.drop_eq_getElem_cons (by omega)]
          rw [List.getElem?_eq_getElem (by omega)] at hu
          rw [Option.some.inj hu]
          rfl
        have HDR : Hid _ := hdr
        clear hc hcu hu hdr hsrc
        have hidx : ((p : Int) + (k : Int)) < (n : Int) := by omega
        by_cases hu : u.toNat < 128
        · go_wp2_with fail
          go_quiet (fail)
          have hD1 := hD.drewN nq
          go_wp2_with fail
          go_quiet (fail)
          go_wp2
          go_ret
          exact ⟨ret_bool (by rw [HD.out, HDR.out, digits_end (by omega) hu]; rfl), hD1.drewN nq⟩
        · go_wp2_with fail
          go_quiet (fail)
          have hD1 := hD.drewN nq
          go_wp2_with fail
          go_quiet (fail)
          have hD2 := hD1.drewN nq
          rw [World.drewN_drewN] at hD2
          go_wp2
          go_roundw
          case rel =>
            refine ⟨k + 1, by omega, by omega, by go_num, hD2, ?_⟩
            rw [HD.out, HDR.out, show 10 - k = (10 - (k + 1)) + 1 from by omega, digits_more hu]
          case measure => simp [intOf]; omega
    · go_wp2
      go_ret
      refine ⟨ret_bool ?_, hD⟩
      rw [HD.out, show 10 - k = 0 from by omega]
      rfl
end Go.Proofs.Ytneiomimjgfbpaa
namespace Go.Proofs.Ytneiomimjgfbpaa
open Go.RowKit Go.PlainAid
set_option linter.unusedSimpArgs false
set_option linter.unusedVariables false

set_option maxRecDepth 100000 in
/-- The reference's short: the bytes end ahead of the end of a field. -/
theorem rshort_any (hb : Nat) (ao : Option Addr) (n cap p : Nat) (bs : List UInt8) (wrong : Bool) (w : World) (hS : RdS w hb ao n cap bs p wrong) (z1 : w.frozen? ⟨hb, 1, none⟩ = false) (z2 : w.frozen? ⟨hb, 2, none⟩ = false) :
    Calls Try.prog 98 #[.pointer (some ⟨hb, 0, none⟩)] w fun e w' => e = .returned (.tuple #[]) ∧ w' = (w.setCell ⟨hb, 1, none⟩ (.int .i64 (n : Nat))).setCell ⟨hb, 2, none⟩ (.bool true) := by
  obtain ⟨c0, c1, c2, hlen, hsrc, hle⟩ := hS
  clear hsrc
  go_enter Try.func98, Try.ntmps98
  go_wp2
  go_end0
  exact ⟨rfl, rfl⟩
set_option maxRecDepth 100000 in
/-- The reference's done: is all read? Else the place. -/
theorem rdone_any (hb : Nat) (ao : Option Addr) (n cap p : Nat) (bs : List UInt8) (wrong : Bool) (w : World) (hS : RdS w hb ao n cap bs p wrong) :
    Calls Try.prog 86 #[.pointer (some ⟨hb, 0, none⟩)] w fun e w' => e = .returned (if wrong = true ∨ p < n then .tuple #[.int .i64 (p : Nat), .int .i64 20] else .tuple #[.int .i64 0, .int .i64 0]) ∧ Drewn w w' := by
  obtain ⟨c0, c1, c2, hlen, hsrc, hle⟩ := hS
  clear hsrc
  cases wrong with
  | true =>
    rw [if_pos (Or.inl rfl)]
    go_enter Try.func86, Try.ntmps86
    go_wp2_with fail
    go_quiet (fail)
    go_wp2
    go_ret2
    exact ⟨rfl, (Drewn.refl _).drewN nq⟩
  | false =>
    by_cases h : p < n
    · rw [if_pos (Or.inr h)]
      have hd : ((p : Int) < (n : Int)) := by omega
      go_enter Try.func86, Try.ntmps86
      go_wp2_with fail
      go_quiet (fail)
      go_wp2
      go_ret2
      exact ⟨rfl, (Drewn.refl _).drewN nq⟩
    · rw [if_neg (by simp; omega)]
      have hd : ¬ ((p : Int) < (n : Int)) := by omega
      go_enter Try.func86, Try.ntmps86
      go_wp2_with fail
      go_quiet (fail)
      go_wp2
      go_ret2
      exact ⟨rfl, (Drewn.refl _).drewN nq⟩
end Go.Proofs.Ytneiomimjgfbpaa
namespace Go.Proofs.Ytneiomimjgfbpaa
open Go.RowKit Go.PlainAid
set_option linter.unusedSimpArgs false
set_option linter.unusedVariables false
theorem digits_mid : ∀ (f : Nat) (l ds : List UInt8), digits f l = some ds → ∀ (k : Nat) (u : UInt8), k + 1 < ds.length → ds[k]? = some u → ¬ u.toNat < 128 := by
  intro f
  induction f with
  | zero => intro l ds h k u hk; simp only [digits, Option.some.injEq] at h; subst h; simp at hk
  | succ f ih =>
    intro l ds h k u hk hu
    cases l with
    | nil => cases h
    | cons b l =>
      simp only [digits] at h
      split at h
      · simp only [Option.some.injEq] at h
        subst h
        simp at hk
      · rename_i hb
        cases e : digits f l with
        | none => rw [e] at h; cases h
        | some cs =>
          rw [e] at h
          simp only [Option.some.injEq] at h
          subst h
          cases k with
          | zero => simp only [List.getElem?_cons_zero, Option.some.injEq] at hu; subst hu; exact hb
          | succ k => exact ih l cs e k u (by simp at hk; omega) (by simpa using hu)
theorem val_snoc (ds : List UInt8) (k : Nat) (u : UInt8) (h : ds[k]? = some u) : val (ds.take (k + 1)) = val (ds.take k) + 128 ^ k * (u.toNat % 128) := by
  have hk := (List.getElem?_eq_some_iff.1 h).1
  rw [val_split (ds.take (k + 1)) k, List.take_take, Nat.min_eq_left (by omega), List.take_add_one, h]
  congr 2
  rw [List.drop_append_of_le_length (by simp; omega), List.drop_of_length_le (by simp; omega)]
  simp [val]
theorem pow_le9 {k : Nat} (h : k ≤ 9) : (128 : Nat) ^ k ≤ 9223372036854775808 := by
  have : (128 : Nat) ^ k ≤ 128 ^ 9 := Nat.pow_le_pow_right (by omega) h
  have e : (128 : Nat) ^ 9 = 9223372036854775808 := by decide
  omega
/-- What 'raw' answers: the number counts where the digits are right. -/
def RawAns (ds : List UInt8) (e : Ending) : Prop := ∃ (nv : Int) (sz : Int), e = .returned (.tuple #[.int .u64 nv, .int .i64 sz, .bool (right ds)]) ∧ (right ds = true → nv = (val ds : Nat) ∧ sz = (ds.length : Nat))
/-- The digits at the k-th round. -/
structure RawK (ds : List UInt8) (k : Nat) (n u : Value) : Prop where
  lt : k < ds.length ∨ (k = 10 ∧ ds.length = 10)
  num : ∃ x : Int, n = .int .u64 x ∧ (k ≤ 9 → x = (val (ds.take k) : Nat))
  unit : ∃ x : Int, u = .int .u64 x ∧ (k ≤ 9 → x = ((128 ^ k : Nat) : Int))
  last : k = 10 → ¬ lastOf ds < 128
set_option maxRecDepth 100000 in
set_option maxHeartbeats 6400000 in
theorem rraw_any (hb : Nat) (ao : Option Addr) (n cap p : Nat) (bs : List UInt8) (wrong : Bool) (w : World) (hS : RdS w hb ao n cap bs p wrong) (hsm : n ≤ 140737488355328) (ds : List UInt8) (hd : digits 10 (bs.drop p) = some ds) :
    Calls Try.prog 99 #[.pointer (some ⟨hb, 0, none⟩)] w fun e w' => RawAns ds e ∧ Drewn w w' := by
  obtain ⟨hd1, hd2, hd3⟩ := digits_take _ _ _ hd
  have hmid := digits_mid _ _ _ hd
  have hlast := digits_last _ _ _ hd
  have hds0 : 0 < ds.length := by
    rcases Nat.eq_zero_or_pos ds.length with h0 | h0
    · have := hlast (by omega)
      have e := List.eq_nil_of_length_eq_zero h0
      exact absurd e this.2
    · exact h0
  have hget : ∀ k u, ds[k]? = some u → bs[p + k]? = some u := fun k u hu => by
    rw [hd2, List.getElem?_take] at hu
    split at hu
    · rwa [List.getElem?_drop] at hu
    · cases hu
  have HM : Hid _ := hmid
  have HL : Hid _ := hlast
  have HG : Hid _ := hget
  have HD : Hid _ := hd
  have HD2 : Hid _ := hd2
  have hd1' : ds.length ≤ n - p := by have := hS.len; simpa [this] using hd1
  clear hmid hlast hget hd hd2 hd1
  go_enter Try.func99, Try.ntmps99
  go_wp2
  go_loopw [5, 6, 7, 8] (fun (nv : Value) (uv : Value) (iv : Value) (_ : Value) (wr : World) => ∃ k : Nat, k ≤ 10 ∧ iv = .int .i64 (k : Nat) ∧ RawK ds k nv uv ∧ Drewn w wr) (fun _ _ iv _ _ => 10 - (intOf iv).toNat)
  case atStart => exact ⟨0, by omega, rfl, ⟨Or.inl hds0, ⟨0, rfl, fun _ => by simp [val]⟩, ⟨1, rfl, fun _ => rfl⟩, fun h => by omega⟩, Drewn.refl _⟩
  case round =>
    obtain ⟨k, hk, rfl, ⟨hkl, ⟨x, rfl, hx⟩, ⟨y, rfl, hy⟩, hrl⟩, hDr⟩ := hrel
    obtain ⟨c0, c1, c2, hlen, hsrc, hle⟩ := hS.drewn hDr
    clear hS
    by_cases h10 : k < 10
    · have hkd : k < ds.length := by omega
      obtain ⟨u, hu⟩ : ∃ u, ds[k]? = some u := ⟨ds[k]'hkd, List.getElem?_eq_getElem _⟩
      have hub := HG.out k u hu
      obtain ⟨b, off, rfl, hc⟩ := hsrc (by omega)
      have hcu : wr.cell? ⟨b, off + (p + k), none⟩ = some (.int .u8 (u.toNat : Int)) := hc (p + k) u hub
      have hidx : ((p : Int) + (k : Int)) < (n : Int) := by omega
      have hu256 := byte_lt u
      have hx' := hx (by omega)
      have hy' := hy (by omega)
      have hpow := pow_le9 (show k ≤ 9 by omega)
      have hvs := val_snoc ds k u hu
      have hvlt := val_lt (ds.take k)
      rw [List.length_take, Nat.min_eq_left (by omega)] at hvlt
      have hlasteq : k + 1 = ds.length → lastOf ds = u.toNat := fun e => last_get ds u (by rw [← e]; exact hu)
      have hend : ¬ (n ≤ p + k) := by omega
      clear hx hy hc hub hsrc
      subst hx' hy'
      have hM0 : 0 ≤ ((128 ^ k : Nat) : Int) * ((u.toNat : Int) % 128) := Int.mul_nonneg (by omega) (by omega)
      have hMe : ((128 ^ k : Nat) : Int) * ((u.toNat : Int) % 128) = ((128 ^ k * (u.toNat % 128) : Nat) : Int) := by push_cast; rfl
      by_cases h9 : k < 9
      · have hv1 : val (ds.take (k + 1)) < 9223372036854775808 := by
          have h1 := val_lt (ds.take (k + 1))
          rw [List.length_take, Nat.min_eq_left (by omega)] at h1
          have h2 : (128 : Nat) ^ (k + 1) ≤ 9223372036854775808 := pow_le9 (by omega)
          omega
        have hU1 : (128 : Nat) ^ k * 128 ≤ 9223372036854775808 := by have := pow_le9 (show k + 1 ≤ 9 by omega); rwa [Nat.pow_succ] at this
        have hUe : (128 : Nat) ^ k * 128 = 128 ^ (k + 1) := (Nat.pow_succ 128 k).symm
        have hP1 : ((128 ^ k : Nat) : Int) * ((u.toNat : Int) % 128) ≤ 9223372036854775807 := by rw [hMe]; omega
        have hP2 : ((val (ds.take k) : Nat) : Int) + ((128 ^ k : Nat) : Int) * ((u.toNat : Int) % 128) ≤ 9223372036854775807 := by rw [hMe]; omega
        have hN' : ((val (ds.take k) : Nat) : Int) + ((128 ^ k : Nat) : Int) * ((u.toNat : Int) % 128) = ((val (ds.take (k + 1)) : Nat) : Int) := by rw [hMe, hvs]; push_cast; rfl
        have hU' : ((128 ^ k : Nat) : Int) * 128 = ((128 ^ (k + 1) : Nat) : Int) := by rw [← hUe]; push_cast; rfl
        have hU2 : ((128 ^ k : Nat) : Int) * 128 ≤ 9223372036854775808 := by rw [hU']; have := pow_le9 (show k + 1 ≤ 9 by omega); omega
        have HN : Hid _ := hN'
        have HU : Hid _ := hU'
        clear hN' hU' hMe hvs hv1 hvlt hU1 hUe hpow
        generalize hUU : (128 : Nat) ^ k = U at *
        generalize hNN : val (ds.take k) = N0 at *
        have HUU : Hid _ := hUU
        have HNN : Hid _ := hNN
        clear hUU hNN
        have hU0 : (0 : Int) ≤ (U : Int) * 128 := by omega
        by_cases hu128 : u.toNat < 128
        · have hl1 : k + 1 = ds.length := by
            rcases Nat.lt_or_ge (k + 1) ds.length with h | h
            · exact absurd hu128 (HM.out k u h hu)
            · omega
          have hla := hlasteq hl1
          have hvd : ds.take (k + 1) = ds := by rw [hl1]; exact List.take_length
          have HLA : Hid _ := hla
          have HVD : Hid _ := hvd
          have HL1 : Hid _ := hl1
          clear hla hvd hl1 hlasteq hu
          have hfin : ∀ bb : Bool, right ds = bb → RawAns ds (.returned (.tuple #[.int .u64 ((N0 : Int) + (U : Int) * ((u.toNat : Int) % 128)), .int .i64 ((k : Int) + 1), .bool bb])) := fun bb hbb => ⟨_, _, by rw [hbb], fun _ => ⟨by rw [HN.out, HVD.out], by rw [← HL1.out]; omega⟩⟩
          by_cases hk0 : k = 0
          · have hr : right ds = true := by simp [right, ← HL1.out, hk0]
            have HF : Hid _ := hfin true hr
            have hz1 : decide ((k : Int) = 0) = true := by simp [hk0]
            have hz2 : ((k : Int) == 0) = true := by simp [hk0]
            have h9' : (k : Int) < 9 := by omega
            clear hk0
            clear hfin hr
            go_wp2_with fail
            go_quiet (fail)
            go_wp2_with fail
            go_quiet (fail)
            go_wp2
            go_ret3
            exact ⟨HF.out, hDr.drewN _⟩
          · by_cases hu0 : u.toNat = 0
            · have hr : right ds = false := by simp [right, ← HL1.out, HLA.out, hu0]; omega
              have HF : Hid _ := hfin false hr
              have hz1 : decide ((k : Int) = 0) = false := by simp; omega
              have hz2 : ((k : Int) == 0) = false := by simp; omega
              have h9' : (k : Int) < 9 := by omega
              have hz3 : decide ((0 : Int) < (u.toNat : Int)) = false := by simp [hu0]
              have hz4 : ¬ ((0 : Int) < (u.toNat : Int)) := by omega
              clear hk0 hu0
              clear hfin hr
              go_wp2_with fail
              go_quiet (fail)
              go_wp2_with fail
              go_quiet (fail)
              go_wp2
              go_ret3
              exact ⟨HF.out, hDr.drewN _⟩
            · have hr : right ds = true := by simp [right, ← HL1.out, HLA.out, hu0]; omega
              have HF : Hid _ := hfin true hr
              have hz1 : decide ((k : Int) = 0) = false := by simp; omega
              have hz2 : ((k : Int) == 0) = false := by simp; omega
              have h9' : (k : Int) < 9 := by omega
              have hz3 : decide ((0 : Int) < (u.toNat : Int)) = true := by simp; omega
              have hz4 : ((0 : Int) < (u.toNat : Int)) := by omega
              clear hk0 hu0
              clear hfin hr
              go_wp2_with fail
              go_quiet (fail)
              go_wp2_with fail
              go_quiet (fail)
              go_wp2
              go_ret3
              exact ⟨HF.out, hDr.drewN _⟩
        · have hl1 : k + 1 < ds.length ∨ (k + 1 = 10 ∧ ds.length = 10) := by
            rcases Nat.lt_or_ge (k + 1) ds.length with h | h
            · exact Or.inl h
            · have e : k + 1 = ds.length := by omega
              have h2 := (HL.out (by omega)).1
              rw [hlasteq e] at h2
              exact absurd h2 hu128
          have hK : RawK ds (k + 1) (.int .u64 ((N0 : Int) + (U : Int) * ((u.toNat : Int) % 128))) (.int .u64 ((U : Int) * 128)) := ⟨hl1, ⟨_, rfl, fun _ => HN.out⟩, ⟨_, rfl, fun _ => HU.out⟩, fun h => by omega⟩
          have HK : Hid _ := hK
          have hu128' : ¬ ((u.toNat : Int) < 128) := by omega
          clear hK hl1 hlasteq hu hu128
          go_wp2_with fail
          go_quiet (fail)
          go_wp2_with fail
          go_quiet (fail)
          go_wp2
          go_roundw
          case rel => exact ⟨k + 1, by omega, by go_num, HK.out, hDr.drewN _⟩
          case measure => simp [intOf]; omega
      · obtain rfl : k = 9 := by omega
        have hl10 : ds.length = 10 := by omega
        have hla := hlasteq (by omega)
        have h128 : (128 : Nat) ^ 9 = 9223372036854775808 := by decide
        rw [h128] at hvs hM0 hMe hvlt
        have HVS : Hid _ := hvs
        have HVL : Hid _ := hvlt
        have HLA : Hid _ := hla
        have hvd : ds.take (9 + 1) = ds := by rw [show 9 + 1 = ds.length from by omega]; exact List.take_length
        have HVD : Hid _ := hvd
        clear hvs hvlt hla hvd hMe hM0 hlasteq hu hpow
        rw [h128]
        have hfin : ∀ (bb : Bool) (nv : Int), right ds = bb → (bb = true → nv = ((val ds : Nat) : Int)) → RawAns ds (.returned (.tuple #[.int .u64 nv, .int .i64 10, .bool bb])) := fun bb nv hbb hv => ⟨_, _, by rw [hbb], fun hr => ⟨hv (by rw [← hbb]; exact hr), by rw [hl10]; rfl⟩⟩
        have hix : ((p : Int) + 9) < (n : Int) := by omega
        have hcu' : wr.cell? ⟨b, off + (p + 9), none⟩ = some (.int .u8 (u.toNat : Int)) := hcu
        generalize hNN : val (ds.take 9) = N0 at *
        have HNN : Hid _ := hNN
        clear hNN h128 hcu
        by_cases hu128 : u.toNat < 128
        · by_cases hu1 : u.toNat = 1
          · have hr : right ds = true := by simp [right, hl10, HLA.out, hu1]
            have hlt63 : N0 < 9223372036854775808 := HVL.out
            have hvv : ((val ds : Nat) : Int) = (N0 : Int) + 9223372036854775808 := by
              have := HVS.out
              rw [HVD.out, hu1] at this
              omega
            have hf := hfin true ((N0 : Int) + 9223372036854775808) hr (fun _ => hvv.symm)
            have HF : Hid _ := hf
            clear hfin hf hr hvv
            rw [hu1] at hcu'
            clear hidx
            go_wp2_with fail
            go_quiet (fail)
            go_wp2_with fail
            go_quiet (fail)
            go_wp2
            go_ret3
            exact ⟨HF.out, hDr.drewN _⟩
          · have hr : right ds = false := by simp [right, hl10, HLA.out, hu1]
            have HF : Hid (∀ nv : Int, RawAns ds (.returned (.tuple #[.int .u64 nv, .int .i64 10, .bool false]))) := fun nv => hfin false nv hr (fun h => by cases h)
            clear hfin hr hidx
            have hz5 : decide ((u.toNat : Int) = 1) = false := by simp; omega
            have hz6 : ((u.toNat : Int) == 1) = false := by simp; omega
            by_cases hu0 : u.toNat = 0
            · rw [hu0] at hcu'
              clear hz5 hz6
              go_wp2_with fail
              go_quiet (fail)
              go_wp2_with fail
              go_quiet (fail)
              go_wp2
              go_ret3
              exact ⟨HF.out _, hDr.drewN _⟩
            · have hz3 : decide ((0 : Int) < (u.toNat : Int)) = true := by simp; omega
              have hz4 : ((0 : Int) < (u.toNat : Int)) := by omega
              clear hu0 hu1
              go_wp2_with fail
              go_quiet (fail)
              go_wp2_with fail
              go_quiet (fail)
              go_wp2
              go_ret3
              exact ⟨HF.out _, hDr.drewN _⟩
        · have hu128' : ¬ ((u.toNat : Int) < 128) := by omega
          have HK : Hid (∀ x y : Int, RawK ds 10 (.int .u64 x) (.int .u64 y)) := fun x y => ⟨Or.inr ⟨rfl, hl10⟩, ⟨x, rfl, fun h => by omega⟩, ⟨y, rfl, fun h => by omega⟩, fun _ => by rw [HLA.out]; exact hu128⟩
          clear hfin hu128 hidx
          go_wp2_with fail
          go_quiet (fail)
          go_wp2_with fail
          go_quiet (fail)
          go_wp2
          go_roundw
          case rel => exact ⟨10, by omega, by rfl, HK.out _ _, hDr.drewN _⟩
          case measure => simp [intOf]
    · obtain rfl : k = 10 := by omega
      have hr : right ds = false := by
        have h1 := hrl rfl
        have h2 : ds.length = 10 := by omega
        have h3 : lastOf ds ≠ 1 := by omega
        simp [right, h2, h3]
      have HF : Hid (RawAns ds (.returned (.tuple #[.int .u64 0, .int .i64 10, .bool false]))) := ⟨0, 10, by rw [hr], fun h => by rw [hr] at h; cases h⟩
      clear hsrc
      go_wp2
      go_ret3
      exact ⟨HF.out, hDr⟩
end Go.Proofs.Ytneiomimjgfbpaa
namespace Go.Proofs.Ytneiomimjgfbpaa
set_option linter.unusedSimpArgs false
/-- A field is read by the reference's reader: where it is wrong already, nothing. -/
def rstep {α : Type} (c : Codec α) (z : α) (bs : List UInt8) (st : Nat × Bool) : α × (Nat × Bool) :=
  if st.2 then (z, st) else match c.rd (bs.drop st.1) with
    | .error k => (z, (st.1 + k, true))
    | .ok (x, k) => (x, (st.1 + k, false))
theorem rstep_wrong {α : Type} (c : Codec α) (z : α) (bs : List UInt8) (p : Nat) : rstep c z bs (p, true) = (z, (p, true)) := rfl
theorem rstep_err {α : Type} {c : Codec α} {z : α} {bs : List UInt8} {p k : Nat} (h : c.rd (bs.drop p) = .error k) : rstep c z bs (p, false) = (z, (p + k, true)) := by
  simp only [rstep, Bool.false_eq_true, if_false, h]
theorem rstep_ok {α : Type} {c : Codec α} {z x : α} {bs : List UInt8} {p k : Nat} (h : c.rd (bs.drop p) = .ok (x, k)) : rstep c z bs (p, false) = (x, (p + k, false)) := by
  simp only [rstep, Bool.false_eq_true, if_false, h]
def segFields (bs : List UInt8) : Int × Int × Int × Int × List UInt8 × (Nat × Bool) :=
  let r1 := rstep (num 0 15) 0 bs (0, false)
  let r2 := rstep (num 0 15) 0 bs r1.2
  let r3 := rstep (num 0 maxN) 0 bs r2.2
  let r4 := rstep (num 0 maxN) 0 bs r3.2
  let r5 := rstep (num (lowOf r3.1) (highOf r3.1)) 0 bs r4.2
  let r6 := rstep (some' r5.1.toNat) [] bs r5.2
  (r1.1, r2.1, r3.1, r4.1, r6.1, r6.2)
theorem drop_add' (bs : List UInt8) (p k : Nat) : (bs.drop p).drop k = bs.drop (p + k) := by rw [List.drop_drop]
set_option maxHeartbeats 1600000 in
theorem seg_run (bs : List UInt8) : match segment.rd bs with
    | .error k => (segFields bs).2.2.2.2.2 = (k, true)
    | .ok (x, k) => segFields bs = (x.src, x.dst, x.seq, x.ack, x.data, (k, false)) := by
  cases h1 : (num 0 15).rd (bs.drop 0) with
  | error k =>
    have e : segment.rd bs = .error k := by
      simp only [List.drop_zero] at h1
      simp only [segment, Codec.map, pair, Codec.bind, h1]
    rw [e]
    simp only [segFields, rstep_err h1, rstep_wrong]
    simp only [Nat.zero_add, Nat.add_assoc]
  | ok v1 =>
    obtain ⟨a1, k1⟩ := v1
    have g1 := h1
    simp only [List.drop_zero] at g1
    cases h2 : (num 0 15).rd (bs.drop (0 + k1)) with
    | error k =>
      have g2 := h2
      rw [Nat.zero_add] at g2
      have e : segment.rd bs = .error (k1 + k) := by simp only [segment, Codec.map, pair, Codec.bind, g1, g2]
      rw [e]
      simp only [segFields, rstep_ok h1, rstep_err h2, rstep_wrong]
      simp only [Nat.zero_add, Nat.add_assoc]
    | ok v2 =>
      obtain ⟨a2, k2⟩ := v2
      have g2 := h2
      rw [Nat.zero_add] at g2
      cases h3 : (num 0 maxN).rd (bs.drop (0 + k1 + k2)) with
      | error k =>
        have g3 := h3
        rw [Nat.zero_add, ← drop_add'] at g3
        have e : segment.rd bs = .error (k1 + (k2 + k)) := by simp only [segment, Codec.map, pair, Codec.bind, g1, g2, g3]
        rw [e]
        simp only [segFields, rstep_ok h1, rstep_ok h2, rstep_err h3, rstep_wrong]
        simp only [Nat.zero_add, Nat.add_assoc]
      | ok v3 =>
        obtain ⟨a3, k3⟩ := v3
        have g3 := h3
        rw [Nat.zero_add, ← drop_add'] at g3
        cases h4 : (num 0 maxN).rd (bs.drop (0 + k1 + k2 + k3)) with
        | error k =>
          have g4 := h4
          rw [Nat.zero_add, ← drop_add', ← drop_add'] at g4
          have e : segment.rd bs = .error (k1 + (k2 + (k3 + k))) := by simp only [segment, Codec.map, pair, Codec.bind, g1, g2, g3, g4]
          rw [e]
          simp only [segFields, rstep_ok h1, rstep_ok h2, rstep_ok h3, rstep_err h4, rstep_wrong]
          simp only [Nat.zero_add, Nat.add_assoc]
        | ok v4 =>
          obtain ⟨a4, k4⟩ := v4
          have g4 := h4
          rw [Nat.zero_add, ← drop_add', ← drop_add'] at g4
          cases h5 : (num (lowOf a3) (highOf a3)).rd (bs.drop (0 + k1 + k2 + k3 + k4)) with
          | error k =>
            have g5 := h5
            rw [Nat.zero_add, ← drop_add', ← drop_add', ← drop_add'] at g5
            have e : segment.rd bs = .error (k1 + (k2 + (k3 + (k4 + k)))) := by simp only [segment, Codec.map, pair, Codec.bind, dataC, g1, g2, g3, g4, g5]
            rw [e]
            simp only [segFields, rstep_ok h1, rstep_ok h2, rstep_ok h3, rstep_ok h4, rstep_err h5, rstep_wrong]
            simp only [Nat.zero_add, Nat.add_assoc]
          | ok v5 =>
            obtain ⟨a5, k5⟩ := v5
            have g5 := h5
            rw [Nat.zero_add, ← drop_add', ← drop_add', ← drop_add'] at g5
            cases h6 : (some' a5.toNat).rd (bs.drop (0 + k1 + k2 + k3 + k4 + k5)) with
            | error k =>
              have g6 := h6
              rw [Nat.zero_add, ← drop_add', ← drop_add', ← drop_add', ← drop_add'] at g6
              have e : segment.rd bs = .error (k1 + (k2 + (k3 + (k4 + (k5 + k))))) := by simp only [segment, Codec.map, pair, Codec.bind, dataC, g1, g2, g3, g4, g5, g6]
              rw [e]
              simp only [segFields, rstep_ok h1, rstep_ok h2, rstep_ok h3, rstep_ok h4, rstep_ok h5, rstep_err h6]
              simp only [Nat.zero_add, Nat.add_assoc]
            | ok v6 =>
              obtain ⟨a6, k6⟩ := v6
              have g6 := h6
              rw [Nat.zero_add, ← drop_add', ← drop_add', ← drop_add', ← drop_add'] at g6
              have e : segment.rd bs = .ok (⟨a1, a2, a3, a4, a6⟩, k1 + (k2 + (k3 + (k4 + (k5 + k6))))) := by simp only [segment, Codec.map, pair, Codec.bind, dataC, g1, g2, g3, g4, g5, g6]
              rw [e]
              simp only [segFields, rstep_ok h1, rstep_ok h2, rstep_ok h3, rstep_ok h4, rstep_ok h5, rstep_ok h6]
              simp only [Nat.zero_add, Nat.add_assoc]
end Go.Proofs.Ytneiomimjgfbpaa
namespace Go.Proofs.Ytneiomimjgfbpaa
open Go.RowKit Go.PlainAid
set_option linter.unusedSimpArgs false
set_option linter.unusedVariables false
/-- The reference's reader, as a block. -/
structure RdB (w : World) (hb : Nat) (ao : Option Addr) (n cap : Nat) (bs : List UInt8) (st : Nat × Bool) : Prop where
  blk : Blk w hb #[.slice ao n cap, .int .i64 ((st.1 : Nat) : Int), .bool st.2] 146
  len : bs.length = n
  src : From w ao bs
  le : st.1 ≤ n
/-- What else is as it was. -/
structure RW (hb : Nat) (w w' : World) : Prop where
  os : w'.os = w.os
  tape : w'.tape = w.tape
  output : w'.output = w.output
  size : w'.heap.size = w.heap.size
  block : ∀ k, k ≠ hb → w'.heap[k]? = w.heap[k]?
theorem RW.refl (hb : Nat) (w : World) : RW hb w w := ⟨rfl, rfl, rfl, rfl, fun _ _ => rfl⟩
theorem RW.trans {hb : Nat} {a b c : World} (h : RW hb a b) (k : RW hb b c) : RW hb a c := ⟨k.os.trans h.os, k.tape.trans h.tape, k.output.trans h.output, k.size.trans h.size, fun j hj => (k.block j hj).trans (h.block j hj)⟩
theorem RW.drewn {hb : Nat} {w w' : World} (h : Drewn w w') : RW hb w w' := ⟨h.below.os, h.below.tape, h.below.output, by rw [h.heap], fun k _ => by rw [h.heap]⟩
theorem RW.set {hb : Nat} {w w' : World} (h : RW hb w w') (j : Nat) (v : Value) : RW hb w (w'.setCell ⟨hb, j, none⟩ v) := ⟨h.os, h.tape, h.output, by simpa [World.setCell] using h.size, fun k hk => (Below.heap_setCell _ _ _ _ hk).trans (h.block k hk)⟩
section
variable {w w' : World} {hb : Nat} {ao : Option Addr} {n cap : Nat} {bs : List UInt8} {st st' : Nat × Bool}
theorem RdB.rds (h : RdB w hb ao n cap bs st) : RdS w hb ao n cap bs st.1 st.2 := ⟨h.blk.cell 0, h.blk.cell 1, h.blk.cell 2, h.len, h.src, h.le⟩
theorem RdB.ne (h : RdB w hb ao n cap bs st) (h0 : 0 < bs.length) (b off : Nat) (e : ao = some ⟨b, off, none⟩) : b ≠ hb := by
  intro e2
  subst e2
  obtain ⟨b', off', e', hc⟩ := h.src h0
  rw [e] at e'
  cases e'
  obtain ⟨u, hu⟩ : ∃ u, bs[0]? = some u := ⟨bs[0], List.getElem?_eq_getElem _⟩
  have h1 := hc 0 u hu
  rw [h.blk.cell] at h1
  rw [Nat.add_zero] at h1
  have hlt : off < 3 := by
    have := (Array.getElem?_eq_some_iff.1 h1).1
    simpa using this
  have h3 : off = 0 ∨ off = 1 ∨ off = 2 := by omega
  rcases h3 with rfl | rfl | rfl <;> simp [B] at h1
/-- Only the box has turned. -/
theorem RdB.turn (h : RdB w hb ao n cap bs st) (hB : Blk w' hb #[.slice ao n cap, .int .i64 ((st'.1 : Nat) : Int), .bool st'.2] 146) (hw : RW hb w w') (hle : st'.1 ≤ n) : RdB w' hb ao n cap bs st' := by
  refine ⟨hB, h.len, fun h0 => ?_, hle⟩
  obtain ⟨b, off, e, hc⟩ := h.src h0
  exact ⟨b, off, e, fun j u hu => (World.cell?_of_block (w := w) (hw.block b (h.ne h0 b off e))).trans (hc j u hu)⟩
theorem RdB.drewn (h : RdB w hb ao n cap bs st) (hD : Drewn w w') : RdB w' hb ao n cap bs st := h.turn (by unfold Blk; rw [hD.heap]; exact h.blk) (RW.drewn hD) h.le
theorem RdB.keep (h : RdB w hb ao n cap bs st) (hk : ∀ k, k < w.heap.size → w'.heap[k]? = w.heap[k]?) : RdB w' hb ao n cap bs st := by
  refine ⟨(hk hb h.blk.lt).trans h.blk, h.len, fun h0 => ?_, h.le⟩
  obtain ⟨b, off, e, hc⟩ := h.src h0
  exact ⟨b, off, e, fun j u hu => (World.cell?_of_block (w := w) (hk b (World.block_lt_of_cell? w _ (hc j u hu)))).trans (hc j u hu)⟩
theorem Blk.set1 (h : Blk w hb #[.slice ao n cap, .int .i64 ((st.1 : Nat) : Int), .bool st.2] 146) (x : Int) : Blk (w.setCell ⟨hb, 1, none⟩ (.int .i64 x)) hb #[.slice ao n cap, .int .i64 x, .bool st.2] 146 := Blk.set h 1 _
theorem Blk.set2 {x : Int} {b : Bool} (h : Blk w hb #[.slice ao n cap, .int .i64 x, .bool b] 146) (b' : Bool) : Blk (w.setCell ⟨hb, 2, none⟩ (.bool b')) hb #[.slice ao n cap, .int .i64 x, .bool b'] 146 := Blk.set h 2 _
end
theorem num_none {lo hi : Nat} {l : List UInt8} (h : digits 10 l = none) : (num lo hi).rd l = .error l.length := by simp [num, raw, h]
theorem num_bad {lo hi : Nat} {l ds : List UInt8} (h : digits 10 l = some ds) (hr : right ds = false) : (num lo hi).rd l = .error 0 := by simp [num, raw, h, hr]
theorem num_out {lo hi : Nat} {l ds : List UInt8} (h : digits 10 l = some ds) (hr : right ds = true) (ho : ¬ (lo ≤ val ds ∧ val ds ≤ hi)) : (num lo hi).rd l = .error 0 := by
  simp only [num, raw, h, hr, if_true]
  rw [if_neg (by simpa using ho)]
theorem num_in {lo hi : Nat} {l ds : List UInt8} (h : digits 10 l = some ds) (hr : right ds = true) (ho : lo ≤ val ds ∧ val ds ≤ hi) : (num lo hi).rd l = .ok ((val ds : Nat), ds.length) := by
  simp only [num, raw, h, hr, if_true]
  rw [if_pos (by simpa using ho)]
set_option maxRecDepth 100000 in
set_option maxHeartbeats 3200000 in
theorem rnum_any (hb : Nat) (ao : Option Addr) (n cap : Nat) (bs : List UInt8) (st : Nat × Bool) (lo hi : Nat) (hhi : hi ≤ 1099511627776) (hlo : lo ≤ hi) (w : World) (hS : RdB w hb ao n cap bs st) (hsm : n ≤ 140737488355328) :
    Calls Try.prog 84 #[.pointer (some ⟨hb, 0, none⟩), .int .i64 (lo : Nat), .int .i64 (hi : Nat)] w fun e w' => e = .returned (.int .i64 (rstep (num lo hi) 0 bs st).1) ∧ RdB w' hb ao n cap bs (rstep (num lo hi) 0 bs st).2 ∧ RW hb w w' := by
  obtain ⟨p, wrong⟩ := st
  have hR := hS.rds
  simp only at hR
  have c2 := hR.c2
  cases wrong with
  | true =>
    rw [rstep_wrong]
    have HS : Hid _ := hS
    clear hS hR
    go_enter Try.func84, Try.ntmps84
    go_wp2
    go_ret
    exact ⟨rfl, HS.out, RW.refl _ _⟩
  | false =>
    have hcut := rcut_any hb ao n cap p bs false w hR hsm
    have hlen := hS.len
    have hle := hS.le
    simp only at hle
    cases hdg : digits 10 (bs.drop p) with
    | none =>
      have hrd := num_none (lo := lo) (hi := hi) hdg
      rw [rstep_err hrd]
      rw [hdg] at hcut
      simp only [Option.isNone_none] at hcut
      have HS : Hid _ := hS
      clear hS hR hrd hdg
      go_enter Try.func84, Try.ntmps84
      go_wp2_with fail
      refine hcut.mono ?_
      rintro e96 w1 ⟨rfl, hD⟩
      have hS1 := HS.out.drewn hD
      have hsh := rshort_any hb ao n cap p bs false w1 hS1.rds (hS1.blk.frozen 1) (hS1.blk.frozen 2)
      have hfin : RdB ((w1.setCell ⟨hb, 1, none⟩ (.int .i64 (n : Nat))).setCell ⟨hb, 2, none⟩ (.bool true)) hb ao n cap bs (p + (bs.drop p).length, true) := by
        have e : p + (bs.drop p).length = n := by rw [List.length_drop, hlen]; omega
        rw [e]
        exact hS1.turn (Blk.set2 (Blk.set1 hS1.blk (n : Nat)) true) (((RW.refl hb w1).set 1 _).set 2 _) (Nat.le_refl _)
      have hrw : RW hb w ((w1.setCell ⟨hb, 1, none⟩ (.int .i64 (n : Nat))).setCell ⟨hb, 2, none⟩ (.bool true)) := ((RW.drewn hD).set 1 _).set 2 _
      have HF : Hid _ := hfin
      have HW : Hid _ := hrw
      clear hfin hrw hS1 hD HS hcut
      go_wp2_with (first | (go_at_call 98; refine hsh.mono ?_; rintro e97 w97 ⟨rfl, rfl⟩) | fail)
      go_ret
      exact ⟨rfl, HF.out, HW.out⟩
    | some ds =>
      obtain ⟨hd1, hdq, hd3⟩ := digits_take _ _ _ hdg
      clear hdq
      rw [hdg] at hcut
      simp only [Option.isNone_some] at hcut
      have hvlt : right ds = true → val ds < 18446744073709551616 := fun hr => (raw_back _ _ hdg hr).1
      have HS : Hid _ := hS
      have HDG : Hid _ := hdg
      have HV : Hid _ := hvlt
      clear hS hR hvlt
      have hd1' : ds.length ≤ n - p := by simpa [hlen] using hd1
      clear hd1
      go_enter Try.func84, Try.ntmps84
      go_wp2_with fail
      refine hcut.mono ?_
      rintro e96 w1 ⟨rfl, hD⟩
      have hS1 := HS.out.drewn hD
      have hraw := rraw_any hb ao n cap p bs false w1 hS1.rds hsm ds HDG.out
      have HD : Hid _ := hD
      clear hS1 hD hcut
      go_wp2_with fail
      refine hraw.mono ?_
      rintro e98 w2 ⟨⟨nv, sz, rfl, hval⟩, hD2⟩
      have hS2 := (HS.out.drewn HD.out).drewn hD2
      have hW2 : RW hb w w2 := (RW.drewn HD.out).trans (RW.drewn hD2)
      have d1 : w2.cell? ⟨hb, 1, none⟩ = some (.int .i64 (p : Nat)) := hS2.blk.cell 1
      have d2 : w2.cell? ⟨hb, 2, none⟩ = some (.bool false) := hS2.blk.cell 2
      have z1 := hS2.blk.frozen 1
      have z2 := hS2.blk.frozen 2
      have hbad : RdB (w2.setCell ⟨hb, 2, none⟩ (.bool true)) hb ao n cap bs (p + 0, true) := hS2.turn (Blk.set2 hS2.blk true) ((RW.refl hb w2).set 2 _) (by simpa using hle)
      have hbadW : RW hb w (w2.setCell ⟨hb, 2, none⟩ (.bool true)) := hW2.set 2 _
      have hgood : RdB (w2.setCell ⟨hb, 1, none⟩ (.int .i64 ((p : Int) + (ds.length : Int)))) hb ao n cap bs (p + ds.length, false) := by
        refine hS2.turn (st' := (p + ds.length, false)) ?_ ((RW.refl hb w2).set 1 _) (by show p + ds.length ≤ n; omega)
        have := Blk.set1 hS2.blk ((p : Int) + (ds.length : Int))
        show Blk _ hb #[.slice ao n cap, .int .i64 ((p + ds.length : Nat) : Int), .bool false] 146
        rw [show ((p + ds.length : Nat) : Int) = (p : Int) + (ds.length : Int) from by omega]
        exact this
      have hgoodW : RW hb w (w2.setCell ⟨hb, 1, none⟩ (.int .i64 ((p : Int) + (ds.length : Int)))) := hW2.set 1 _
      have HB : Hid _ := hbad
      have HBW : Hid _ := hbadW
      have HG : Hid _ := hgood
      have HGW : Hid _ := hgoodW
      clear hbad hbadW hgood hgoodW hS2 hW2 hD2 hraw HD HS
      cases hr : right ds with
      | false =>
        have hrd := num_bad (lo := lo) (hi := hi) HDG.out hr
        have HRD : Hid _ := rstep_err (z := (0 : Int)) hrd
        clear hrd hval hdg HDG HV
        go_wp2
        go_ret
        rw [HRD.out]
        exact ⟨rfl, HB.out, HBW.out⟩
      | true =>
        obtain ⟨hv1, hv2⟩ := hval hr
        subst hv1 hv2
        have hvl := HV.out hr
        by_cases ho : lo ≤ val ds ∧ val ds ≤ hi
        · have hrd := num_in HDG.out hr ho
          have HRD : Hid _ := rstep_ok (z := (0 : Int)) hrd
          clear hrd hval hdg HDG HV hr
          obtain ⟨o1, o2⟩ := ho
          have o1' : ¬ ((val ds : Nat) : Int) < (lo : Int) := by omega
          have o2' : ¬ ((hi : Nat) : Int) < ((val ds : Nat) : Int) := by omega
          generalize val ds = vd at *
          go_wp2
          go_ret
          rw [HRD.out]
          exact ⟨rfl, HG.out, HGW.out⟩
        · have hrd := num_out HDG.out hr ho
          have HRD : Hid _ := rstep_err (z := (0 : Int)) hrd
          clear hrd hval hdg HDG HV hr
          generalize val ds = vd at *
          by_cases o2 : hi < vd
          · have o2' : ((hi : Nat) : Int) < ((vd : Nat) : Int) := by omega
            clear ho
            go_wp2
            go_ret
            rw [HRD.out]
            exact ⟨rfl, HB.out, HBW.out⟩
          · have o1' : ((vd : Nat) : Int) < (lo : Int) := by omega
            have o2' : ¬ ((hi : Nat) : Int) < ((vd : Nat) : Int) := by omega
            clear ho
            go_wp2
            go_ret
            rw [HRD.out]
            exact ⟨rfl, HB.out, HBW.out⟩
/-- What 'take' answers: some bytes of those that are read. -/
def TakeAns (n m : Nat) (ao : Option Addr) (xs : List UInt8) (w' : World) (e : Ending) : Prop := ∃ ao' cap', e = .returned (.slice ao' xs.length cap') ∧ From w' ao' xs ∧ (ao' = none → xs.length = 0 ∧ cap' = 0) ∧ ∀ b o, ao' = some ⟨b, o, none⟩ → ∃ o', ao = some ⟨b, o', none⟩
set_option maxRecDepth 100000 in
set_option maxHeartbeats 3200000 in
theorem rtake_any (hb : Nat) (ao : Option Addr) (n cap : Nat) (bs : List UInt8) (st : Nat × Bool) (m : Nat) (hm : m ≤ 4000) (w : World) (hS : RdB w hb ao n cap bs st) (hsm : n ≤ 140737488355328) (hrm : n ≤ cap) (hnil : ao = none → n = 0 ∧ cap = 0) (hform : ao = none ∨ ∃ b off, ao = some ⟨b, off, none⟩) :
    Calls Try.prog 85 #[.pointer (some ⟨hb, 0, none⟩), .int .i64 (m : Nat)] w fun e w' => TakeAns n m ao (rstep (some' m) [] bs st).1 w' e ∧ RdB w' hb ao n cap bs (rstep (some' m) [] bs st).2 ∧ RW hb w w' := by
  obtain ⟨p, wrong⟩ := st
  have hR := hS.rds
  simp only at hR
  obtain ⟨c0, c1, c2, hlen, hsrc, hle⟩ := hR
  have z1 := hS.blk.frozen 1
  have HNIL : Hid (∀ W, TakeAns n m ao [] W (.returned (.slice none 0 0))) := fun W => ⟨none, 0, rfl, (fun h => by simp at h), fun _ => ⟨rfl, rfl⟩, fun b o e => by cases e⟩
  cases wrong with
  | true =>
    rw [rstep_wrong]
    have HS : Hid _ := hS
    clear hS hsrc
    go_enter Try.func85, Try.ntmps85
    go_wp2
    go_ret
    exact ⟨HNIL.out _, HS.out, RW.refl _ _⟩
  | false =>
    by_cases hshort : n < p + m
    · have hrd : (some' m).rd (bs.drop p) = .error (bs.drop p).length := by
        simp only [some']
        rw [if_pos (by rw [List.length_drop, hlen]; omega)]
      rw [rstep_err hrd]
      have hsh' : ((n : Int) - (p : Int)) < (m : Int) := by omega
      have HS : Hid _ := hS
      clear hS hrd hsrc
      go_enter Try.func85, Try.ntmps85
      go_wp2_with fail
      go_quiet (fail)
      have hD : Drewn w (w.drewN nq) := (Drewn.refl w).drewN nq
      have hS1 := HS.out.drewn hD
      have hsh := rshort_any hb ao n cap p bs false _ hS1.rds (hS1.blk.frozen 1) (hS1.blk.frozen 2)
      have hfin : RdB (((w.drewN nq).setCell ⟨hb, 1, none⟩ (.int .i64 (n : Nat))).setCell ⟨hb, 2, none⟩ (.bool true)) hb ao n cap bs (p + (bs.drop p).length, true) := by
        have e : p + (bs.drop p).length = n := by rw [List.length_drop, hlen]; omega
        rw [e]
        exact hS1.turn (Blk.set2 (Blk.set1 hS1.blk (n : Nat)) true) (((RW.refl hb _).set 1 _).set 2 _) (Nat.le_refl _)
      have hrw : RW hb w (((w.drewN nq).setCell ⟨hb, 1, none⟩ (.int .i64 (n : Nat))).setCell ⟨hb, 2, none⟩ (.bool true)) := ((RW.drewn hD).set 1 _).set 2 _
      have HF : Hid _ := hfin
      have HW : Hid _ := hrw
      clear hfin hrw hS1 hD HS
      go_wp2_with (first | (go_at_call 98; refine hsh.mono ?_; rintro e97 w97 ⟨rfl, rfl⟩) | fail)
      go_ret
      exact ⟨HNIL.out _, HF.out, HW.out⟩
    · have hrd : (some' m).rd (bs.drop p) = .ok ((bs.drop p).take m, m) := by
        simp only [some']
        rw [if_neg (by rw [List.length_drop, hlen]; omega)]
      rw [rstep_ok hrd]
      have hsh' : ¬ (((n : Int) - (p : Int)) < (m : Int)) := by omega
      have hgood : ∀ q : Nat, RdB ((w.drewN q).setCell ⟨hb, 1, none⟩ (.int .i64 ((p : Int) + (m : Int)))) hb ao n cap bs (p + m, false) := fun q => by
        have hD : Drewn w (w.drewN q) := (Drewn.refl w).drewN q
        have hS1 := hS.drewn hD
        refine hS1.turn (st' := (p + m, false)) ?_ ((RW.refl hb _).set 1 _) (by show p + m ≤ n; omega)
        have := Blk.set1 hS1.blk ((p : Int) + (m : Int))
        show Blk _ hb #[.slice ao n cap, .int .i64 ((p + m : Nat) : Int), .bool false] 146
        rw [show ((p + m : Nat) : Int) = (p : Int) + (m : Int) from by omega]
        exact this
      have hgoodW : ∀ q : Nat, RW hb w ((w.drewN q).setCell ⟨hb, 1, none⟩ (.int .i64 ((p : Int) + (m : Int)))) := fun q => (RW.drewn ((Drewn.refl w).drewN q)).set 1 _
      have hxl : ((bs.drop p).take m).length = m := by rw [List.length_take, List.length_drop, hlen]; omega
      have HG : Hid _ := hgood
      have HW : Hid _ := hgoodW
      rcases hform with rfl | ⟨b, off, rfl⟩
      · obtain ⟨rfl, rfl⟩ := hnil rfl
        obtain rfl : p = 0 := by omega
        obtain rfl : m = 0 := by omega
        have HX : Hid _ := hxl
        clear hS hrd hsrc hgood hgoodW hxl
        go_enter Try.func85, Try.ntmps85
        go_wp2_with fail
        go_quiet (fail)
        go_wp2_with fail
        go_quiet (fail)
        go_wp2
        go_ret
        refine ⟨?_, HG.out _, HW.out _⟩
        have e : (List.drop 0 bs).take 0 = [] := rfl
        rw [e]
        exact HNIL.out _
      · have hfin : ∀ (W : World) (L : Nat), L = m → (∀ k, k ≠ hb → W.heap[k]? = w.heap[k]?) → TakeAns n m (some ⟨b, off, none⟩) ((bs.drop p).take m) W (.returned (.slice (some ⟨b, off + p, none⟩) L (cap - p))) := fun W L hL hW => by
          subst hL
          refine ⟨some ⟨b, off + p, none⟩, cap - p, by rw [hxl], fun h0 => ⟨b, off + p, rfl, fun j u hu => ?_⟩, (fun h => by cases h), fun b' o' e => by cases e; exact ⟨off, rfl⟩⟩
          rw [List.getElem?_take] at hu
          split at hu
          · rw [List.getElem?_drop] at hu
            obtain ⟨b2, off2, e2, hc⟩ := hsrc (by rw [hlen]; omega)
            cases e2
            have hne := hS.ne (by rw [hlen]; omega) b off rfl
            rw [Nat.add_assoc]
            exact (World.cell?_of_block (w := w) (hW b hne)).trans (hc (p + j) u hu)
          · cases hu
        have HFI : Hid _ := hfin
        have hpc : (p : Int) + (m : Int) ≤ (cap : Int) := by omega
        clear hS hrd hsrc hgood hgoodW hxl hfin
        by_cases hcp : p = cap
        · subst hcp
          obtain rfl : m = 0 := by omega
          go_enter Try.func85, Try.ntmps85
          go_wp2_with fail
          go_quiet (fail)
          go_wp2_with fail
          go_quiet (fail)
          go_wp2
          go_ret
          refine ⟨?_, HG.out _, HW.out _⟩
          exact ⟨_, _, rfl, (fun h => by simp at h), (fun h => by cases h), fun b' o' e => by cases e; exact ⟨_, rfl⟩⟩
        · have hcp' : p < cap := by omega
          have hcp2 : ¬ (cap = p) := by omega
          have hcp3 : (p : Int) < (cap : Int) := by omega
          clear hcp
          go_enter Try.func85, Try.ntmps85
          go_wp2_with fail
          go_quiet (fail)
          go_wp2_with fail
          go_quiet (fail)
          go_wp2
          all_goals
            first
            | omega
            | (go_ret
               refine ⟨?_, HG.out _, HW.out _⟩
               exact HFI.out _ _ (by omega) (HW.out _).block)
end Go.Proofs.Ytneiomimjgfbpaa
namespace Go.Proofs.Ytneiomimjgfbpaa
open Go.RowKit Go.PlainAid
set_option linter.unusedSimpArgs false
set_option linter.unusedVariables false
theorem sig_none {l : List UInt8} (h : digits 10 l = none) : signed.rd l = .error l.length := by simp [signed, raw, h]
theorem sig_bad {l ds : List UInt8} (h : digits 10 l = some ds) (hr : right ds = false) : signed.rd l = .error 0 := by simp [signed, raw, h, hr]
theorem sig_in {l ds : List UInt8} (h : digits 10 l = some ds) (hr : right ds = true) : signed.rd l = .ok (unzig (val ds), ds.length) := by
  simp only [signed, raw, h, hr, if_true]
set_option maxRecDepth 100000 in
set_option maxHeartbeats 3200000 in
theorem rsign_any (hb : Nat) (ao : Option Addr) (n cap : Nat) (bs : List UInt8) (st : Nat × Bool) (w : World) (hS : RdB w hb ao n cap bs st) (hsm : n ≤ 140737488355328) :
    Calls Try.prog 94 #[.pointer (some ⟨hb, 0, none⟩)] w fun e w' => e = .returned (.int .i64 (rstep signed 0 bs st).1) ∧ RdB w' hb ao n cap bs (rstep signed 0 bs st).2 ∧ RW hb w w' := by
  obtain ⟨p, wrong⟩ := st
  have hR := hS.rds
  simp only at hR
  have c2 := hR.c2
  cases wrong with
  | true =>
    rw [rstep_wrong]
    have HS : Hid _ := hS
    clear hS hR
    go_enter Try.func94, Try.ntmps94
    go_wp2
    go_ret
    exact ⟨rfl, HS.out, RW.refl _ _⟩
  | false =>
    have hcut := rcut_any hb ao n cap p bs false w hR hsm
    have hlen := hS.len
    have hle := hS.le
    simp only at hle
    cases hdg : digits 10 (bs.drop p) with
    | none =>
      have hrd := sig_none hdg
      rw [rstep_err hrd]
      rw [hdg] at hcut
      simp only [Option.isNone_none] at hcut
      have HS : Hid _ := hS
      clear hS hR hrd hdg
      go_enter Try.func94, Try.ntmps94
      go_wp2_with fail
      refine hcut.mono ?_
      rintro e96 w1 ⟨rfl, hD⟩
      have hS1 := HS.out.drewn hD
      have hsh := rshort_any hb ao n cap p bs false w1 hS1.rds (hS1.blk.frozen 1) (hS1.blk.frozen 2)
      have hfin : RdB ((w1.setCell ⟨hb, 1, none⟩ (.int .i64 (n : Nat))).setCell ⟨hb, 2, none⟩ (.bool true)) hb ao n cap bs (p + (bs.drop p).length, true) := by
        have e : p + (bs.drop p).length = n := by rw [List.length_drop, hlen]; omega
        rw [e]
        exact hS1.turn (Blk.set2 (Blk.set1 hS1.blk (n : Nat)) true) (((RW.refl hb w1).set 1 _).set 2 _) (Nat.le_refl _)
      have hrw : RW hb w ((w1.setCell ⟨hb, 1, none⟩ (.int .i64 (n : Nat))).setCell ⟨hb, 2, none⟩ (.bool true)) := ((RW.drewn hD).set 1 _).set 2 _
      have HF : Hid _ := hfin
      have HW : Hid _ := hrw
      clear hfin hrw hS1 hD HS hcut
      go_wp2_with (first | (go_at_call 98; refine hsh.mono ?_; rintro e97 w97 ⟨rfl, rfl⟩) | fail)
      go_ret
      exact ⟨rfl, HF.out, HW.out⟩
    | some ds =>
      obtain ⟨hd1, hdq, hd3⟩ := digits_take _ _ _ hdg
      clear hdq
      rw [hdg] at hcut
      simp only [Option.isNone_some] at hcut
      have hvlt : right ds = true → val ds < 18446744073709551616 := fun hr => (raw_back _ _ hdg hr).1
      have HS : Hid _ := hS
      have HDG : Hid _ := hdg
      have HV : Hid _ := hvlt
      clear hS hR hvlt
      have hd1' : ds.length ≤ n - p := by simpa [hlen] using hd1
      clear hd1
      go_enter Try.func94, Try.ntmps94
      go_wp2_with fail
      refine hcut.mono ?_
      rintro e96 w1 ⟨rfl, hD⟩
      have hS1 := HS.out.drewn hD
      have hraw := rraw_any hb ao n cap p bs false w1 hS1.rds hsm ds HDG.out
      have HD : Hid _ := hD
      clear hS1 hD hcut
      go_wp2_with fail
      refine hraw.mono ?_
      rintro e98 w2 ⟨⟨nv, sz, rfl, hval⟩, hD2⟩
      have hS2 := (HS.out.drewn HD.out).drewn hD2
      have hW2 : RW hb w w2 := (RW.drewn HD.out).trans (RW.drewn hD2)
      have d1 : w2.cell? ⟨hb, 1, none⟩ = some (.int .i64 (p : Nat)) := hS2.blk.cell 1
      have d2 : w2.cell? ⟨hb, 2, none⟩ = some (.bool false) := hS2.blk.cell 2
      have z1 := hS2.blk.frozen 1
      have z2 := hS2.blk.frozen 2
      have hbad : RdB (w2.setCell ⟨hb, 2, none⟩ (.bool true)) hb ao n cap bs (p + 0, true) := hS2.turn (Blk.set2 hS2.blk true) ((RW.refl hb w2).set 2 _) (by simpa using hle)
      have hbadW : RW hb w (w2.setCell ⟨hb, 2, none⟩ (.bool true)) := hW2.set 2 _
      have hgood : RdB (w2.setCell ⟨hb, 1, none⟩ (.int .i64 ((p : Int) + (ds.length : Int)))) hb ao n cap bs (p + ds.length, false) := by
        refine hS2.turn (st' := (p + ds.length, false)) ?_ ((RW.refl hb w2).set 1 _) (by show p + ds.length ≤ n; omega)
        have := Blk.set1 hS2.blk ((p : Int) + (ds.length : Int))
        show Blk _ hb #[.slice ao n cap, .int .i64 ((p + ds.length : Nat) : Int), .bool false] 146
        rw [show ((p + ds.length : Nat) : Int) = (p : Int) + (ds.length : Int) from by omega]
        exact this
      have hgoodW : RW hb w (w2.setCell ⟨hb, 1, none⟩ (.int .i64 ((p : Int) + (ds.length : Int)))) := hW2.set 1 _
      have HB : Hid _ := hbad
      have HBW : Hid _ := hbadW
      have HG : Hid _ := hgood
      have HGW : Hid _ := hgoodW
      clear hbad hbadW hgood hgoodW hS2 hW2 hD2 hraw HD HS
      cases hr : right ds with
      | false =>
        have hrd := sig_bad HDG.out hr
        have HRD : Hid _ := rstep_err (z := (0 : Int)) hrd
        clear hrd hval hdg HDG HV
        go_wp2
        go_ret
        rw [HRD.out]
        exact ⟨rfl, HB.out, HBW.out⟩
      | true =>
        obtain ⟨hv1, hv2⟩ := hval hr
        subst hv1 hv2
        have hvl := HV.out hr
        have hrd := sig_in HDG.out hr
        have HRD : Hid _ := rstep_ok (z := (0 : Int)) hrd
        clear hrd hval hdg HDG HV hr
        generalize val ds = vd at *
        by_cases hpar : vd % 2 = 0
        · have hu : unzig vd = ((vd / 2 : Nat) : Int) := by unfold unzig; rw [if_pos hpar]; try omega
          rw [hu] at HRD
          clear hu
          have hpar' : ((vd : Nat) : Int) % 2 = 0 := by omega
          go_wp2
          go_ret
          rw [HRD.out]
          exact ⟨by first | rfl | (congr 2; omega), HG.out, HGW.out⟩
        · have hu : unzig vd = -((vd / 2 : Nat) : Int) - 1 := by unfold unzig; rw [if_neg hpar]; try omega
          rw [hu] at HRD
          clear hu
          have hpar' : ¬ (((vd : Nat) : Int) % 2 = 0) := by omega
          go_wp2
          go_ret
          rw [HRD.out]
          exact ⟨by first | rfl | (congr 2; omega), HG.out, HGW.out⟩
end Go.Proofs.Ytneiomimjgfbpaa
