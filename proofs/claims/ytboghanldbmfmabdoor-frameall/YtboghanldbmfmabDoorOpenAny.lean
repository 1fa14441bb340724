import Derived.Test.YtboghanldbmfmabDoorOpen
namespace Go.Proofs.YtboghanldbmfmabDoor
open Go.RowKit

/-- What Open answers, as a function of the bytes. -/
def told (bs : List UInt8) : Nat := (bs.getD 1 0).toNat + (bs.getD 2 0).toNat * 256
def tailN (bs : List UInt8) : Nat := joinTo (bs.getD (bs.length - 4) 0).toNat (bs.getD (bs.length - 3) 0).toNat (bs.getD (bs.length - 2) 0).toNat (bs.getD (bs.length - 1) 0).toNat 4
def openCode (bs : List UInt8) : Nat :=
  if bs.length < 7 then 10 else if bs.getD 0 0 ≠ 1 then 11 else if 4096 < told bs ∨ told bs + 7 ≠ bs.length then 10 else if tailN bs ≠ sumN (bs.take (bs.length - 4)) then 12 else 0
def body (bs : List UInt8) : List UInt8 := (bs.drop 3).take (bs.length - 7)

theorem getD_some (bs : List UInt8) (k : Nat) (h : k < bs.length) : bs[k]? = some (bs.getD k 0) := by
  rw [List.getD_eq_getElem?_getD, List.getElem?_eq_getElem h]; rfl

def Src (w : World) (ao : Option Addr) (bs : List UInt8) : Prop := 0 < bs.length → ∃ ad, ao = some ad ∧ ∀ j u, bs[j]? = some u → w.cell? (ad.add j) = some (B u)

theorem src_at {w : World} {ao : Option Addr} {bs : List UInt8} (h : Src w ao bs) (h0 : 0 < bs.length) : ∃ b off, ao = some ⟨b, off, none⟩ ∧ At w b off bs := by
  obtain ⟨ad, rfl, hc⟩ := h h0
  have h1 := hc 0 _ (getD_some bs 0 h0)
  obtain ⟨b, off, sp⟩ := ad
  cases sp with
  | some s =>
    simp only [Addr.add, if_true] at h1
    unfold World.cell? at h1
    split at h1 <;> simp at h1
  | none =>
    refine ⟨b, off, rfl, fun j u hu => ?_⟩
    have := hc j u hu
    rwa [show (Addr.add ⟨b, off, none⟩ j) = ⟨b, off + j, none⟩ from by unfold Addr.add; split <;> simp_all] at this

theorem at_take {w : World} {b off : Nat} {bs : List UInt8} (h : At w b off bs) (k : Nat) : At w b off (bs.take k) := by
  intro j u hu
  refine h j u ?_
  rw [List.getElem?_take] at hu
  split at hu
  · exact hu
  · cases hu
theorem at_drop {w : World} {b off : Nat} {bs : List UInt8} (h : At w b off bs) (k : Nat) : At w b (off + k) (bs.drop k) := by
  intro j u hu
  rw [List.getElem?_drop] at hu
  have := h (k + j) u hu
  rwa [show off + (k + j) = off + k + j from by omega] at this

theorem open_any (ao : Option Addr) (n cap : Nat) (bs : List UInt8) (w : World) (hn : bs.length = n) (hm : n ≤ 100000) (hcap : n ≤ cap) (hsrc : Src w ao bs) (hT : Tab w) :
    Calls Tryd.prog 13 #[.slice ao n cap] w fun e w' => ∃ v, e = .returned (.tuple #[v, .int .i64 (openCode bs : Nat)]) ∧ Below w.heap.size w w' ∧ (openCode bs ≠ 0 → v = .slice none 0 0) ∧
      (openCode bs = 0 → v = .slice (some ⟨w.heap.size, 0, none⟩) (n - 7) (n - 7) ∧ Row w' w.heap.size (body bs)) := by
  by_cases h7 : n < 7
  · have hcode : openCode bs = 10 := by unfold openCode; rw [if_pos (by omega)]
    rw [hcode]
    refine (open_short ao n cap w h7).mono ?_
    rintro e w' ⟨rfl, rfl⟩
    exact ⟨_, rfl, Below.refl _ _, fun _ => rfl, fun h => by cases h⟩
  obtain ⟨b, off, rfl, hA⟩ := src_at hsrc (by omega)
  obtain ⟨m, rfl⟩ : ∃ m, n = m + 7 := ⟨n - 7, by omega⟩
  have c0 := hA 0 _ (getD_some bs 0 (by omega))
  have c1 := hA 1 _ (getD_some bs 1 (by omega))
  have c2 := hA 2 _ (getD_some bs 2 (by omega))
  simp only [B, Nat.add_zero] at c0 c1 c2
  by_cases hv : ¬ bs.getD 0 0 = 1
  · have hcode : openCode bs = 11 := by unfold openCode; rw [if_neg (by omega), if_pos hv]
    rw [hcode]
    refine (open_ver b off m cap _ w (by omega) ?_ c0).mono ?_
    · rw [bne_iff_ne]
      intro h
      refine hv (UInt8.toNat_inj.1 ?_)
      have : ((1 : UInt8).toNat) = 1 := rfl
      omega
    · rintro e w' ⟨rfl, rfl⟩
      exact ⟨_, rfl, Below.refl _ _, fun _ => rfl, fun h => by cases h⟩
  have hv := Decidable.not_not.1 hv
  rw [hv] at c0
  have c0' : w.cell? ⟨b, off, none⟩ = some (.int .u8 1) := c0
  have l1 := byte_lt (bs.getD 1 0)
  have l2 := byte_lt (bs.getD 2 0)
  by_cases hb : 4096 < told bs ∨ told bs ≠ m
  · have hcode : openCode bs = 10 := by unfold openCode; rw [if_neg (by omega), if_neg (by simpa using hv), if_pos (by omega)]
    rw [hcode]
    refine (open_len b off m cap _ _ (told bs) w (by omega) l1 l2 c0' c1 c2 rfl hb).mono ?_
    rintro e w' ⟨rfl, hbl⟩
    exact ⟨_, rfl, hbl, fun _ => rfl, fun h => by cases h⟩
  have htm : told bs = m := by omega
  have hA3 : At w b off (bs.take (m + 3)) := at_take hA _
  have hl3 : (bs.take (m + 3)).length = m + 3 := by simp; omega
  have hA4 : At w b (off + (m + 3)) [bs.getD (m + 3) 0, bs.getD (m + 4) 0, bs.getD (m + 5) 0, bs.getD (m + 6) 0] := by
    have := at_drop hA (m + 3)
    have e : bs.drop (m + 3) = [bs.getD (m + 3) 0, bs.getD (m + 4) 0, bs.getD (m + 5) 0, bs.getD (m + 6) 0] := by
      apply List.ext_getElem?
      intro i
      rw [List.getElem?_drop]
      match i with
      | 0 => simpa using getD_some bs (m + 3) (by omega)
      | 1 => simpa using getD_some bs (m + 4) (by omega)
      | 2 => simpa using getD_some bs (m + 5) (by omega)
      | 3 => simpa using getD_some bs (m + 6) (by omega)
      | i + 4 => simp; omega
    rw [e] at this
    exact this
  have htail : tailN bs = joinTo (bs.getD (m + 3) 0).toNat (bs.getD (m + 4) 0).toNat (bs.getD (m + 5) 0).toNat (bs.getD (m + 6) 0).toNat 4 := by
    unfold tailN
    rw [hn, show m + 7 - 4 = m + 3 from by omega, show m + 7 - 3 = m + 4 from by omega, show m + 7 - 2 = m + 5 from by omega, show m + 7 - 1 = m + 6 from by omega]
  by_cases hs : tailN bs = sumN (bs.take (m + 3))
  · have hcode : openCode bs = 0 := by
      unfold openCode
      rw [if_neg (by omega), if_neg (by simpa using hv), if_neg (by omega), if_neg (by rw [hn]; simpa using hs)]
    rw [hcode]
    refine (open_ok b off m cap _ _ (bs.take (m + 3)) (body bs) _ _ _ _ w (by omega) hcap l1 l2 c0' c1 c2 htm hl3 hA3 hA4 hT (by rw [← htail]; exact hs) (by simp [body]; omega) ?_).mono ?_
    · exact at_take (at_drop hA 3) _
    · rintro e w' ⟨rfl, hR, hbl⟩
      exact ⟨_, rfl, hbl, fun h => absurd rfl h, fun _ => ⟨rfl, hR⟩⟩
  · have hcode : openCode bs = 12 := by
      unfold openCode
      rw [if_neg (by omega), if_neg (by simpa using hv), if_neg (by omega), if_pos (by rw [hn]; simpa using hs)]
    rw [hcode]
    refine (open_sum b off m cap _ _ (bs.take (m + 3)) _ _ _ _ w (by omega) hcap l1 l2 c0' c1 c2 htm hl3 hA3 hA4 hT (by rw [← htail]; exact hs)).mono ?_
    rintro e w' ⟨rfl, hbl⟩
    exact ⟨_, rfl, hbl, fun _ => rfl, fun h => by cases h⟩
end Go.Proofs.YtboghanldbmfmabDoor
