import Derived.WalkKit
import Derived.Laws.BitsLemmas
namespace Go.Proofs.YtboghanldbmfmabDoor

/-! The sum, over natural numbers. -/
def halfN (i : Nat) : Nat := [0, 498536548, 997073096, 651767980, 1994146192, 1802195444, 1303535960, 1342533948, 3988292384, 4027552580, 3604390888, 3412177804, 2607071920, 2262029012, 2685067896, 3183342108].getD i 0
def step4 (s : Nat) : Nat := s / 16 ^^^ halfN (s % 16)
def zed (s : Nat) : Nat := step4 (step4 s)
def stepB (s : Nat) (u : UInt8) : Nat := zed (s ^^^ u.toNat)
def crc (s : Nat) (bs : List UInt8) : Nat := bs.foldl stepB s
def sumN (bs : List UInt8) : Nat := 4294967295 ^^^ crc 4294967295 bs

theorem halfN_lt (i : Nat) : halfN i < 2 ^ 32 := by
  by_cases h : i < 16
  · have : ∀ i : Fin 16, halfN i.val < 2 ^ 32 := by decide
    exact this ⟨i, h⟩
  · simp [halfN, List.getD, List.getElem?_eq_none (show [0, 498536548, 997073096, 651767980, 1994146192, 1802195444, 1303535960, 1342533948, 3988292384, 4027552580, 3604390888, 3412177804, 2607071920, 2262029012, 2685067896, 3183342108].length ≤ i from by simp; omega)]

theorem step4_lt {s : Nat} (h : s < 2 ^ 32) : step4 s < 2 ^ 32 :=
  Nat.xor_lt_two_pow (by omega) (halfN_lt _)
theorem zed_lt {s : Nat} (h : s < 2 ^ 32) : zed s < 2 ^ 32 := step4_lt (step4_lt h)
theorem byte_lt (u : UInt8) : u.toNat < 256 := u.toNat_lt
theorem xorB_lt {s : Nat} (h : s < 2 ^ 32) (u : UInt8) : s ^^^ u.toNat < 2 ^ 32 := Nat.xor_lt_two_pow h (by have := byte_lt u; omega)
theorem stepB_lt {s : Nat} (h : s < 2 ^ 32) (u : UInt8) : stepB s u < 2 ^ 32 := zed_lt (xorB_lt h u)
theorem crc_lt {s : Nat} (h : s < 2 ^ 32) (bs : List UInt8) : crc s bs < 2 ^ 32 := by
  induction bs generalizing s with
  | nil => exact h
  | cons u bs ih => exact ih (stepB_lt h u)
theorem sumN_lt (bs : List UInt8) : sumN bs < 2 ^ 32 := Nat.xor_lt_two_pow (by decide) (crc_lt (by decide) bs)
theorem crc_append (s : Nat) (xs ys : List UInt8) : crc s (xs ++ ys) = crc (crc s xs) ys := by simp [crc, List.foldl_append]
theorem crc_take_succ (bs : List UInt8) (k : Nat) (u : UInt8) (h : bs[k]? = some u) (s : Nat) : crc s (bs.take (k + 1)) = stepB (crc s (bs.take k)) u := by
  rw [List.take_add_one, h, crc_append]; rfl

/-! Go's operations on 32 bits. -/
theorem wraps_u32 (n : Int) (h₀ : 0 ≤ n) (h₁ : n < 2 ^ 32) : IntKind.u32.wrap n = n := by
  simp only [IntKind.wrap, IntKind.bits, IntKind.signed]
  simp
  omega
theorem bits_xor_u32 (a b : Nat) (ha : a < 2 ^ 32) (hb : b < 2 ^ 32) : bits BinOp.xor IntKind.u32 (a : Int) (b : Int) = ((a ^^^ b : Nat) : Int) := by
  have hx : a ^^^ b < 2 ^ 32 := Nat.xor_lt_two_pow ha hb
  have ha' : a % 2 ^ IntKind.u32.bits = a := Nat.mod_eq_of_lt ha
  have hb' : b % 2 ^ IntKind.u32.bits = b := Nat.mod_eq_of_lt hb
  simp only [bits, BitVec.ofInt_natCast, BitVec.toNat_xor, BitVec.toNat_ofNat, ha', hb']
  exact wraps_u32 _ (Int.natCast_nonneg _) (by omega)
theorem bits_and15_u32 (a : Nat) (ha : a < 2 ^ 32) : bits BinOp.and IntKind.u32 (a : Int) 15 = ((a % 16 : Nat) : Int) := by
  have := bits_mask IntKind.u32 32 (by decide) wraps_u32 4 (by decide) (a : Int) (Int.natCast_nonneg _) (by omega)
  rw [show ((2 : Int) ^ 4 - 1) = 15 from rfl, show ((2 : Int) ^ 4) = 16 from rfl] at this
  rw [this]; omega
end Go.Proofs.YtboghanldbmfmabDoor
