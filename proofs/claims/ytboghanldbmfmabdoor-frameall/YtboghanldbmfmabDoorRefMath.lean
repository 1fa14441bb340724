import Derived.Test.YtboghanldbmfmabDoorTheory
namespace Go.Proofs.YtboghanldbmfmabDoor

/-! The sum bit by bit is the sum by half bytes. -/
def bitQ (t : Nat) : Nat := if t % 2 = 1 then 3988292384 else 0
def bit1 (t : Nat) : Nat := t / 2 ^^^ bitQ t
theorem bitQ_xor (a b : Nat) : bitQ (a ^^^ b) = bitQ a ^^^ bitQ b := by
  have h2 : (a ^^^ b) % 2 = a % 2 ^^^ b % 2 := Nat.xor_mod_two_pow (n := 1)
  unfold bitQ
  rw [h2]
  rcases Nat.mod_two_eq_zero_or_one a with ha | ha <;> rcases Nat.mod_two_eq_zero_or_one b with hb | hb <;> rw [ha, hb] <;> rfl
theorem bit1_xor (a b : Nat) : bit1 (a ^^^ b) = bit1 a ^^^ bit1 b := by
  have h1 : (a ^^^ b) / 2 = a / 2 ^^^ b / 2 := Nat.xor_div_two_pow (n := 1)
  unfold bit1
  rw [h1, bitQ_xor, xor_swap]
theorem bit1_even (y : Nat) : bit1 (2 * y) = y := by
  unfold bit1 bitQ
  rw [if_neg (by omega), Nat.xor_zero]; omega
theorem bit4_small : ∀ i : Fin 16, bit1 (bit1 (bit1 (bit1 i.val))) = halfN i.val := by decide +kernel
theorem split16 (t : Nat) : t = 16 * (t / 16) ^^^ t % 16 := by
  have h1 : (16 * (t / 16) ^^^ t % 16) / 16 = 16 * (t / 16) / 16 ^^^ t % 16 / 16 := Nat.xor_div_two_pow (n := 4)
  have h2 : (16 * (t / 16) ^^^ t % 16) % 16 = 16 * (t / 16) % 16 ^^^ t % 16 % 16 := Nat.xor_mod_two_pow (n := 4)
  rw [show 16 * (t / 16) / 16 = t / 16 from by omega, show t % 16 / 16 = 0 from by omega, Nat.xor_zero] at h1
  rw [show 16 * (t / 16) % 16 = 0 from by omega, show t % 16 % 16 = t % 16 from by omega, Nat.zero_xor] at h2
  omega
theorem bit4 (t : Nat) : bit1 (bit1 (bit1 (bit1 t))) = step4 t := by
  conv => lhs; rw [split16 t]
  rw [bit1_xor, bit1_xor, bit1_xor, bit1_xor]
  rw [show 16 * (t / 16) = 2 * (2 * (2 * (2 * (t / 16)))) from by omega, bit1_even, bit1_even, bit1_even, bit1_even]
  have := bit4_small ⟨t % 16, Nat.mod_lt _ (by decide)⟩
  simp only at this
  rw [this]; rfl

/-- One bit of the document's own sum: the sum, and what is left of the byte. -/
def refS (s c : Nat) : Nat := if (s + c) % 2 = 1 then s / 2 ^^^ 3988292384 else s / 2
def refK (s c : Nat) : Nat → Nat × Nat
  | 0 => (s, c)
  | k + 1 => (refS (refK s c k).1 (refK s c k).2, (refK s c k).2 / 2)
def bitN (t : Nat) : Nat → Nat
  | 0 => t
  | k + 1 => bit1 (bitN t k)
theorem refS_xor (s c : Nat) : refS s c ^^^ c / 2 = bit1 (s ^^^ c) := by
  have h1 : (s ^^^ c) / 2 = s / 2 ^^^ c / 2 := Nat.xor_div_two_pow (n := 1)
  have h2 : (s ^^^ c) % 2 = s % 2 ^^^ c % 2 := Nat.xor_mod_two_pow (n := 1)
  unfold refS bit1 bitQ
  have e : (s ^^^ c) % 2 = (s + c) % 2 := by
    rw [h2]
    rcases Nat.mod_two_eq_zero_or_one s with ha | ha <;> rcases Nat.mod_two_eq_zero_or_one c with hb | hb <;> rw [ha, hb] <;> (try simp) <;> omega
  rw [e, h1]
  split
  · rw [Nat.xor_assoc, Nat.xor_comm 3988292384, ← Nat.xor_assoc]
  · rw [Nat.xor_zero]
theorem refK_xor (s c k : Nat) : (refK s c k).1 ^^^ (refK s c k).2 = bitN (s ^^^ c) k := by
  induction k with
  | zero => rfl
  | succ k ih => show refS _ _ ^^^ _ / 2 = bit1 (bitN (s ^^^ c) k); rw [refS_xor, ih]
theorem refK_c (s c k : Nat) : (refK s c k).2 = c / 2 ^ k := by
  induction k with
  | zero => simp [refK]
  | succ k ih => show (refK s c k).2 / 2 = _; rw [ih, Nat.div_div_eq_div_mul, Nat.pow_succ]
theorem refS_lt {s c : Nat} (h : s < 2 ^ 32) : refS s c < 2 ^ 32 := by
  unfold refS
  split
  · exact Nat.xor_lt_two_pow (by omega) (by decide)
  · omega
theorem refK_lt {s : Nat} (c k : Nat) (h : s < 2 ^ 32) : (refK s c k).1 < 2 ^ 32 := by
  induction k with
  | zero => exact h
  | succ k ih => exact refS_lt ih
theorem refK_le (s c k : Nat) : (refK s c k).2 ≤ c := by rw [refK_c]; exact Nat.div_le_self _ _
theorem refK_8 (s : Nat) (u : UInt8) : (refK s u.toNat 8).1 = stepB s u := by
  have h := refK_xor s u.toNat 8
  have hu := byte_lt u
  rw [refK_c, show u.toNat / 2 ^ 8 = 0 from by omega, Nat.xor_zero] at h
  rw [h]
  show bit1 (bit1 (bit1 (bit1 (bit1 (bit1 (bit1 (bit1 (s ^^^ u.toNat)))))))) = _
  rw [bit4, bit4]; rfl
theorem sub_ones (s : Nat) (h : s < 2 ^ 32) : 4294967295 - s = 4294967295 ^^^ s := by
  have := BitVec.toNat_not (x := BitVec.ofNat 32 s)
  rw [BitVec.not_def, BitVec.toNat_xor, BitVec.toNat_allOnes, BitVec.toNat_ofNat, Nat.mod_eq_of_lt h] at this
  exact this.symm
end Go.Proofs.YtboghanldbmfmabDoor
