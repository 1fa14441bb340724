import Derived.Test.YtboghanldbmfmabDoorOpenAny
namespace Go.Proofs.YtboghanldbmfmabDoor

/-! The sum is linear over exclusive or, and no step loses anything. -/
theorem halfN_xor : ∀ x y : Fin 16, halfN (x.val ^^^ y.val) = halfN x.val ^^^ halfN y.val := by decide +kernel
theorem halfN_small : ∀ x : Fin 16, halfN x.val < 268435456 → x.val = 0 := by decide +kernel

theorem xor_swap (a b c d : Nat) : (a ^^^ b) ^^^ (c ^^^ d) = (a ^^^ c) ^^^ (b ^^^ d) := by
  rw [Nat.xor_assoc, Nat.xor_assoc, ← Nat.xor_assoc b c d, Nat.xor_comm b c, Nat.xor_assoc]

theorem step4_xor (a b : Nat) : step4 (a ^^^ b) = step4 a ^^^ step4 b := by
  unfold step4
  have h1 : (a ^^^ b) / 16 = a / 16 ^^^ b / 16 := Nat.xor_div_two_pow (n := 4)
  have h2 : (a ^^^ b) % 16 = a % 16 ^^^ b % 16 := Nat.xor_mod_two_pow (n := 4)
  have h3 := halfN_xor ⟨a % 16, Nat.mod_lt _ (by decide)⟩ ⟨b % 16, Nat.mod_lt _ (by decide)⟩
  simp only at h3
  rw [h1, h2, h3, xor_swap]
theorem zed_xor (a b : Nat) : zed (a ^^^ b) = zed a ^^^ zed b := by unfold zed; rw [step4_xor, step4_xor]
theorem zed_zero : zed 0 = 0 := rfl
theorem step4_inj {a : Nat} (ha : a < 2 ^ 32) (h : step4 a = 0) : a = 0 := by
  unfold step4 at h
  have h' : a / 16 = halfN (a % 16) := by
    have := congrArg (fun x => x ^^^ halfN (a % 16)) h
    simpa [Nat.xor_assoc] using this
  have := halfN_small ⟨a % 16, Nat.mod_lt _ (by decide)⟩ (by simp only; omega)
  simp only at this
  rw [this] at h'
  have h0 : halfN 0 = 0 := rfl
  omega
theorem zed_inj {a : Nat} (ha : a < 2 ^ 32) (h : zed a = 0) : a = 0 := step4_inj ha (step4_inj (step4_lt ha) h)
theorem zed_shift (y : Nat) : zed (256 * y) = y := by
  unfold zed step4
  have h0 : halfN 0 = 0 := rfl
  rw [show 256 * y % 16 = 0 from by omega, h0, Nat.xor_zero, show 256 * y / 16 % 16 = 0 from by omega, h0, Nat.xor_zero]
  omega
theorem add_xor (x y : Nat) (h : x < 256) : x + 256 * y = x ^^^ 256 * y := by
  have h1 : (x ^^^ 256 * y) / 256 = x / 256 ^^^ 256 * y / 256 := Nat.xor_div_two_pow (n := 8)
  have h2 : (x ^^^ 256 * y) % 256 = x % 256 ^^^ 256 * y % 256 := Nat.xor_mod_two_pow (n := 8)
  rw [show x / 256 = 0 from by omega, show 256 * y / 256 = y from by omega, Nat.zero_xor] at h1
  rw [show x % 256 = x from by omega, show 256 * y % 256 = 0 from by omega, Nat.xor_zero] at h2
  omega

theorem joinTo4 (a b c d : Nat) : joinTo a b c d 4 = a + 256 * (b + 256 * (c + 256 * d)) := by simp only [joinTo]; omega

theorem crc4 (s : Nat) (t0 t1 t2 t3 : UInt8) : crc s [t0, t1, t2, t3] = zed (zed (zed (zed (s ^^^ joinTo t0.toNat t1.toNat t2.toNat t3.toNat 4)))) := by
  have b0 := byte_lt t0
  have b1 := byte_lt t1
  have b2 := byte_lt t2
  rw [joinTo4, add_xor _ _ b0, add_xor _ _ b1, add_xor _ _ b2]
  simp only [crc, List.foldl_cons, List.foldl_nil, stepB]
  rw [← Nat.xor_assoc, zed_xor (s ^^^ t0.toNat), zed_shift, ← Nat.xor_assoc, zed_xor (zed (s ^^^ t0.toNat) ^^^ t1.toNat), zed_shift, ← Nat.xor_assoc, zed_xor (zed (zed (s ^^^ t0.toNat) ^^^ t1.toNat) ^^^ t2.toNat), zed_shift]

/-- Bytes, exclusive or, place by place. -/
def xorL (xs ys : List UInt8) : List UInt8 := List.zipWith (fun a b => a ^^^ b) xs ys

theorem crc_xor (xs ys : List UInt8) (h : xs.length = ys.length) (s r : Nat) : crc s xs ^^^ crc r ys = crc (s ^^^ r) (xorL xs ys) := by
  induction xs generalizing ys s r with
  | nil =>
    cases ys with
    | nil => rfl
    | cons y ys => cases h
  | cons x xs ih =>
    cases ys with
    | nil => cases h
    | cons y ys =>
      have := ih ys (by simpa using h) (stepB s x) (stepB r y)
      simp only [crc, List.foldl_cons, xorL, List.zipWith_cons_cons] at this ⊢
      rw [this]
      congr 1
      unfold stepB
      rw [← zed_xor, UInt8.toNat_xor, xor_swap]

theorem crc_zeros (k : Nat) : crc 0 (List.replicate k 0) = 0 := by
  induction k with
  | zero => rfl
  | succ k ih => exact ih
theorem crc_zeros_inj (m : Nat) (s : Nat) (hs : s < 2 ^ 32) (h : crc s (List.replicate m 0) = 0) : s = 0 := by
  induction m generalizing s with
  | zero => exact h
  | succ m ih =>
    have hz : crc (zed s) (List.replicate m 0) = 0 := by
      have e : stepB s 0 = zed s := by unfold stepB; rw [show (0 : UInt8).toNat = 0 from rfl, Nat.xor_zero]
      rw [← e]; exact h
    exact zed_inj hs (ih _ (zed_lt hs) hz)

theorem crc_four (t0 t1 t2 t3 : UInt8) (h : crc 0 [t0, t1, t2, t3] = 0) : t0 = 0 ∧ t1 = 0 ∧ t2 = 0 ∧ t3 = 0 := by
  have b0 := byte_lt t0
  have b1 := byte_lt t1
  have b2 := byte_lt t2
  have b3 := byte_lt t3
  rw [crc4, Nat.zero_xor, joinTo4] at h
  have hl : t0.toNat + 256 * (t1.toNat + 256 * (t2.toNat + 256 * t3.toNat)) < 2 ^ 32 := by omega
  have := zed_inj hl (zed_inj (zed_lt hl) (zed_inj (zed_lt (zed_lt hl)) (zed_inj (zed_lt (zed_lt (zed_lt hl))) h)))
  refine ⟨?_, ?_, ?_, ?_⟩ <;> apply UInt8.toNat_inj.1 <;> show _ = 0 <;> omega

/-- A burst of up to four bytes that leaves no trace is none. -/
theorem crc_burst (k m : Nat) (es : List UInt8) (h4 : es.length ≤ 4) (h : crc 0 (List.replicate k 0 ++ (es ++ List.replicate m 0)) = 0) : ∀ e ∈ es, e = 0 := by
  rw [crc_append, crc_zeros, crc_append] at h
  have h0 : crc 0 es = 0 := crc_zeros_inj m _ (crc_lt (by decide) _) h
  have pad : ∀ j, crc 0 (es ++ List.replicate j 0) = 0 := fun j => by rw [crc_append, h0, crc_zeros]
  match es, h4 with
  | [], _ => intro e he; cases he
  | [a], _ =>
    obtain ⟨rfl, _⟩ := crc_four a 0 0 0 (pad 3)
    simp
  | [a, b], _ =>
    obtain ⟨rfl, rfl, _⟩ := crc_four a b 0 0 (pad 2)
    simp
  | [a, b, c], _ =>
    obtain ⟨rfl, rfl, rfl, _⟩ := crc_four a b c 0 (pad 1)
    simp
  | [a, b, c, d], _ =>
    obtain ⟨rfl, rfl, rfl, rfl⟩ := crc_four a b c d (pad 0)
    simp

/-- The sum of a right frame, sum and all, is one number. -/
theorem crc_whole (xs : List UInt8) (t0 t1 t2 t3 : UInt8) (h : joinTo t0.toNat t1.toNat t2.toNat t3.toNat 4 = sumN xs) :
    crc 4294967295 (xs ++ [t0, t1, t2, t3]) = zed (zed (zed (zed 4294967295))) := by
  rw [crc_append, crc4, h, sumN, Nat.xor_comm 4294967295, ← Nat.xor_assoc, Nat.xor_self, Nat.zero_xor]

/-! The parts of bytes that may be a frame. -/
theorem split7 (bs : List UInt8) (h : 7 ≤ bs.length) : ∃ u0 u1 u2 ps t0 t1 t2 t3, bs = u0 :: u1 :: u2 :: ps ++ [t0, t1, t2, t3] := by
  match bs, h with
  | u0 :: u1 :: u2 :: r, h =>
    simp only [List.length_cons] at h
    obtain ⟨t0, t1, t2, t3, ht⟩ : ∃ t0 t1 t2 t3, r.drop (r.length - 4) = [t0, t1, t2, t3] := by
      have hl : (r.drop (r.length - 4)).length = 4 := by simp; omega
      match r.drop (r.length - 4), hl with
      | [a, b, c, d], _ => exact ⟨a, b, c, d, rfl⟩
    refine ⟨u0, u1, u2, r.take (r.length - 4), t0, t1, t2, t3, ?_⟩
    rw [← ht]
    simp

theorem code_parts (u0 u1 u2 : UInt8) (ps : List UInt8) (t0 t1 t2 t3 : UInt8) :
    openCode (u0 :: u1 :: u2 :: ps ++ [t0, t1, t2, t3]) =
      if u0 ≠ 1 then 11 else if 4096 < u1.toNat + u2.toNat * 256 ∨ u1.toNat + u2.toNat * 256 ≠ ps.length then 10
      else if joinTo t0.toNat t1.toNat t2.toNat t3.toNat 4 ≠ sumN (u0 :: u1 :: u2 :: ps) then 12 else 0 := by
  have hl : (u0 :: u1 :: u2 :: ps ++ [t0, t1, t2, t3]).length = ps.length + 7 := by simp
  have g : ∀ j t, [t0, t1, t2, t3][j]? = some t → (u0 :: u1 :: u2 :: ps ++ [t0, t1, t2, t3]).getD (ps.length + 3 + j) 0 = t := by
    intro j t ht
    rw [List.getD_eq_getElem?_getD, List.getElem?_append_right (by simp)]
    rw [show ps.length + 3 + j - (u0 :: u1 :: u2 :: ps).length = j from by simp, ht]; rfl
  have ht : tailN (u0 :: u1 :: u2 :: ps ++ [t0, t1, t2, t3]) = joinTo t0.toNat t1.toNat t2.toNat t3.toNat 4 := by
    unfold tailN
    rw [hl, show ps.length + 7 - 4 = ps.length + 3 + 0 from by omega, show ps.length + 7 - 3 = ps.length + 3 + 1 from by omega, show ps.length + 7 - 2 = ps.length + 3 + 2 from by omega, show ps.length + 7 - 1 = ps.length + 3 + 3 from by omega,
      g 0 t0 rfl, g 1 t1 rfl, g 2 t2 rfl, g 3 t3 rfl]
  have htk : (u0 :: u1 :: u2 :: ps ++ [t0, t1, t2, t3]).take (ps.length + 3) = u0 :: u1 :: u2 :: ps := by
    rw [List.take_append_of_le_length (by simp), List.take_of_length_le (by simp)]
  unfold openCode
  rw [ht, hl, if_neg (by omega), show ps.length + 7 - 4 = ps.length + 3 from by omega, htk]
  have htold : told (u0 :: u1 :: u2 :: ps ++ [t0, t1, t2, t3]) = u1.toNat + u2.toNat * 256 := rfl
  have h0 : (u0 :: u1 :: u2 :: ps ++ [t0, t1, t2, t3]).getD 0 0 = u0 := rfl
  rw [htold, h0]
  by_cases h1 : u0 ≠ 1
  · rw [if_pos h1, if_pos h1]
  · rw [if_neg h1, if_neg h1]
    by_cases h2 : 4096 < u1.toNat + u2.toNat * 256 ∨ u1.toNat + u2.toNat * 256 ≠ ps.length
    · rw [if_pos h2, if_pos (by omega)]
    · rw [if_neg h2, if_neg (by omega)]

theorem body_parts (u0 u1 u2 : UInt8) (ps : List UInt8) (t0 t1 t2 t3 : UInt8) : body (u0 :: u1 :: u2 :: ps ++ [t0, t1, t2, t3]) = ps := by
  unfold body
  have hl : (u0 :: u1 :: u2 :: ps ++ [t0, t1, t2, t3]).length = ps.length + 7 := by simp
  rw [hl, Nat.add_sub_cancel]
  show (ps ++ [t0, t1, t2, t3]).take ps.length = ps
  simp

theorem join_le4 (s : Nat) (h : s < 2 ^ 32) : joinTo (byteAt s 0).toNat (byteAt s 1).toNat (byteAt s 2).toNat (byteAt s 3).toNat 4 = s := by
  rw [joinTo4, byteAt_nat, byteAt_nat, byteAt_nat, byteAt_nat]
  omega
theorem le4_join (t0 t1 t2 t3 : UInt8) (s : Nat) (h : joinTo t0.toNat t1.toNat t2.toNat t3.toNat 4 = s) : le4 s = [t0, t1, t2, t3] := by
  have b0 := byte_lt t0
  have b1 := byte_lt t1
  have b2 := byte_lt t2
  have b3 := byte_lt t3
  rw [joinTo4] at h
  unfold le4
  have e : ∀ (k : Nat) (t : UInt8), s / 256 ^ k % 256 = t.toNat → byteAt s k = t := fun k t ht => UInt8.toNat_inj.1 (by rw [byteAt_nat, ht])
  rw [e 0 t0 (by omega), e 1 t1 (by omega), e 2 t2 (by omega), e 3 t3 (by omega)]
theorem len_bytes (n : Nat) (h : n ≤ 4096) : (byteAt n 0).toNat + (byteAt n 1).toNat * 256 = n := by
  rw [byteAt_nat, byteAt_nat]; omega

/-- What is sealed opens as it was. -/
theorem frame_code (ps : List UInt8) (h : ps.length ≤ 4096) : openCode (frameOf ps) = 0 := by
  show openCode (1 :: byteAt ps.length 0 :: byteAt ps.length 1 :: ps ++ [byteAt (sumN (hdr ps)) 0, byteAt (sumN (hdr ps)) 1, byteAt (sumN (hdr ps)) 2, byteAt (sumN (hdr ps)) 3]) = 0
  rw [code_parts, if_neg (by simp), len_bytes _ h, if_neg (by omega), join_le4 _ (sumN_lt _), if_neg (by simp [hdr])]
theorem frame_body (ps : List UInt8) : body (frameOf ps) = ps := body_parts _ _ _ ps _ _ _ _

/-- What opens is the frame of what it opens to. -/
theorem code_frame (bs : List UInt8) (h : openCode bs = 0) : frameOf (body bs) = bs ∧ (body bs).length ≤ 4096 ∧ bs.length = (body bs).length + 7 := by
  have h7 : 7 ≤ bs.length := by
    by_cases h7 : bs.length < 7
    · unfold openCode at h; rw [if_pos h7] at h; cases h
    · omega
  obtain ⟨u0, u1, u2, ps, t0, t1, t2, t3, rfl⟩ := split7 bs h7
  rw [code_parts] at h
  rw [body_parts]
  split at h
  · cases h
  · split at h
    · cases h
    · split at h
      · cases h
      · rename_i h1 h2 h3
        have e0 : u0 = 1 := by simpa using h1
        subst e0
        have hlen : u1.toNat + u2.toNat * 256 = ps.length := by omega
        have b1 := byte_lt u1
        have b2 := byte_lt u2
        have e1 : byteAt ps.length 0 = u1 := UInt8.toNat_inj.1 (by rw [byteAt_nat]; omega)
        have e2 : byteAt ps.length 1 = u2 := UInt8.toNat_inj.1 (by rw [byteAt_nat]; omega)
        refine ⟨?_, by omega, by simp⟩
        unfold frameOf
        have eh : hdr ps = 1 :: u1 :: u2 :: ps := by unfold hdr; rw [e1, e2]
        rw [eh, le4_join t0 t1 t2 t3 _ (by simpa using h3)]

theorem code_cases (bs : List UInt8) : openCode bs = 0 ∨ openCode bs = 10 ∨ openCode bs = 11 ∨ openCode bs = 12 := by
  unfold openCode
  split
  · simp
  · split
    · simp
    · split
      · simp
      · split <;> simp
end Go.Proofs.YtboghanldbmfmabDoor
