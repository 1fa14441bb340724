import Derived.Test.YtboghanldbmfmaaDoorTheory
namespace Go.Proofs.YtboghanldbmfmaaDoor

theorem frame_whole (ps : List UInt8) : crc 4294967295 (frameOf ps) = zed (zed (zed (zed 4294967295))) :=
  crc_whole (hdr ps) _ _ _ _ (join_le4 _ (sumN_lt _))

/-- Other bytes within four neighbours, behind the head: the sum is wrong. -/
theorem burst_code (ps b' : List UInt8) (k m : Nat) (es : List UInt8) (h : ps.length ≤ 4096) (hl : b'.length = ps.length + 7) (h3 : b'.take 3 = (frameOf ps).take 3)
    (hd : xorL (frameOf ps) b' = List.replicate k 0 ++ (es ++ List.replicate m 0)) (h4 : es.length ≤ 4) (hne : ∃ e ∈ es, e ≠ 0) : openCode b' = 12 := by
  obtain ⟨u0, u1, u2, qs, t0, t1, t2, t3, rfl⟩ := split7 b' (by omega)
  have hq : qs.length = ps.length := by simp at hl; omega
  have e3 : [u0, u1, u2] = [1, byteAt ps.length 0, byteAt ps.length 1] := h3
  simp only [List.cons.injEq, and_true] at e3
  obtain ⟨rfl, rfl, rfl⟩ := e3
  rw [code_parts, if_neg (by simp), len_bytes _ h, if_neg (by omega)]
  by_cases hs : joinTo t0.toNat t1.toNat t2.toNat t3.toNat 4 = sumN (1 :: byteAt ps.length 0 :: byteAt ps.length 1 :: qs)
  · have hw := crc_whole _ t0 t1 t2 t3 hs
    have hx := crc_xor (frameOf ps) (1 :: byteAt ps.length 0 :: byteAt ps.length 1 :: qs ++ [t0, t1, t2, t3]) (by rw [frameOf_len, hl]) 4294967295 4294967295
    rw [frame_whole, hw, Nat.xor_self, Nat.xor_self, hd] at hx
    obtain ⟨e, he, hn⟩ := hne
    exact absurd (crc_burst k m es h4 hx.symm e he) hn
  · rw [if_pos hs]

theorem xorL_self (f : List UInt8) : xorL f f = List.replicate f.length 0 := by
  induction f with
  | nil => rfl
  | cons x f ih => simp only [xorL, List.zipWith_cons_cons, UInt8.xor_self, List.length_cons, List.replicate_succ] at ih ⊢; rw [ih]

theorem xorL_set (f : List UInt8) (k : Nat) (y : UInt8) (h : k < f.length) : xorL f (f.set k y) = List.replicate k 0 ++ ([f.getD k 0 ^^^ y] ++ List.replicate (f.length - k - 1) 0) := by
  induction f generalizing k with
  | nil => cases h
  | cons x f ih =>
    cases k with
    | zero =>
      have := xorL_self f
      simp only [xorL, List.set_cons_zero, List.zipWith_cons_cons] at this ⊢
      rw [this]; rfl
    | succ k =>
      have := ih k (by simpa using h)
      simp only [xorL, List.set_cons_succ, List.zipWith_cons_cons, UInt8.xor_self, List.length_cons, List.replicate_succ, List.getD_cons_succ] at this ⊢
      rw [this, show f.length + 1 - (k + 1) - 1 = f.length - k - 1 from by omega]; rfl

theorem add_ne (x a : UInt8) (h : a ≠ 0) : x + a ≠ x := by
  intro e
  apply h
  have := congrArg (fun z => z - x) e
  simpa [UInt8.add_comm x a] using this
theorem xor_ne (x y : UInt8) (h : y ≠ x) : x ^^^ y ≠ 0 := by
  intro e
  exact h (UInt8.xor_eq_zero_iff.1 e).symm

/-- One other byte: it does not open. -/
theorem byte_code (ps : List UInt8) (k : Nat) (y : UInt8) (h : ps.length ≤ 4096) (hk : k < ps.length + 7) (hy : y ≠ (frameOf ps).getD k 0) : openCode ((frameOf ps).set k y) ≠ 0 := by
  have hl := frameOf_len ps
  match k, hk with
  | 0, _ =>
    have e : (frameOf ps).set 0 y = y :: byteAt ps.length 0 :: byteAt ps.length 1 :: ps ++ [byteAt (sumN (hdr ps)) 0, byteAt (sumN (hdr ps)) 1, byteAt (sumN (hdr ps)) 2, byteAt (sumN (hdr ps)) 3] := rfl
    rw [e, code_parts, if_pos (by exact hy)]; decide
  | 1, _ =>
    have e : (frameOf ps).set 1 y = 1 :: y :: byteAt ps.length 1 :: ps ++ [byteAt (sumN (hdr ps)) 0, byteAt (sumN (hdr ps)) 1, byteAt (sumN (hdr ps)) 2, byteAt (sumN (hdr ps)) 3] := rfl
    have hy' : y.toNat ≠ (byteAt ps.length 0).toNat := fun hh => hy (UInt8.toNat_inj.1 hh)
    have hb := len_bytes ps.length h
    rw [e, code_parts, if_neg (by simp), if_pos (by omega)]; decide
  | 2, _ =>
    have e : (frameOf ps).set 2 y = 1 :: byteAt ps.length 0 :: y :: ps ++ [byteAt (sumN (hdr ps)) 0, byteAt (sumN (hdr ps)) 1, byteAt (sumN (hdr ps)) 2, byteAt (sumN (hdr ps)) 3] := rfl
    have hy' : y.toNat ≠ (byteAt ps.length 1).toNat := fun hh => hy (UInt8.toNat_inj.1 hh)
    have hb := len_bytes ps.length h
    rw [e, code_parts, if_neg (by simp), if_pos (by omega)]; decide
  | k + 3, hk =>
    have hc := burst_code ps ((frameOf ps).set (k + 3) y) (k + 3) _ _ h (by rw [List.length_set, hl]) (by rw [List.take_set_of_le (by omega)]) (xorL_set _ _ _ (by omega)) (by simp)
      ⟨_, List.mem_singleton.2 rfl, xor_ne _ _ hy⟩
    rw [hc]; decide

/-- A frame of which up to four neighbours are laid over. -/
def bl (f : List UInt8) (k : Nat) (es : List UInt8) (i : Nat) : List UInt8 := (List.range f.length).map fun j => f.getD j 0 ^^^ (if k ≤ j ∧ j < k + i then es.getD (j - k) 0 else 0)
theorem bl_len (f : List UInt8) (k : Nat) (es : List UInt8) (i : Nat) : (bl f k es i).length = f.length := by simp [bl]
theorem bl_get (f : List UInt8) (k : Nat) (es : List UInt8) (i j : Nat) (h : j < f.length) : (bl f k es i)[j]? = some (f.getD j 0 ^^^ (if k ≤ j ∧ j < k + i then es.getD (j - k) 0 else 0)) := by
  simp [bl, h]
theorem bl_zero (f : List UInt8) (k : Nat) (es : List UInt8) : bl f k es 0 = f := by
  apply List.ext_getElem?
  intro j
  by_cases h : j < f.length
  · rw [bl_get _ _ _ _ _ h, if_neg (by omega), UInt8.xor_zero, getD_some f j h]
  · rw [List.getElem?_eq_none (by rw [bl_len]; omega), List.getElem?_eq_none (by omega)]
theorem bl_succ (f : List UInt8) (k : Nat) (es : List UInt8) (i : Nat) : (bl f k es i).set (k + i) (f.getD (k + i) 0 ^^^ es.getD i 0) = bl f k es (i + 1) := by
  apply List.ext_getElem?
  intro j
  by_cases hj : j < f.length
  · rw [List.getElem?_set, bl_get _ _ _ _ _ hj, bl_get _ _ _ _ _ hj]
    by_cases e : k + i = j
    · subst e
      rw [if_pos rfl, if_pos (by rw [bl_len]; omega), if_pos (by omega), Nat.add_sub_cancel_left]
    · rw [if_neg e]
      by_cases hc : k ≤ j ∧ j < k + i
      · rw [if_pos hc, if_pos (by omega)]
      · rw [if_neg hc, if_neg (by omega)]
  · rw [List.getElem?_eq_none (by rw [List.length_set, bl_len]; omega), List.getElem?_eq_none (by rw [bl_len]; omega)]
theorem bl_same (f : List UInt8) (k : Nat) (es : List UInt8) (i : Nat) (h : ∀ j, j < i → es.getD j 0 = 0) : bl f k es i = f := by
  apply List.ext_getElem?
  intro j
  by_cases hj : j < f.length
  · rw [bl_get _ _ _ _ _ hj, getD_some f j hj]
    split
    · rw [h (j - k) (by omega), UInt8.xor_zero]
    · rw [UInt8.xor_zero]
  · rw [List.getElem?_eq_none (by rw [bl_len]; omega), List.getElem?_eq_none (by omega)]
theorem bl_xor (f : List UInt8) (k : Nat) (es : List UInt8) (i : Nat) (hi : i ≤ es.length) (h : k + i ≤ f.length) : xorL f (bl f k es i) = List.replicate k 0 ++ (es.take i ++ List.replicate (f.length - k - i) 0) := by
  have hlen : (es.take i).length = i := by simp; omega
  apply List.ext_getElem?
  intro j
  by_cases hj : j < f.length
  · have e1 : (xorL f (bl f k es i))[j]? = some (f.getD j 0 ^^^ (f.getD j 0 ^^^ (if k ≤ j ∧ j < k + i then es.getD (j - k) 0 else 0))) := by
      unfold xorL
      rw [List.getElem?_zipWith, bl_get _ _ _ _ _ hj, getD_some f j hj]
    rw [e1, ← UInt8.xor_assoc, UInt8.xor_self, UInt8.zero_xor]
    by_cases h1 : j < k
    · rw [if_neg (by omega), List.getElem?_append_left (by simpa using h1), List.getElem?_replicate, if_pos h1]
    · rw [List.getElem?_append_right (by simpa using h1), List.length_replicate]
      by_cases h2 : j < k + i
      · rw [if_pos (by omega), List.getElem?_append_left (by omega), List.getElem?_take, if_pos (by omega), getD_some es (j - k) (by omega)]
      · rw [if_neg (by omega), List.getElem?_append_right (by omega), List.getElem?_replicate, if_pos (by omega)]
  · rw [List.getElem?_eq_none (by simp [xorL, bl_len]; omega), List.getElem?_eq_none (by simp [hlen]; omega)]

theorem bl_code (ps : List UInt8) (k : Nat) (es : List UInt8) (i : Nat) (h : ps.length ≤ 4096) (hk : 3 ≤ k) (hi : i ≤ es.length) (h4 : i ≤ 4) (hki : k + i ≤ ps.length + 7) (hne : ∃ j, j < i ∧ es.getD j 0 ≠ 0) :
    openCode (bl (frameOf ps) k es i) = 12 := by
  have hl := frameOf_len ps
  refine burst_code ps _ k _ (es.take i) h (by rw [bl_len, hl]) ?_ (bl_xor _ _ _ _ hi (by omega)) (by simp; omega) ?_
  · apply List.ext_getElem?
    intro j
    rw [List.getElem?_take, List.getElem?_take]
    by_cases hj : j < 3
    · rw [if_pos hj, if_pos hj, bl_get _ _ _ _ _ (by omega), if_neg (by omega), UInt8.xor_zero, getD_some _ j (by omega)]
    · rw [if_neg hj, if_neg hj]
  · obtain ⟨j, hj, hn⟩ := hne
    refine ⟨es.getD j 0, ?_, hn⟩
    have := getD_some es j (by omega)
    have h2 : (es.take i)[j]? = some (es.getD j 0) := by rw [List.getElem?_take, if_pos hj, this]
    exact List.mem_of_getElem? h2

/-- No beginning opens, nor anything longer. -/
theorem code_len (bs : List UInt8) (ps : List UInt8) (h : ps.length ≤ 4096) (h3 : 3 ≤ bs.length → bs.take 3 = (frameOf ps).take 3) (hl : bs.length ≠ ps.length + 7) : openCode bs = 10 := by
  by_cases h7 : bs.length < 7
  · unfold openCode; rw [if_pos h7]
  · obtain ⟨u0, u1, u2, qs, t0, t1, t2, t3, rfl⟩ := split7 bs (by omega)
    have e3 : [u0, u1, u2] = [1, byteAt ps.length 0, byteAt ps.length 1] := h3 (by omega)
    simp only [List.cons.injEq, and_true] at e3
    obtain ⟨rfl, rfl, rfl⟩ := e3
    have hq : qs.length ≠ ps.length := by simp at hl; omega
    rw [code_parts, if_neg (by simp), len_bytes _ h, if_pos (by omega)]
theorem take_code (ps : List UInt8) (j : Nat) (h : ps.length ≤ 4096) (hj : j < ps.length + 7) : openCode ((frameOf ps).take j) = 10 := by
  have hl := frameOf_len ps
  refine code_len _ ps h (fun h3 => ?_) (by simp; omega)
  simp only [List.length_take] at h3
  rw [List.take_take, show min 3 j = 3 from by omega]
theorem more_code (ps more : List UInt8) (h : ps.length ≤ 4096) (hm : 0 < more.length) : openCode (frameOf ps ++ more) = 10 := by
  have hl := frameOf_len ps
  refine code_len _ ps h (fun _ => ?_) (by simp; omega)
  rw [List.take_append_of_le_length (by omega)]
end Go.Proofs.YtboghanldbmfmaaDoor
