import Derived.Test.YtjpdcahodmomgaaJt1
import Derived.Test.YtjpdcahodmomgaaJn26
namespace Go.Proofs.Ytjpdcahodmomgaa
open Go.RowKit Go.PlainAid
set_option linter.unusedVariables false
set_option linter.unusedSimpArgs false
set_option maxRecDepth 100000
/-- No sector from there on says that a record ends in it. -/
def Clean (b : Nat → UInt8) (n nx : Nat) : Prop := ∀ i, nx ≤ i → i < n → b (i * 512 + 511) ≠ 2
theorem mark_last (num p len : Nat) : (markL num p len).getD 7 0 = if p + 1 = kS len then 2 else 1 := rfl
theorem bears_last {b : Nat → UInt8} {i : Nat} {m : List UInt8} (h : bearsB (secL b i) m = true) : b (i * 512 + 511) = m.getD 7 0 := by
  unfold bearsB at h
  simp only [Bool.and_eq_true, beq_iff_eq] at h
  have h1 := h.2
  have h2 : ((secL b i).drop 504).getD 7 0 = m.getD 7 0 := by rw [h1]
  rw [List.getD_eq_getElem?_getD, List.getElem?_drop, secL_get _ _ _ (by omega)] at h2
  exact h2
theorem Clean.not {b : Nat → UInt8} {n nx num : Nat} (h : Clean b n nx) : ¬ RecOk b n nx num := by
  rintro ⟨h1, h2, h3⟩
  have hk := kS_pos (lenIn (secL b nx))
  obtain ⟨h4, h5⟩ := h3 (kS (lenIn (secL b nx)) - 1) (by omega)
  have h6 := bears_last h5
  rw [mark_last, if_pos (by omega)] at h6
  exact h (nx + (kS (lenIn (secL b nx)) - 1)) (by omega) h4 h6
theorem secL_same {b b' : Nat → UInt8} {i : Nat} (h : ∀ j, j < 512 → b' (i * 512 + j) = b (i * 512 + j)) : secL b' i = secL b i := by
  unfold secL
  refine List.map_congr_left fun j hj => ?_
  exact h j (List.mem_range.1 hj)
theorem kS_place {len j : Nat} (hj : j < len) : j / 496 < kS len := by unfold kS; omega
/-- What stands below a place stays where nothing below it is written. -/
theorem rec_same {b b' : Nat → UInt8} {n nx num M : Nat} (h : ∀ k, k < M * 512 → b' k = b k) (hM : nx + kS (lenIn (secL b nx)) ≤ M) : lenIn (secL b' nx) = lenIn (secL b nx) ∧ recB b' nx (lenIn (secL b nx)) = recB b nx (lenIn (secL b nx)) ∧ (RecOk b n nx num → RecOk b' n nx num) := by
  have hk := kS_pos (lenIn (secL b nx))
  have hs : ∀ i, i < kS (lenIn (secL b nx)) → secL b' (nx + i) = secL b (nx + i) := fun i hi => secL_same fun j hj => h _ (by
    have : (nx + i + 1) * 512 ≤ M * 512 := Nat.mul_le_mul_right _ (by omega)
    omega)
  have h0 : secL b' nx = secL b nx := hs 0 (by omega)
  refine ⟨by rw [h0], ?_, fun hr => ⟨hr.1, by rw [h0]; exact hr.2.1, fun p hp => ?_⟩⟩
  · unfold recB
    refine List.map_congr_left fun j hj => ?_
    have hj' := List.mem_range.1 hj
    have h1 := kS_place hj'
    have : (nx + j / 496 + 1) * 512 ≤ M * 512 := Nat.mul_le_mul_right _ (by omega)
    exact h _ (by omega)
  · rw [h0] at hp ⊢
    have := hr.2.2 p hp
    exact ⟨this.1, by rw [hs p hp]; exact this.2⟩
theorem upto_same {b b' : Nat → UInt8} {n : Nat} (k : Nat) : Upto b n k → (∀ j, j < (itR b k).2 * 512 → b' j = b j) → Upto b' n k ∧ itR b' k = itR b k := by
  induction k with
  | zero => exact fun _ _ => ⟨fun j hj => absurd hj (Nat.not_lt_zero _), rfl⟩
  | succ k ih =>
    intro h hs
    have hk := kS_pos (lenIn (secL b (itR b k).2))
    have hnx : (itR b (k + 1)).2 = (itR b k).2 + kS (lenIn (secL b (itR b k).2)) := rfl
    rw [hnx] at hs
    obtain ⟨h1, h2⟩ := ih (fun j hj => h j (by omega)) (fun j hj => hs j (by rw [Nat.add_mul]; omega))
    obtain ⟨e1, e2, e3⟩ := rec_same (n := n) (num := k + 1) hs (Nat.le_refl _)
    refine ⟨fun j hj => ?_, ?_⟩
    · by_cases hjk : j < k
      · exact h1 j hjk
      · obtain rfl : j = k := by omega
        rw [h2]
        exact e3 (h j (by omega))
    · rw [itR_next, itR_next, h2, e1, e2]
/-- A record that has been written stands. -/
theorem sec_of {b : Nat → UInt8} {i : Nat} {s : List UInt8} (hs : s.length = 512) (h : ∀ j, j < 512 → b (i * 512 + j) = s.getD j 0) : secL b i = s := by
  apply List.ext_getElem?
  intro j
  by_cases hj : j < 512
  · rw [secL_get _ _ _ hj, h j hj, List.getD_eq_getElem?_getD, List.getElem?_eq_getElem (by omega)]; rfl
  · rw [List.getElem?_eq_none (by rw [secL_len]; omega), List.getElem?_eq_none (by omega)]
theorem byt_nat (k : Nat) : (byt k).toNat = k % 256 := by unfold byt; simp
theorem lenIn_secJ (num p len : Nat) (pc : List UInt8) (h : len ≤ 8192) : lenIn (secJ (markL num p len) pc) = len := by
  have e5 := secJ_get (markL num p len) pc 5 (by omega)
  have e6 := secJ_get (markL num p len) pc 6 (by omega)
  rw [if_neg (by omega), if_pos (by omega)] at e5 e6
  unfold lenIn
  rw [e5, e6]
  show (byt len).toNat + 256 * (byt (len / 256)).toNat = len
  rw [byt_nat, byt_nat]
  omega
theorem bears_secJ (m pc : List UInt8) (h : m.length = 8) : bearsB (secJ m pc) m = true := by
  unfold bearsB
  simp only [Bool.and_eq_true, beq_iff_eq]
  constructor
  · apply List.ext_getElem?
    intro j
    rw [List.getElem?_take]
    by_cases hj : j < 8
    · rw [if_pos hj]
      have := secJ_get m pc j (by omega)
      rw [if_neg (by omega), if_pos hj] at this
      rw [List.getD_eq_getElem?_getD, List.getD_eq_getElem?_getD] at this
      rw [List.getElem?_eq_getElem (by rw [secJ_len]; omega), List.getElem?_eq_getElem (by omega)] at this ⊢
      exact congrArg some this
    · rw [if_neg hj, List.getElem?_eq_none (by omega)]
  · apply List.ext_getElem?
    intro j
    rw [List.getElem?_drop]
    by_cases hj : j < 8
    · have := secJ_get m pc (504 + j) (by omega)
      rw [if_pos (by omega), show 504 + j - 504 = j by omega] at this
      rw [List.getD_eq_getElem?_getD, List.getD_eq_getElem?_getD] at this
      rw [List.getElem?_eq_getElem (by rw [secJ_len]; omega), List.getElem?_eq_getElem (by omega)] at this ⊢
      exact congrArg some this
    · rw [List.getElem?_eq_none (by rw [secJ_len]; omega), List.getElem?_eq_none (by omega)]
/-- The sectors of a record, as they have been written. -/
def Wrote (b : Nat → UInt8) (num nx m : Nat) (bs : List UInt8) : Prop := ∀ i, i < m → ∀ j, j < 512 → b ((nx + i) * 512 + j) = (secJ (markL num i bs.length) (pieceL bs i)).getD j 0
theorem Wrote.ok {b : Nat → UInt8} {num nx n : Nat} {bs : List UInt8} (h : Wrote b num nx (kS bs.length) bs) (hl : bs.length ≤ 8192) (hn : nx + kS bs.length ≤ n) : RecOk b n nx num ∧ lenIn (secL b nx) = bs.length ∧ recB b nx bs.length = bs := by
  have hk := kS_pos bs.length
  have hs : ∀ i, i < kS bs.length → secL b (nx + i) = secJ (markL num i bs.length) (pieceL bs i) := fun i hi => sec_of (secJ_len _ _) (h i hi)
  have h0 : lenIn (secL b nx) = bs.length := by
    have := hs 0 (by omega)
    rw [Nat.add_zero] at this
    rw [this]; exact lenIn_secJ _ _ _ _ hl
  refine ⟨⟨by omega, by rw [h0]; exact hl, ?_⟩, h0, ?_⟩
  · rw [h0]
    intro p hp
    exact ⟨by omega, by rw [hs p hp]; exact bears_secJ _ _ (markL_len _ _ _)⟩
  · apply List.ext_getElem?
    intro j
    by_cases hj : j < bs.length
    · have h1 := kS_place hj
      have h2 : (recB b nx bs.length)[j]? = some (b ((nx + j / 496) * 512 + 8 + j % 496)) := by
        rw [recB, List.getElem?_map, List.getElem?_range hj]; rfl
      rw [h2, Nat.add_assoc, h (j / 496) h1 (8 + j % 496) (by omega), secJ_get _ _ _ (by omega), if_neg (by omega), if_neg (by omega)]
      rw [show 8 + j % 496 - 8 = j % 496 by omega, List.getD_eq_getElem?_getD]
      unfold pieceL
      rw [List.getElem?_take, if_pos (by omega), List.getElem?_drop, show j / 496 * 496 + j % 496 = j by omega, List.getElem?_eq_getElem hj]
      rfl
    · rw [List.getElem?_eq_none (by rw [recB_len]; omega), List.getElem?_eq_none (by omega)]
/-- What a disk has on which journals alone have written. -/
structure Inv (b : Nat → UInt8) (n : Nat) (must : List (List UInt8)) : Prop where
  up : Upto b n must.length
  it : (itR b must.length).1 = must
  cl : Clean b n (itR b must.length).2
theorem Inv.full {b : Nat → UInt8} {n : Nat} {must : List (List UInt8)} (h : Inv b n must) : Full b n must.length := ⟨h.up, h.cl.not⟩
def Inv.nx (b : Nat → UInt8) (must : List (List UInt8)) : Nat := (itR b must.length).2
theorem inv_zero (n : Nat) : Inv (fun _ => 0) n [] := ⟨fun j hj => absurd hj (Nat.not_lt_zero _), rfl, fun i _ _ => by show (0 : UInt8) ≠ 2; decide⟩
/-- A record more. -/
theorem Inv.more {b b' : Nat → UInt8} {n : Nat} {must : List (List UInt8)} {bs : List UInt8} (h : Inv b n must) (hl : bs.length ≤ 8192) (hn : (itR b must.length).2 + kS bs.length ≤ n)
    (hw : Wrote b' (must.length + 1) (itR b must.length).2 (kS bs.length) bs) (hlo : ∀ k, k < (itR b must.length).2 * 512 → b' k = b k) (hhi : ∀ k, ((itR b must.length).2 + kS bs.length) * 512 ≤ k → b' k = b k) :
    Inv b' n (must ++ [bs]) ∧ (itR b' (must ++ [bs]).length).2 = (itR b must.length).2 + kS bs.length := by
  obtain ⟨h1, h2⟩ := upto_same _ h.up hlo
  obtain ⟨e1, e2, e3⟩ := hw.ok hl hn
  have hlen : (must ++ [bs]).length = must.length + 1 := by simp
  have hit : itR b' (must.length + 1) = (must ++ [bs], (itR b must.length).2 + kS bs.length) := by
    rw [itR_next, h2, e2, e3, h.it]
  refine ⟨⟨fun j hj => ?_, by rw [hlen, hit], ?_⟩, by rw [hlen, hit]⟩
  · rw [hlen] at hj
    by_cases hj2 : j < must.length
    · exact h1 j hj2
    · obtain rfl : j = must.length := by omega
      rw [h2]; exact e1
  · rw [hlen, hit]
    intro i h3 h4
    have h5 : (itR b must.length).2 + kS bs.length ≤ i := h3
    rw [hhi _ (by have := Nat.mul_le_mul_right 512 h5; omega)]
    exact h.cl i (by omega) h4
/-- Nothing more: no sector says that a record ends in it. -/
theorem Inv.same {b b' : Nat → UInt8} {n : Nat} {must : List (List UInt8)} (h : Inv b n must) (hlo : ∀ k, k < (itR b must.length).2 * 512 → b' k = b k) (hhi : ∀ i, (itR b must.length).2 ≤ i → i < n → b' (i * 512 + 511) ≠ 2) :
    Inv b' n must ∧ (itR b' must.length).2 = (itR b must.length).2 := by
  obtain ⟨h1, h2⟩ := upto_same _ h.up hlo
  exact ⟨⟨h1, by rw [h2]; exact h.it, by rw [h2]; exact hhi⟩, by rw [h2]⟩
/-- What the writes of a record leave. -/
theorem wroteX_b (x : DV) (num next : Nat) (bs : List UInt8) : ∀ m k, (wroteX x num next bs m).b k = if next * 512 ≤ k ∧ k < (next + m) * 512 then (secJ (markL num ((k - next * 512) / 512) bs.length) (pieceL bs ((k - next * 512) / 512))).getD ((k - next * 512) % 512) 0 else x.b k
  | 0, k => by rw [if_neg (by omega)]; rfl
  | m + 1, k => by
    have ih := wroteX_b x num next bs m k
    have hd : ∀ z : DV, z.dec.b = z.b := fun z => by unfold DV.dec; split <;> rfl
    have e : (wroteX x num next bs (m + 1)).b k = if (next + m) * 512 ≤ k ∧ k < (next + m) * 512 + 512 then (secJ (markL num m bs.length) (pieceL bs m)).getD (k - (next + m) * 512) 0 else (wroteX x num next bs m).b k := by
      show (if (next + m) * 512 ≤ k ∧ k < (next + m) * 512 + 512 then _ else ((wroteX x num next bs m).noted (next + m)).dec.b k) = _
      rw [hd]
      rfl
    rw [e]
    by_cases hk : (next + m) * 512 ≤ k ∧ k < (next + m) * 512 + 512
    · have h1 : (k - next * 512) / 512 = m := by omega
      have h2 : (k - next * 512) % 512 = k - (next + m) * 512 := by omega
      rw [if_pos hk, if_pos (by omega), h1, h2]
    · rw [if_neg hk, ih]
      by_cases h3 : next * 512 ≤ k ∧ k < (next + m) * 512
      · rw [if_pos h3, if_pos (by omega)]
      · rw [if_neg h3, if_neg (by omega)]
theorem wroteX_wrote (x : DV) (num next : Nat) (bs : List UInt8) (m : Nat) : Wrote (wroteX x num next bs m).b num next m bs := fun i hi j hj => by
  rw [wroteX_b, if_pos (by omega)]
  have h1 : ((next + i) * 512 + j - next * 512) / 512 = i := by omega
  have h2 : ((next + i) * 512 + j - next * 512) % 512 = j := by omega
  rw [h1, h2]
theorem tornX_b (x : DV) (num next : Nat) (bs : List UInt8) (m k : Nat) : (tornX x num next bs m).b k = if (next + m) * 512 ≤ k ∧ k < (next + m) * 512 + x.torn then (secJ (markL num m bs.length) (pieceL bs m)).getD (k - (next + m) * 512) 0 else (wroteX x num next bs m).b k := rfl
theorem secJ_last (num p len : Nat) (pc : List UInt8) : (secJ (markL num p len) pc).getD 511 0 = if p + 1 = kS len then 2 else 1 := by
  rw [secJ_get _ _ _ (by omega), if_pos (by omega)]
  rfl
/-- A record that was written whole. -/
theorem Inv.wrote {x : DV} {must : List (List UInt8)} {bs : List UInt8} (h : Inv x.b x.n must) (hl : bs.length ≤ 8192) (hn : (itR x.b must.length).2 + kS bs.length ≤ x.n) :
    Inv (wroteX x (must.length + 1) (itR x.b must.length).2 bs (kS bs.length)).b x.n (must ++ [bs]) ∧ (itR (wroteX x (must.length + 1) (itR x.b must.length).2 bs (kS bs.length)).b (must ++ [bs]).length).2 = (itR x.b must.length).2 + kS bs.length :=
  h.more hl hn (wroteX_wrote _ _ _ _ _) (fun k hk => by rw [wroteX_b, if_neg (by omega)]) (fun k hk => by rw [wroteX_b, if_neg (by omega)])
/-- The power has failed in the midst of one: it is there as a whole, or not at all. -/
theorem Inv.torn {x : DV} {must : List (List UInt8)} {bs : List UInt8} (h : Inv x.b x.n must) (hl : bs.length ≤ 8192) (hn : (itR x.b must.length).2 + kS bs.length ≤ x.n) (ht : x.torn ≤ 512) {m : Nat} (hm : m < kS bs.length) :
    Inv (tornX x (must.length + 1) (itR x.b must.length).2 bs m).b x.n must ∨ Inv (tornX x (must.length + 1) (itR x.b must.length).2 bs m).b x.n (must ++ [bs]) := by
  obtain ⟨nx, hnx⟩ : ∃ nx, nx = (itR x.b must.length).2 := ⟨_, rfl⟩
  by_cases hw : m + 1 = kS bs.length ∧ x.torn = 512
  · refine Or.inr (h.more hl hn (fun i hi j hj => ?_) (fun k hk => ?_) (fun k hk => ?_)).1
    · rw [← hnx, tornX_b]
      by_cases him : i = m
      · subst him
        rw [if_pos (by omega), show (nx + i) * 512 + j - (nx + i) * 512 = j by omega]
      · rw [if_neg (by omega)]
        exact wroteX_wrote x _ nx bs m i (by omega) j hj
    · rw [← hnx] at hk ⊢
      rw [tornX_b, if_neg (by omega), wroteX_b, if_neg (by omega)]
    · rw [← hnx] at hk ⊢
      rw [tornX_b, if_neg (by omega), wroteX_b, if_neg (by omega)]
  · refine Or.inl (h.same (fun k hk => ?_) (fun i h1 h2 => ?_)).1
    · rw [← hnx] at hk ⊢
      rw [tornX_b, if_neg (by omega), wroteX_b, if_neg (by omega)]
    · have hcl := h.cl i h1 h2
      rw [← hnx] at h1 ⊢
      rw [tornX_b]
      by_cases him : i = nx + m
      · subst him
        by_cases ht5 : x.torn = 512
        · rw [if_pos (by omega), show (nx + m) * 512 + 511 - (nx + m) * 512 = 511 by omega, secJ_last, if_neg (by omega)]
          decide
        · rw [if_neg (by omega), wroteX_b, if_neg (by omega)]
          exact hcl
      · rw [if_neg (by omega), wroteX_b]
        by_cases hin : nx * 512 ≤ i * 512 + 511 ∧ i * 512 + 511 < (nx + m) * 512
        · have e1 : (i * 512 + 511 - nx * 512) / 512 = i - nx := by omega
          have e2 : (i * 512 + 511 - nx * 512) % 512 = 511 := by omega
          rw [if_pos hin, e1, e2, secJ_last, if_neg (by omega)]
          decide
        · rw [if_neg hin]
          exact hcl
end Go.Proofs.Ytjpdcahodmomgaa
