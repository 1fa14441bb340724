import Derived.Test.YtlajcaofpmjdlaaLasts
import Derived.Test.YtlajcaofpmjdlaaIx
namespace Go.Proofs.Ytlajcaofpmjdlaa
open Go.RowKit Go.PlainAid
set_option linter.unusedVariables false
set_option linter.unusedSimpArgs false
/-- Bytes copied into a row that is one's own. -/
def spl (zs : List UInt8) (o m : Nat) (bs : List UInt8) : List UInt8 := (List.range zs.length).map fun i => if o ≤ i ∧ i < o + m then bs.getD (i - o) 0 else zs.getD i 0
theorem spl_len (zs : List UInt8) (o m : Nat) (bs : List UInt8) : (spl zs o m bs).length = zs.length := by rw [spl, List.length_map, List.length_range]
theorem spl_get (zs : List UInt8) (o m : Nat) (bs : List UInt8) (i : Nat) (h : i < zs.length) : (spl zs o m bs)[i]? = some (if o ≤ i ∧ i < o + m then bs.getD (i - o) 0 else zs.getD i 0) := by rw [spl, List.getElem?_map, List.getElem?_range h]; rfl
theorem own_copy {w : World} {L g n c o dLen dCap : Nat} {zs bs : List UInt8} {v : Value} (h : w.ownsRow L 5 1 (.slice (some ⟨g, 0, none⟩) n c) n (zs.map B)) (hby : By w v bs) (hk : o + min bs.length dLen ≤ n) :
    ∃ w', (Builtin.copy_ #[30, 30] 3 #[.slice (some ⟨g, o, none⟩) dLen dCap, v]).run Try.prog w = .ok (.int .i64 ((min bs.length dLen : Nat) : Int)) w' ∧ w'.ownsRow L 5 1 (.slice (some ⟨g, 0, none⟩) n c) n ((spl zs o (min bs.length dLen) bs).map B) ∧ Chg (fun k => k = g) w w' := by
  have hzl : zs.length = n := by have := h.1; simpa using this
  rcases id h.2 with ⟨e, _⟩ | ⟨g2, c2, cur, e, h2, h3, h4, h5, h6, h7⟩
  · cases e
  · cases e
    rw [Nat.mul_one] at h6 h7
    obtain ⟨w', hr, ⟨cur', hb', hs', ha'⟩, hc⟩ := copy_by (o := o) (dLen := dLen) (dCap := dCap) (show Blk w g cur 5 from h3) hby (by omega)
    refine ⟨w', hr, ⟨by rw [List.length_map, spl_len]; omega, Or.inr ⟨g, c, cur', rfl, h2, hb', h4, h5, by omega, ?_⟩⟩, hc⟩
    rw [Nat.mul_one]
    apply List.ext_getElem?
    intro j
    rw [List.getElem?_take, List.getElem?_map]
    by_cases hj : j < n
    · rw [if_pos hj, Array.getElem?_toList, ha' j, spl_get _ _ _ _ _ (by omega)]
      simp only [Option.map_some]
      split
      · rfl
      · have h8 : (zs.map B)[j]? = cur[j]? := by rw [← h7, List.getElem?_take, if_pos hj, Array.getElem?_toList]
        rw [← h8, List.getElem?_map, List.getD_eq_getElem?_getD, List.getElem?_eq_getElem (by omega)]
        rfl
    · rw [if_neg hj, List.getElem?_eq_none (by rw [spl_len]; omega)]
      rfl
theorem slice30c (g len cap m : Nat) (h1 : m ≤ len) (hc : len ≤ cap) (w : World) : ∃ o, (Instr.sliceAt 30 (.slice (some ⟨g, 0, none⟩) len cap) (some (.int .i64 (m : Int))) none none).run Try.prog w = .ok (.slice (some ⟨g, o, none⟩) (len - m) (cap - m)) w ∧ o ≤ m ∧ (m < len → o = m) := by
  by_cases h : cap = m
  · have hs : (sizeOf 5).run Try.prog w = .ok 1 w := by kernel_rfl
    have he : Try.prog.elem 30 = 5 := by kernel_rfl
    have hu2 : Try.prog.underlying 30 = some (.slice (Try.prog.elem 30)) := by rw [he]; exact Try.underlying30
    refine ⟨0, ?_, Nat.zero_le _, fun h' => by omega⟩
    rw [run_sliceAt_slice _ _ _ _ _ _ hu2, run_slice_l _ _ _ _ _ hu2 .i64 (m : Int) (by omega) (by omega), he, hs]
    simp [Result.andThen, sliced, h]
  · exact ⟨m, slice30 g len cap m h1 (by omega) (m : Int) rfl w, Nat.le_refl _, fun _ => rfl⟩
theorem By.dropc {w : World} {g k c m o : Nat} {bs : List UInt8} (h : By w (.slice (some ⟨g, 0, none⟩) k c) bs) (hm : m ≤ k) (ho : m < k → o = m) : By w (.slice (some ⟨g, o, none⟩) (k - m) (c - m)) (bs.drop m) := by
  by_cases hk : m < k
  · rw [ho hk]
    have := h.drop m
    rwa [Nat.zero_add] at this
  · obtain ⟨ao, k', c', e, h1, h2, h3⟩ := h
    cases e
    refine ⟨_, _, _, rfl, by rw [List.length_drop, h1], (fun e => by cases e), fun ad e j u hu => ?_⟩
    rw [List.drop_eq_nil_of_le (by omega)] at hu
    simp at hu
set_option maxRecDepth 100000 in
/-- What is wanted of a torn sector is what is there. -/
theorem torn_sec (x : DV) (s j o m : Nat) (f : UInt8) (bs : List UInt8) (hb : bs = secL x.b s) (hj : j ≤ 512) (ho : j < 512 → o = j) (hm : m = 512 - j) : spl (fullL f) o m (bs.drop j) = secL (x.put s j (fullL f)).b s := by
  subst hb hm
  apply List.ext_getElem?
  intro i
  by_cases hi : i < 512
  · rw [spl_get _ _ _ _ _ (by rw [fullL_len]; exact hi), secL_get _ _ _ hi]
    congr 1
    unfold DV.put
    simp only
    by_cases h1 : i < j
    · rw [if_neg (fun hh => by
        rcases Nat.lt_or_ge j 512 with h2 | h2
        · have := ho h2
          omega
        · omega), if_pos (by omega), fullL_get f i hi, fullL_get f _ (by omega)]
    · have hoj := ho (by omega)
      rw [if_pos (by omega), if_neg (by omega), List.getD_eq_getElem?_getD, List.getElem?_drop, hoj, show j + (i - j) = i by omega, secL_get _ _ _ hi]
      rfl
  · rw [List.getElem?_eq_none (by rw [spl_len, fullL_len]; omega), List.getElem?_eq_none (by rw [secL_len]; omega)]
/-- The disk and what is wanted of it, after q puts; the power goes off within the put k. -/
structure TI (L p s n : Nat) (wv : Value) (k j zk q : Nat) (wr : World) : Prop where
  ex : ∃ x ds, DM L p s x wr ∧ WT L wv ds wr ∧ ds.length = n ∧ x.n = n ∧ (∀ (i : Nat) (d : Value × List UInt8), ds[i]? = some d → d.2 = secL x.b i) ∧ ((q ≤ k ∧ x.off = false ∧ x.armed = true ∧ x.whole = k - q ∧ x.torn = j ∧ x.writes = q) ∨ (k < q ∧ x.off = true ∧ x.armed = false ∧ x.whole = 0 ∧ x.writes = k + 1 ∧ x.tr (k % 64) = zk))
end Go.Proofs.Ytlajcaofpmjdlaa
