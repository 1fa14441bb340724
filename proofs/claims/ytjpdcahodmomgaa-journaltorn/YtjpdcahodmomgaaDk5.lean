import Derived.Test.YtjpdcahodmomgaaDk4
namespace Go.Proofs.Ytjpdcahodmomgaa
open Go.RowKit Go.PlainAid
set_option linter.unusedVariables false
set_option linter.unusedSimpArgs false
theorem slice30o (g o len cap m : Nat) (h1 : m ≤ len) (h2 : m < cap) (z : Int) (hz : z = (m : Int)) (w : World) : (Instr.sliceAt 38 (.slice (some ⟨g, o, none⟩) len cap) (some (.int .i64 z)) none none).run Try.prog w = .ok (.slice (some ⟨g, o + m, none⟩) (len - m) (cap - m)) w := by
  subst hz
  have hs : (sizeOf 5).run Try.prog w = .ok 1 w := by kernel_rfl
  have he : Try.prog.elem 38 = 5 := by kernel_rfl
  have hu2 : Try.prog.underlying 38 = some (.slice (Try.prog.elem 38)) := by rw [he]; exact Try.underlying38
  have h3 : ¬ cap = m := by omega
  rw [run_sliceAt_slice _ _ _ _ _ _ hu2, run_slice_l _ _ _ _ _ hu2 .i64 (m : Int) (by omega) (by omega), he, hs]
  simp [Result.andThen, sliced, h3, addr_add]
theorem By.drop {w : World} {g o k c : Nat} {bs : List UInt8} (h : By w (.slice (some ⟨g, o, none⟩) k c) bs) (m : Nat) : By w (.slice (some ⟨g, o + m, none⟩) (k - m) (c - m)) (bs.drop m) := by
  obtain ⟨ao, k', c', e, h1, h2, h3⟩ := h
  cases e
  refine ⟨_, _, _, rfl, by rw [List.length_drop, h1], (fun e => by cases e), fun ad e j u hu => ?_⟩
  cases e
  have := h3 _ rfl (m + j) u (by rw [List.map_drop, List.getElem?_drop] at hu; exact hu)
  rw [addr_add] at this ⊢
  rw [← this]
  congr 2
  omega
def fromX (n : Nat) (bs : List UInt8) : DV := { fresh n with b := fun k => if k < n * 512 then bs.getD k 0 else 0 }
def fromI (n : Nat) (bs : List UInt8) (i : Nat) : DV := { fresh n with b := fun k => if k < i * 512 then bs.getD k 0 else 0 }
set_option maxRecDepth 100000 in
theorem fromI_next (n i : Nat) (bs : List UInt8) : (fromI n bs i).put i 512 (bs.drop (i * 512)) = fromI n bs (i + 1) := by
  unfold fromI DV.put
  congr 1
  funext k
  simp only
  by_cases h1 : k < i * 512
  · rw [if_neg (by omega), if_pos h1, if_pos (by omega)]
  · by_cases h2 : k < (i + 1) * 512
    · rw [if_pos (by omega), if_pos h2, List.getD_eq_getElem?_getD, List.getElem?_drop, List.getD_eq_getElem?_getD, show i * 512 + (k - i * 512) = k by omega]
    · rw [if_neg (by omega), if_neg h1, if_neg h2]
set_option maxRecDepth 100000 in
theorem from_odd {ao : Option Addr} {k c : Nat} (w : World) (h : k % 512 ≠ 0) : Calls Try.prog 44 #[.slice ao k c] w fun e w' => e = .returned (.tuple #[.pointer none, .int .i64 1]) ∧ w' = w := by
  have ht : ((k : Int)).tmod 512 = ((k % 512 : Nat) : Int) := by rw [Int.tmod_eq_emod_of_nonneg (by omega)]; omega
  have h1 : (((k : Int)).tmod 512 != 0) = true := by rw [ht]; simp; omega
  have h2 : ¬ (((k : Int)).tmod 512 = 0) := by rw [ht]; omega
  have h3 : (((k : Int)).tmod 512 == 0) = false := by rw [ht]; simp; omega
  have h4 : ¬ ((k : Int) % 512 = 0) := by omega
  clear ht
  go_enter Try.func44, Try.ntmps44
  go_wp2_with fail
  go_ret2
  exact ⟨rfl, rfl⟩
set_option maxRecDepth 100000 in
set_option maxHeartbeats 800000 in
theorem from_no {ao : Option Addr} {n c : Nat} (w : World) (hn : n < 1 ∨ 65536 < n) (hnb : n ≤ 18014398509481983) : Calls Try.prog 44 #[.slice ao (n * 512) c] w fun e w' => e = .returned (.tuple #[.pointer none, .int .i64 1]) ∧ w' = w := by
  have HN : Hid _ := new_no (n : Int) w (by omega)
  obtain ⟨k, hk⟩ : ∃ k, k = n * 512 := ⟨_, rfl⟩
  have ht : ((k : Int)).tmod 512 = 0 := by rw [Int.tmod_eq_emod_of_nonneg (by omega)]; omega
  have hd : ((k : Int)).tdiv 512 = (n : Int) := by rw [Int.tdiv_eq_ediv_of_nonneg (by omega)]; omega
  rw [← hk]
  have ht2 : (k : Int) % 512 = 0 := by omega
  have hd2 : (k : Int) / 512 = (n : Int) := by omega
  clear hk
  go_enter Try.func44, Try.ntmps44
  go_wp2_with fail
  refine Calls.mono HN.out ?_
  rintro e w1 ⟨rfl, hw1⟩
  replace hw1 := hw1.symm
  subst hw1
  clear HN
  go_wp2_with fail
  go_ret2
  exact ⟨rfl, rfl⟩
set_option maxRecDepth 100000 in
set_option maxHeartbeats 1600000 in
theorem from_yes {g o n c : Nat} {bs : List UInt8} (w : World) (hn : 1 ≤ n ∧ n ≤ 65536) (hb : By w (.slice (some ⟨g, o, none⟩) (n * 512) c) bs) (hc : n * 512 ≤ c) :
    Calls Try.prog 44 #[.slice (some ⟨g, o, none⟩) (n * 512) c] w fun e w' => e = .returned (.tuple #[.pointer (some ⟨w.heap.size + 1, 0, none⟩), .int .i64 0]) ∧ DM w.heap.size (w.heap.size + 1) w.heap.size (fromX n bs) w' ∧ Below w.heap.size w w' := by
  have HN : Hid _ := new_yes n w hn
  obtain ⟨k, hk⟩ : ∃ k, k = n * 512 := ⟨_, rfl⟩
  have ht : ((k : Int)).tmod 512 = 0 := by rw [Int.tmod_eq_emod_of_nonneg (by omega)]; omega
  have hd : ((k : Int)).tdiv 512 = (n : Int) := by rw [Int.tdiv_eq_ediv_of_nonneg (by omega)]; omega
  rw [← hk] at hb hc ⊢
  have ht2 : (k : Int) % 512 = 0 := by omega
  have hd2 : (k : Int) / 512 = (n : Int) := by omega
  have HK : Hid (k = n * 512) := hk
  have HB : Hid (By w (.slice (some ⟨g, o, none⟩) k c) bs) := hb
  have hlen : bs.length = k := by
    obtain ⟨ao, k', c', e, h1, _⟩ := hb
    cases e
    exact h1
  have HLEN : Hid _ := hlen
  obtain ⟨hn1, hn2⟩ := hn
  clear hk hb hlen
  go_enter Try.func44, Try.ntmps44
  go_wp2_with fail
  refine Calls.mono HN.out ?_
  rintro e w1 ⟨rfl, h1, hb1⟩
  have h1 : DM w.heap.size (w.heap.size + 1) w.heap.size (fromI n bs 0) w1 := by
    have e : fromI n bs 0 = fresh n := by unfold fromI fresh; simp
    rw [e]; exact h1
  have k0 : w1.cell? ⟨w.heap.size + 1, 0, none⟩ = some (.slice (some ⟨w.heap.size, 0, none⟩) n n) := h1.k0
  have HD : Hid _ := h1
  have HB1 : Hid _ := hb1
  clear HN h1 hb1
  go_wp2_with fail
  clear k0
  go_loopw [26] (fun s26 wr => ∃ i : Nat, i ≤ n ∧ s26 = .int .i64 (i : Int) ∧ DM w.heap.size (w.heap.size + 1) w.heap.size (fromI n bs i) wr ∧ Below w.heap.size w wr) (fun s26 _ => n - (intOf s26).toNat)
  case atStart => exact ⟨0, by omega, rfl, HD.out, HB1.out⟩
  case round =>
    clear HD HB1
    obtain ⟨i, hi, rfl, hm, hb⟩ := hrel
    by_cases hlt : i < n
    · have hd : DM w.heap.size (w.heap.size + 1) w.heap.size (fromI n bs i) wr.drew := hm.drew 1
      have hbd : Below w.heap.size w wr.drew := hb.drew
      have hby := (HB.out.keep hbd).drop (i * 512)
      obtain ⟨R, hRb, hRs⟩ := hd.sec
      have hkk := HK.out
      have hll := HLEN.out
      obtain ⟨w2, hcp, hcc, hch⟩ := copy_by (o := i * 512) (dLen := 512) (dCap := 512) hRb hby (by rw [hRs.size, List.length_drop]; show _ ≤ 512 * n; omega)
      have hmn : min (bs.drop (i * 512)).length 512 = 512 := by rw [List.length_drop]; omega
      rw [hmn] at hcp hcc
      have h2 := hd.copied (bs := bs.drop (i * 512)) (Nat.le_refl _) hlt hRb hRs hcc hch
      rw [fromI_next] at h2
      have HN2 : Hid (DM w.heap.size (w.heap.size + 1) w.heap.size (fromI n bs (i + 1)) w2 ∧ Below w.heap.size w w2) := ⟨h2, hbd.trans (hch.below hbd.size (fun k e => by omega))⟩
      have hsl := slice30o g o k c (i * 512) (by omega) (by omega) ((i : Int) * 512) (by omega) wr.drew
      have k0r : wr.cell? ⟨w.heap.size + 1, 0, none⟩ = some (.slice (some ⟨w.heap.size, 0, none⟩) n n) := hm.k0
      have hii : (i : Int) < (n : Int) := by omega
      clear hm hb hd hbd hby hRb hRs hcc hch hmn h2 hkk hll
      go_wp2_with fail
      go_region
      go_wp2_with fail
      go_roundw
      case rel => exact ⟨i + 1, by omega, by go_num, HN2.out.1, HN2.out.2⟩
      case measure => simp [intOf]; omega
    · obtain rfl : i = n := by omega
      have HF : Hid (DM w.heap.size (w.heap.size + 1) w.heap.size (fromX i bs) wr ∧ Below w.heap.size w wr) := ⟨hm, hb⟩
      clear hm hb
      go_wp2_with fail
      go_ret2
      exact ⟨rfl, HF.out.1, HF.out.2⟩
/-- Trace. -/
def trL (x : DV) : List Int := (List.range (min x.writes 64)).map fun i => (x.tr ((x.writes - min x.writes 64 + i) % 64) : Int)
theorem trL_len (x : DV) : (trL x).length = min x.writes 64 := by rw [trL, List.length_map, List.length_range]
theorem trL_get (x : DV) (i : Nat) (h : i < min x.writes 64) : (trL x)[i]? = some (x.tr ((x.writes - min x.writes 64 + i) % 64) : Int) := by rw [trL, List.getElem?_map, List.getElem?_range h]; rfl
theorem own_blkI {w : World} {L g n : Nat} {cur : Array Value} {zs : List Int} (h : Blk w g cur 3) (hL : L ≤ g) (hn : cur.size = n) (hm : n ≤ maxLen) (hb : ∀ (j : Nat) (z : Int), zs[j]? = some z → cur[j]? = some (I z)) (hl : zs.length = n) : w.ownsRow L 3 1 (.slice (some ⟨g, 0, none⟩) n n) n (zs.map I) := by
  refine ⟨by simp [hl], Or.inr ⟨g, n, cur, rfl, hL, h, Nat.le_refl _, hm, by omega, ?_⟩⟩
  rw [Nat.mul_one, List.take_of_length_le (by simp [hn])]
  apply List.ext_getElem?
  intro j
  rw [Array.getElem?_toList, List.getElem?_map]
  by_cases hj : j < n
  · rw [hb j _ (List.getElem?_eq_getElem (by omega)), List.getElem?_eq_getElem (by omega)]
    rfl
  · rw [Array.getElem?_eq_none (by omega), List.getElem?_eq_none (by omega)]
    rfl
section
variable {L p s : Nat} {x : DV}
end
end Go.Proofs.Ytjpdcahodmomgaa
