import Derived.Test.YtjpdcahodmomgaaDk3
namespace Go.Proofs.Ytjpdcahodmomgaa
open Go.RowKit Go.PlainAid
set_option linter.unusedVariables false
set_option linter.unusedSimpArgs false
/-- All bytes. -/
def imgL (x : DV) : List UInt8 := (List.range (512 * x.n)).map x.b
theorem imgL_len (x : DV) : (imgL x).length = 512 * x.n := by rw [imgL, List.length_map, List.length_range]
theorem imgL_get (x : DV) (j : Nat) (h : j < 512 * x.n) : (imgL x)[j]? = some (x.b j) := by rw [imgL, List.getElem?_map, List.getElem?_range h]; rfl
theorem imgL_getD (x : DV) (j : Nat) (h : j < 512 * x.n) : (imgL x).getD j 0 = x.b j := by rw [List.getD_eq_getElem?_getD, imgL_get x j h]; rfl
theorem secL_getD (b : Nat → UInt8) (i j : Nat) (h : j < 512) : (secL b i).getD j 0 = b (i * 512 + j) := by rw [List.getD_eq_getElem?_getD, secL_get b i j h]; rfl
theorem slice30 (g len cap m : Nat) (h1 : m ≤ len) (h2 : m < cap) (z : Int) (hz : z = (m : Int)) (w : World) : (Instr.sliceAt 38 (.slice (some ⟨g, 0, none⟩) len cap) (some (.int .i64 z)) none none).run Try.prog w = .ok (.slice (some ⟨g, m, none⟩) (len - m) (cap - m)) w := by
  subst hz
  have hs : (sizeOf 5).run Try.prog w = .ok 1 w := by kernel_rfl
  have he : Try.prog.elem 38 = 5 := by kernel_rfl
  have hu2 : Try.prog.underlying 38 = some (.slice (Try.prog.elem 38)) := by rw [he]; exact Try.underlying38
  have h3 : ¬ cap = m := by omega
  rw [run_sliceAt_slice _ _ _ _ _ _ hu2, run_slice_l _ _ _ _ _ hu2 .i64 (m : Int) (by omega) (by omega), he, hs]
  simp [Result.andThen, sliced, h3, addr_add]
section
variable {L p s : Nat} {x : DV}
set_option maxRecDepth 100000 in
set_option maxHeartbeats 1600000 in
theorem image_any (w : World) (h : DM L p s x w) : Calls Try.prog 28 #[.pointer (some ⟨p, 0, none⟩)] w fun e w' => ∃ v', e = .returned v' ∧ w'.ownsRow w.heap.size 5 1 v' (512 * x.n) ((imgL x).map B) ∧ Below w.heap.size w w' := by
  obtain ⟨hn1, hn2⟩ := h.nb
  obtain ⟨R, hmk, hRs, hRa⟩ := mk_bytes (512 * x.n) (by omega) w
  have k0 := h.k0
  have hmk' : (Instr.makeSlice 38 (.int .i64 ((x.n : Int) * 512)) (.int .i64 ((x.n : Int) * 512))).run Try.prog w = .ok (.slice (some ⟨w.heap.size, 0, none⟩) (512 * x.n) (512 * x.n)) (w.alloc (.cells R 5)) := by
    rw [show (x.n : Int) * 512 = ((512 * x.n : Nat) : Int) by omega]; exact hmk
  have hal : Below w.heap.size w (w.alloc (.cells R 5)) := (Below.refl _ _).alloc (Nat.le_refl _) _
  have hBR : Blk (w.alloc (.cells R 5)) w.heap.size R 5 := heap_alloc_new w _
  have k0' := (h.more hal).k0
  have H : Hid (DM L p s x w) := h
  have HS : Hid (∃ cur, Blk (w.alloc (.cells R 5)) w.heap.size cur 5 ∧ cur.size = 512 * x.n ∧ ∀ j, j < 0 * 512 → cur[j]? = some (B (x.b j))) := ⟨R, hBR, hRs, fun j hj => by omega⟩
  have HAL : Hid _ := hal
  clear h hmk hRs hRa hal hBR
  go_enter Try.func28, Try.ntmps28
  go_wp2_with fail
  go_loopw [17] (fun s17 wr => ∃ i : Nat, i ≤ x.n ∧ s17 = .int .i64 (i : Int) ∧ (∃ cur, Blk wr w.heap.size cur 5 ∧ cur.size = 512 * x.n ∧ ∀ j, j < i * 512 → cur[j]? = some (B (x.b j))) ∧ Below w.heap.size w wr) (fun s17 _ => x.n - (intOf s17).toNat)
  case atStart => exact ⟨0, by omega, rfl, HS.out, HAL.out⟩
  case round =>
    clear HS HAL k0'
    obtain ⟨i, hi, rfl, ⟨cur, hcb, hcs, hca⟩, hb⟩ := hrel
    by_cases hlt : i < x.n
    · have hd := (H.out.more hb).drew 1
      have hcbd : Blk wr.drew w.heap.size cur 5 := hcb
      obtain ⟨w2, hcp, ⟨cur2, hcb2, hcs2, hca2⟩, hch⟩ := copy_by (o := i * 512) (dLen := 512 * x.n - i * 512) (dCap := 512 * x.n - i * 512) hcbd (hd.bySec i hlt) (by rw [secL_len]; omega)
      have hmn : min (secL x.b i).length (512 * x.n - i * 512) = 512 := by rw [secL_len]; omega
      rw [hmn] at hcp hca2
      have HN : Hid ((∃ cur, Blk w2 w.heap.size cur 5 ∧ cur.size = 512 * x.n ∧ ∀ j, j < (i + 1) * 512 → cur[j]? = some (B (x.b j))) ∧ Below w.heap.size w w2) := ⟨⟨cur2, hcb2, by omega, fun j hj => by
        rw [hca2 j]
        split
        · rename_i hjj
          rw [secL_getD _ _ _ (by omega), show i * 512 + (j - i * 512) = j by omega]
        · exact hca j (by omega)⟩, (hb.drew).trans (hch.below (by have := hb.size; exact this) (fun k e => by omega))⟩
      have hsl := slice30 w.heap.size (512 * x.n) (512 * x.n) (i * 512) (by omega) (by omega) ((i : Int) * 512) (by omega) wr.drew
      have k0r : wr.cell? ⟨p, 0, none⟩ = some (.slice (some ⟨s, 0, none⟩) x.n x.n) := (H.out.more hb).k0
      have hii : (i : Int) < (x.n : Int) := by omega
      clear hcb hcs hca hb hd hcbd hcb2 hcs2 hca2 hch hmn
      go_wp2_with fail
      go_region
      go_wp2_with fail
      go_roundw
      case rel => exact ⟨i + 1, by omega, by go_num, HN.out.1, HN.out.2⟩
      case measure => simp [intOf]; omega
    · obtain rfl : i = x.n := by omega
      have hown : wr.ownsRow w.heap.size 5 1 (.slice (some ⟨w.heap.size, 0, none⟩) (512 * x.n) (512 * x.n)) (512 * x.n) ((imgL x).map B) := own_blk hcb (Nat.le_refl _) hcs (by unfold maxLen; omega) (fun j hj => by rw [hca j (by omega), imgL_getD x j hj]) (imgL_len x)
      have HF : Hid (wr.ownsRow w.heap.size 5 1 (.slice (some ⟨w.heap.size, 0, none⟩) (512 * x.n) (512 * x.n)) (512 * x.n) ((imgL x).map B) ∧ Below w.heap.size w wr) := ⟨hown, hb⟩
      clear hcb hcs hca hb hown
      go_wp2_with fail
      go_ret
      exact ⟨_, rfl, HF.out.1, HF.out.2⟩
end
end Go.Proofs.Ytjpdcahodmomgaa
