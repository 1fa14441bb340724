import Derived.Test.YtjpdcahodmomgaaJn2
namespace Go.Proofs.Ytjpdcahodmomgaa
open Go.RowKit Go.PlainAid
set_option linter.unusedVariables false
set_option linter.unusedSimpArgs false
theorem len98 : Try.prog.arrayLen 98 = 8 := by kernel_rfl
theorem elem98 : Try.prog.elem 98 = 5 := by kernel_rfl
theorem slice98 (g : Nat) (w : World) : (Instr.sliceAt 98 (.pointer (some ⟨g, 0, none⟩)) none none none).run Try.prog w = .ok (.slice (some ⟨g, 0, none⟩) 8 8) w := by
  have hs : (sizeOf 5).run Try.prog w = .ok 1 w := by kernel_rfl
  rw [run_sliceAt_array_all w 98 _ (by rw [len98, elem98]; exact Try.underlying98), elem98, hs, len98]
  simp [Result.andThen, slicedAt, Addr.add]
/-- A sector's bytes. -/
def secJ (m pc : List UInt8) : List UInt8 := (List.range 512).map fun j => if 504 ≤ j then m.getD (j - 504) 0 else if j < 8 then m.getD j 0 else pc.getD (j - 8) 0
theorem secJ_len (m pc : List UInt8) : (secJ m pc).length = 512 := by rw [secJ, List.length_map, List.length_range]
theorem secJ_get (m pc : List UInt8) (j : Nat) (h : j < 512) : (secJ m pc).getD j 0 = if 504 ≤ j then m.getD (j - 504) 0 else if j < 8 then m.getD j 0 else pc.getD (j - 8) 0 := by
  rw [List.getD_eq_getElem?_getD, secJ, List.getElem?_map, List.getElem?_range h]; rfl
theorem blk_by {w : World} {g T : Nat} {m : List UInt8} {c : Nat} (h : Blk w g (m.map B).toArray T) : By w (.slice (some ⟨g, 0, none⟩) m.length c) m := by
  refine ⟨_, _, _, rfl, rfl, (fun e => by cases e), fun ad e j u hu => ?_⟩
  cases e
  rw [addr_add, Nat.zero_add, h.cell j]
  simpa using hu
set_option maxRecDepth 100000 in
set_option maxHeartbeats 1600000 in
theorem sector_any {m pc : List UInt8} {v : Value} (w : World) (hm : m.length = 8) (hb : By w v pc) (hp : pc.length ≤ 496) :
    Calls Try.prog 58 #[.agg (m.map B).toArray, v] w fun e w' => ∃ v', e = .returned v' ∧ w'.ownsRow w.heap.size 5 1 v' 512 ((secJ m pc).map B) ∧ Below w.heap.size w w' := by
  obtain ⟨H, hH⟩ : ∃ H, H = w.heap.size := ⟨_, rfl⟩
  have HH : Hid (H = w.heap.size) := hH
  obtain ⟨M, hM⟩ : ∃ M, M = (m.map B).toArray := ⟨_, rfl⟩
  rw [← hM]
  obtain ⟨w1, hw1⟩ : ∃ w1, w1 = w.alloc (.cells M 98) := ⟨_, rfl⟩
  have hb1 : Below H w w1 := by rw [hw1, hH]; exact (Below.refl _ _).alloc (Nat.le_refl _) _
  have hs1 : w1.heap.size = H + 1 := by rw [hw1, World.size_alloc, hH]
  have hM1 : Blk w1 H M 98 := by rw [hw1, hH]; exact heap_alloc_new w _
  obtain ⟨R, hmk, hRs, hRa⟩ := mk_bytes 512 (by omega) w1
  rw [hs1] at hmk
  obtain ⟨w2, hw2⟩ : ∃ w2, w2 = w1.alloc (.cells R 5) := ⟨_, rfl⟩
  rw [← hw2] at hmk
  have hb2 : Below (H + 1) w1 w2 := by rw [hw2, ← hs1]; exact (Below.refl _ _).alloc (Nat.le_refl _) _
  have hR2 : Blk w2 (H + 1) R 5 := by rw [hw2, ← hs1]; exact heap_alloc_new w1 _
  have hM2 : Blk w2 H M 98 := (hb2.block H (by omega)).trans hM1
  have hbw2 : Below H w w2 := hb1.trans (hb2.mono (by omega))
  have hlt : ∀ W, Below H w W → By W v pc := fun W h => hb.keep (by rw [← hH]; exact h)
  have hby1 : ∀ W, Blk W H M 98 → By W (.slice (some ⟨H, 0, none⟩) 8 8) m := fun W h => by
    rw [hM] at h
    have := blk_by (c := 8) h
    rwa [hm] at this
  obtain ⟨w3, hcp3, ⟨D3, hD3, hs3, ha3⟩, hc3⟩ := copy_by (o := 0) (dLen := 512) (dCap := 512) hR2 (hby1 _ hM2) (by rw [hm]; omega)
  have hM3 : Blk w3 H M 98 := hc3.blk hM2 (by omega)
  have hbw3 : Below H w w3 := hbw2.trans (hc3.below (by have := hM2.lt; omega) (fun k e => by omega))
  obtain ⟨w4, hcp4, ⟨D4, hD4, hs4, ha4⟩, hc4⟩ := copy_by (o := 8) (dLen := 504) (dCap := 504) hD3 (hlt _ hbw3) (by omega)
  have hM4 : Blk w4 H M 98 := hc4.blk hM3 (by omega)
  have hbw4 : Below H w w4 := hbw3.trans (hc4.below (by have := hM3.lt; omega) (fun k e => by omega))
  have hD5 : Blk w4.drew (H + 1) D4 5 := hD4
  obtain ⟨w5, hcp5, ⟨D5, hD6, hs5, ha5⟩, hc5⟩ := copy_by (o := 504) (dLen := 8) (dCap := 8) hD5 (hby1 w4.drew hM4) (by rw [hm]; omega)
  have hbw5 : Below H w w5 := (hbw4.drew).trans (hc5.below (by have := hM4.lt; show H ≤ w4.heap.size; omega) (fun k e => by omega))
  have hown : w5.ownsRow H 5 1 (.slice (some ⟨H + 1, 0, none⟩) 512 512) 512 ((secJ m pc).map B) := own_blk hD6 (by omega) (by omega) (by unfold maxLen; omega) (fun j hj => by
    rw [secJ_get _ _ _ hj, ha5 j, hm]
    by_cases h1 : 504 ≤ j
    · rw [if_pos (by omega), if_pos h1]
    · rw [if_neg (by omega), if_neg h1, ha4 j]
      by_cases h2 : 8 ≤ j ∧ j < 8 + min pc.length 504
      · rw [if_pos h2, if_neg (by omega)]
      · rw [if_neg h2, ha3 j, hm]
        by_cases h3 : j < 8
        · rw [if_pos (by omega), if_pos h3]; rfl
        · rw [if_neg (by omega), if_neg h3, hRa j hj]
          have : pc.getD (j - 8) 0 = 0 := by rw [List.getD_eq_getElem?_getD, List.getElem?_eq_none (by omega)]; rfl
          rw [this]) (secJ_len _ _)
  have HF : Hid (w5.ownsRow H 5 1 (.slice (some ⟨H + 1, 0, none⟩) 512 512) 512 ((secJ m pc).map B) ∧ Below H w w5) := ⟨hown, hbw5⟩
  rw [hm] at hcp3 hcp5
  have hn4 : min pc.length 504 = pc.length := by omega
  rw [hn4] at hcp4
  have hmk' : (Instr.makeSlice 38 (.int .i64 512) (.int .i64 512)).run Try.prog w1 = .ok (.slice (some ⟨H + 1, 0, none⟩) 512 512) w2 := hmk
  have k3 : (Builtin.copy_ #[38, 38] 3 #[.slice (some ⟨H + 1, 0, none⟩) 512 512, .slice (some ⟨H, 0, none⟩) 8 8]).run Try.prog w2 = .ok (.int .i64 8) w3 := hcp3
  have k4 : (Builtin.copy_ #[38, 38] 3 #[.slice (some ⟨H + 1, 8, none⟩) 504 504, v]).run Try.prog w3 = .ok (.int .i64 (pc.length : Int)) w4 := hcp4
  have k5 : (Builtin.copy_ #[38, 38] 3 #[.slice (some ⟨H + 1, 504, none⟩) 8 8, .slice (some ⟨H, 0, none⟩) 8 8]).run Try.prog w4.drew = .ok (.int .i64 8) w5 := hcp5
  have s2 := fun W => slice98 H W
  have s3 := fun W => slice30o (H + 1) 0 512 512 8 (by omega) (by omega) 8 rfl W
  have s4 := fun W => slice30o (H + 1) 0 512 512 504 (by omega) (by omega) 504 rfl W
  simp only [Nat.zero_add, Nat.reduceSub] at s3 s4
  obtain ⟨vo, vn, vc, hv, _⟩ := id hb
  subst hv
  clear hb hlt hby1 hb1 hs1 hM1 hmk hRs hRa hb2 hR2 hM2 hbw2 hcp3 hD3 hs3 ha3 hc3 hM3 hbw3 hcp4 hD4 hs4 ha4 hc4 hM4 hbw4 hD5 hcp5 hD6 hs5 ha5 hc5 hbw5 hown hn4 hw2
  clear hM hm
  go_enter Try.func58, Try.ntmps58
  go_upto_region 1 with fail
  rw [← hw1, ← hH]
  clear hw1 hH
  go_wp2_with fail
  go_region
  all_goals (go_wp2_with fail; go_ret; rw [← HH.out]; exact ⟨_, rfl, HF.out.1, HF.out.2⟩)
end Go.Proofs.Ytjpdcahodmomgaa
