import Derived.Test.YtnphkmdanicemaaGreatDoorJA
namespace Go.Proofs.YtnphkmdanicemaaGreatDoor.Led
open Go.RowKit Go.PlainAid
set_option linter.unusedVariables false
set_option linter.unusedSimpArgs false
theorem cell_heap {w w' : World} (h : w'.heap = w.heap) (a : Addr) : w'.cell? a = w.cell? a := by simp only [World.cell?, h]
theorem errV_not (S : Sens) (e : Int) (h : e ≠ 0) : ∃ ad, errV S e = .iface 185 (.pointer (some ad)) := by
  unfold errV
  rw [show (e == 0) = false from by simpa using h]
  exact ⟨_, rfl⟩
theorem errV_0 (S : Sens) : errV S 0 = .nilIface := rfl
set_option maxRecDepth 100000 in
set_option maxHeartbeats 1600000 in
theorem in_any {S : Sens} {L hb : Nat} {s : LS} (w : World) (hS : Sen S L w) (h : Blk w hb s.cs 82) (ho : s.Ok) (hL : L ≤ hb) (a b : Int) (ha : IntKind.i64.wrap a = a) (hb2 : IntKind.i64.wrap b = b) :
    Calls Tryz.prog 19 #[.pointer (some ⟨hb, 0, none⟩), .agg #[.int .i64 a, .int .i64 b]] w fun r w' => r = .returned (.int .i64 (s.icode a b)) ∧ Blk w' hb (s.inext a b).cs 82 ∧ Stq hb w w' := by
  have hLw : L ≤ w.heap.size := Nat.le_of_lt (Nat.lt_of_le_of_lt hL h.lt)
  have hgr : Below w.heap.size w (w.alloc (.cells #[.int .i64 a, .int .i64 b] 37)) := by go_grown
  have hS1 := hS.below (hgr.mono hLw)
  have hB1 : Blk (w.alloc (.cells #[.int .i64 a, .int .i64 b] 37)) hb s.cs 82 := h.below hgr h.lt
  have hBn : Blk (w.alloc (.cells #[.int .i64 a, .int .i64 b] 37)) w.heap.size #[.int .i64 a, .int .i64 b] 37 := heap_alloc_new w _
  have hm := mayCome_any _ hS1 hB1 ho hL a b ha hb2
  have hne : w.heap.size ≠ hb := Nat.ne_of_gt h.lt
  have HG : Hid _ := hgr
  have HS1 : Hid _ := hS1
  have HB1 : Hid _ := hB1
  have HBn : Hid _ := hBn
  clear hgr hS1 hB1 hS h
  by_cases hc : s.icode a b = 0
  · rw [show s.inext a b = { s with d := s.d + a, u := s.u + b } from by unfold LS.inext; rw [if_pos hc], hc]
    have hbd : 0 ≤ a ∧ 0 ≤ b ∧ a ≤ 1099511627776 ∧ b ≤ 1099511627776 := by
      obtain ⟨h1, h2, h3, h4, h5, h6⟩ := ho
      unfold LS.icode at hc
      by_cases hn : a < 0 ∨ b < 0
      · rw [if_pos hn] at hc; cases hc
      · rw [if_neg hn] at hc
        by_cases hm : s.c - s.all < a + b
        · rw [if_pos hm] at hc; cases hc
        · unfold LS.all at *; omega
    have hsd := s.get_le ho 0
    have hsu := s.get_le ho 1
    simp only [LS.get] at hsd hsu
    rw [hc, errV_0] at hm
    clear hc
    go_enter Tryz.func19, Tryz.ntmps19
    go_wp2_with (first | (refine wpList_load_row rfl 37 (.tmp 3) rfl w.heap.size rfl 37 _ (0, 0) _ hBn Tryz.underlying37 rfl (by kernel_rfl) ?_) | fail)
    refine hm.mono ?_
    rintro e1 W1 ⟨rfl, hb1⟩
    have hq1 : Stq hb w W1 := (Stq.ofBelow HG.out).trans (Stq.ofBelow hb1)
    have hS2 : Sen S L W1 := HS1.out.below (hb1.mono (Nat.le_trans hLw HG.out.size))
    have hB2 : Blk W1 hb s.cs 82 := Blk.below HB1.out hb1 (Blk.lt HB1.out)
    have hN2 : Blk W1 w.heap.size #[.int .i64 a, .int .i64 b] 37 := Blk.below HBn.out hb1 (Blk.lt HBn.out)
    clear hm hBn hb1 HG HS1 HB1 HBn
    obtain ⟨d, u, x, c, n⟩ := s
    simp only at hsd hsu
    simp only
    have HS2 : Hid _ := hS2
    have HB2 : Hid _ := hB2
    have HN2 : Hid _ := hN2
    have HQ1 : Hid _ := hq1
    clear hS2 hB2 hN2 hq1
    go_wp2_with fail
    rename_i K hK
    try rw [show ∀ a : Act, a.put none undef = a from fun _ => rfl]
    have hX0 : Blk ({ W1 with drawn := W1.drawn + 1 } : World) hb (⟨d, u, x, c, n⟩ : LS).cs 82 := HB2.out
    have hN0 : Blk ({ W1 with drawn := W1.drawn + 1 } : World) w.heap.size #[.int .i64 a, .int .i64 b] 37 := HN2.out
    have hQ0 : Stq hb w ({ W1 with drawn := W1.drawn + 1 } : World) := ⟨(HQ1.out).os, (HQ1.out).tape, (HQ1.out).output, (HQ1.out).size, (HQ1.out).block⟩
    have hT0 : Stq hb W1 ({ W1 with drawn := W1.drawn + 1 } : World) := ⟨rfl, rfl, rfl, Nat.le_refl _, fun _ _ _ => rfl⟩
    refine wp_region_mix (fun wr => wr.heap = ({ W1 with drawn := W1.drawn + 1 } : World).heap) (fun i => i == 11) 11 (by kernel_rfl) rfl (by kernel_rfl) (by kernel_rfl) (by kernel_rfl) ?_
    generalize ({ W1 with drawn := W1.drawn + 1 } : World) = X0 at *
    have hC : X0.heap = X0.heap := rfl
    have hci0 : X0.cell? ⟨hb, 0, none⟩ = some (.int .i64 d) := hX0.cell 0
    have hbi0 : X0.cell? ⟨w.heap.size, 0, none⟩ = some (.int .i64 a) := hN0.cell 0
    have hzi0 := hX0.frozen 0
    refine withFrP (N := 35) rfl ?_
    intro f0 F0 hff
    have hs0 : f0 0 = Value.pointer (some ⟨hb, 0, none⟩) := hff 0
    have hs3 : f0 3 = Value.pointer (some ⟨w.heap.size, 0, none⟩) := hff 3
    clear hff
    refine lyp F0 rfl hC rfl (by omega) (wanted_none rfl) (v := Value.pointer (some ⟨hb, 0, none⟩)) (fun wr hwr => by simp only [execOp, (F0.eval 0 (by omega)).trans (show _ = Value.pointer (some ⟨hb, 0, none⟩) from by simp [upd, hs0, hs3])]; first | rfl | simp [go_sem]) fun Fr01 => ?_
    refine lyp Fr01 rfl hC rfl (by omega) (wanted_none rfl) (v := Value.pointer (some ⟨hb, 0, none⟩)) (fun wr hwr => by simp only [execOp, (Fr01.eval 11 (by omega)).trans (show _ = Value.pointer (some ⟨hb, 0, none⟩) from by simp [upd, hs0, hs3])]; first | rfl | simp [go_sem]) fun Fr02 => ?_
    refine lyp Fr02 rfl hC rfl (by omega) (wanted_none rfl) (v := Value.pointer (some ⟨hb, 0, none⟩)) (fun wr hwr => by simp only [execOp, (Fr02.eval 12 (by omega)).trans (show _ = Value.pointer (some ⟨hb, 0, none⟩) from by simp [upd, hs0, hs3])]; first | rfl | simp [go_sem]) fun Fr03 => ?_
    refine lyp Fr03 rfl hC rfl (by omega) (wanted_none rfl) (v := Value.pointer (some ⟨hb, 0, none⟩)) (fun wr hwr => by simp only [execOp, (Fr03.eval 13 (by omega)).trans (show _ = Value.pointer (some ⟨hb, 0, none⟩) from by simp [upd, hs0, hs3])]; first | rfl | simp [go_sem]) fun Fr04 => ?_
    refine lyp Fr04 rfl hC rfl (by omega) (wanted_none rfl) (v := Value.int .i64 d) (fun wr hwr => by simp only [execOp, (Fr04.eval 14 (by omega)).trans (show _ = Value.pointer (some ⟨hb, 0, none⟩) from by simp [upd, hs0, hs3])]; simp [go_sem, ((cell_heap hwr ⟨hb, 0, none⟩).trans hci0)]) fun Fr05 => ?_
    refine lyp Fr05 rfl hC rfl (by omega) (wanted_none rfl) (v := Value.pointer (some ⟨w.heap.size, 0, none⟩)) (fun wr hwr => by simp only [execOp, (Fr05.eval 3 (by omega)).trans (show _ = Value.pointer (some ⟨w.heap.size, 0, none⟩) from by simp [upd, hs0, hs3])]; first | rfl | simp [go_sem]) fun Fr06 => ?_
    refine lyp Fr06 rfl hC rfl (by omega) (wanted_none rfl) (v := Value.int .i64 a) (fun wr hwr => by simp only [execOp, (Fr06.eval 16 (by omega)).trans (show _ = Value.pointer (some ⟨w.heap.size, 0, none⟩) from by simp [upd, hs0, hs3])]; simp [go_sem, ((cell_heap hwr ⟨w.heap.size, 0, none⟩).trans hbi0)]) fun Fr07 => ?_
    refine lyp Fr07 rfl hC rfl (by omega) (wanted_none rfl) (v := Value.int .i64 (d + a)) (fun wr hwr => by simp only [execOp, (Fr07.eval 15 (by omega)).trans (show _ = Value.int .i64 d from by simp [upd, hs0, hs3]), (Fr07.eval 17 (by omega)).trans (show _ = Value.int .i64 a from by simp [upd, hs0, hs3])]; simp [go_sem, Act.eval, show IntKind.i64.wrap (d + a) = d + a from by rw [IntKind.wrap_i64]; omega]) fun Fr08 => ?_
    refine lyp Fr08 rfl hC rfl (by omega) (wanted_none rfl) (v := Value.pointer (some ⟨hb, 0, none⟩)) (fun wr hwr => by simp only [execOp, (Fr08.eval 11 (by omega)).trans (show _ = Value.pointer (some ⟨hb, 0, none⟩) from by simp [upd, hs0, hs3])]; first | rfl | simp [go_sem]) fun Fr09 => ?_
    refine lyp Fr09 rfl hC rfl (by omega) (wanted_none rfl) (v := Value.pointer (some ⟨hb, 0, none⟩)) (fun wr hwr => by simp only [execOp, (Fr09.eval 19 (by omega)).trans (show _ = Value.pointer (some ⟨hb, 0, none⟩) from by simp [upd, hs0, hs3])]; first | rfl | simp [go_sem]) fun Fr010 => ?_
    refine lyp Fr010 rfl hC rfl (by omega) (wanted_none rfl) (v := Value.pointer (some ⟨hb, 0, none⟩)) (fun wr hwr => by simp only [execOp, (Fr010.eval 20 (by omega)).trans (show _ = Value.pointer (some ⟨hb, 0, none⟩) from by simp [upd, hs0, hs3])]; first | rfl | simp [go_sem]) fun Fr011 => ?_
    refine lst rfl hC rfl (wanted_none rfl) (w1 := X0.setCell ⟨hb, 0, none⟩ (Value.int .i64 (d + a))) (by simp only [execOp, (Fr011.eval 21 (by omega)).trans (show _ = Value.pointer (some ⟨hb, 0, none⟩) from by simp [upd, hs0, hs3]), (Fr011.eval 18 (by omega)).trans (show _ = Value.int .i64 (d + a) from by simp [upd, hs0, hs3])]; simp [go_sem, hci0, hzi0]) ?_
    have hY0 := hX0.set 0 (Value.int .i64 (d + a))
    have hZ0 : Blk (X0.setCell ⟨hb, 0, none⟩ (Value.int .i64 (d + a))) hb (⟨d + a, u, x, c, n⟩ : LS).cs 82 := hY0
    have hM0 : Blk (X0.setCell ⟨hb, 0, none⟩ (Value.int .i64 (d + a))) w.heap.size #[.int .i64 a, .int .i64 b] 37 := (Stq.set hb 0 (Value.int .i64 (d + a)) X0).blk hN0 hne
    have hR0 : Stq hb w (X0.setCell ⟨hb, 0, none⟩ (Value.int .i64 (d + a))) := hQ0.trans (Stq.set hb 0 (Value.int .i64 (d + a)) X0)
    have hU0 : Stq hb W1 (X0.setCell ⟨hb, 0, none⟩ (Value.int .i64 (d + a))) := hT0.trans (Stq.set hb 0 (Value.int .i64 (d + a)) X0)
    generalize X0.setCell ⟨hb, 0, none⟩ (Value.int .i64 (d + a)) = Y0 at *
    refine ⟨fun h => by omega, ?_⟩
    refine hK _ _ ?_
    clear F0 Fr01 Fr02 Fr03 Fr04 Fr05 Fr06 Fr07 Fr08 Fr09 Fr010 Fr011 hs0 hs3 hK hC hci0 hbi0 hzi0 hX0 hN0 hQ0 hT0 hY0
    simp only [Act.put, List.setIfInBounds_toArray, List.set_cons_succ, List.set_cons_zero]
    have hSa : Sen S L Y0 := HS2.out.below (hU0.below (Nat.le_trans hLw HQ1.out.size) hL)
    clear HS2 HB2 HN2 HQ1 hU0
    have HS2 : Hid _ := hSa
    have HB2 : Hid _ := hZ0
    have HN2 : Hid _ := hM0
    have HQ1 : Hid _ := hR0
    clear hSa hZ0 hM0 hR0
    go_wp2_with fail
    rename_i K hK
    try rw [show ∀ a : Act, a.put none undef = a from fun _ => rfl]
    have hX1 : Blk ({ Y0 with drawn := Y0.drawn + 1 } : World) hb (⟨d + a, u, x, c, n⟩ : LS).cs 82 := HB2.out
    have hN1 : Blk ({ Y0 with drawn := Y0.drawn + 1 } : World) w.heap.size #[.int .i64 a, .int .i64 b] 37 := HN2.out
    have hQ1 : Stq hb w ({ Y0 with drawn := Y0.drawn + 1 } : World) := ⟨(HQ1.out).os, (HQ1.out).tape, (HQ1.out).output, (HQ1.out).size, (HQ1.out).block⟩
    have hT1 : Stq hb Y0 ({ Y0 with drawn := Y0.drawn + 1 } : World) := ⟨rfl, rfl, rfl, Nat.le_refl _, fun _ _ _ => rfl⟩
    refine wp_region_mix (fun wr => wr.heap = ({ Y0 with drawn := Y0.drawn + 1 } : World).heap) (fun i => i == 11) 11 (by kernel_rfl) rfl (by kernel_rfl) (by kernel_rfl) (by kernel_rfl) ?_
    generalize ({ Y0 with drawn := Y0.drawn + 1 } : World) = X1 at *
    have hC : X1.heap = X1.heap := rfl
    have hci1 : X1.cell? ⟨hb, 1, none⟩ = some (.int .i64 u) := hX1.cell 1
    have hbi1 : X1.cell? ⟨w.heap.size, 1, none⟩ = some (.int .i64 b) := hN1.cell 1
    have hzi1 := hX1.frozen 1
    refine withFrP (N := 35) rfl ?_
    intro f0 F0 hff
    have hs0 : f0 0 = Value.pointer (some ⟨hb, 0, none⟩) := hff 0
    have hs3 : f0 3 = Value.pointer (some ⟨w.heap.size, 0, none⟩) := hff 3
    clear hff
    refine lyp F0 rfl hC rfl (by omega) (wanted_none rfl) (v := Value.pointer (some ⟨hb, 0, none⟩)) (fun wr hwr => by simp only [execOp, (F0.eval 0 (by omega)).trans (show _ = Value.pointer (some ⟨hb, 0, none⟩) from by simp [upd, hs0, hs3])]; first | rfl | simp [go_sem]) fun Fr11 => ?_
    refine lyp Fr11 rfl hC rfl (by omega) (wanted_none rfl) (v := Value.pointer (some ⟨hb, 0, none⟩)) (fun wr hwr => by simp only [execOp, (Fr11.eval 22 (by omega)).trans (show _ = Value.pointer (some ⟨hb, 0, none⟩) from by simp [upd, hs0, hs3])]; first | rfl | simp [go_sem]) fun Fr12 => ?_
    refine lyp Fr12 rfl hC rfl (by omega) (wanted_none rfl) (v := Value.pointer (some ⟨hb, 0, none⟩)) (fun wr hwr => by simp only [execOp, (Fr12.eval 23 (by omega)).trans (show _ = Value.pointer (some ⟨hb, 0, none⟩) from by simp [upd, hs0, hs3])]; first | rfl | simp [go_sem]) fun Fr13 => ?_
    refine lyp Fr13 rfl hC rfl (by omega) (wanted_none rfl) (v := Value.pointer (some ⟨hb, 1, none⟩)) (fun wr hwr => by simp only [execOp, (Fr13.eval 24 (by omega)).trans (show _ = Value.pointer (some ⟨hb, 0, none⟩) from by simp [upd, hs0, hs3])]; first | rfl | simp [go_sem]) fun Fr14 => ?_
    refine lyp Fr14 rfl hC rfl (by omega) (wanted_none rfl) (v := Value.int .i64 u) (fun wr hwr => by simp only [execOp, (Fr14.eval 25 (by omega)).trans (show _ = Value.pointer (some ⟨hb, 1, none⟩) from by simp [upd, hs0, hs3])]; simp [go_sem, ((cell_heap hwr ⟨hb, 1, none⟩).trans hci1)]) fun Fr15 => ?_
    refine lyp Fr15 rfl hC rfl (by omega) (wanted_none rfl) (v := Value.pointer (some ⟨w.heap.size, 1, none⟩)) (fun wr hwr => by simp only [execOp, (Fr15.eval 3 (by omega)).trans (show _ = Value.pointer (some ⟨w.heap.size, 0, none⟩) from by simp [upd, hs0, hs3])]; first | rfl | simp [go_sem]) fun Fr16 => ?_
    refine lyp Fr16 rfl hC rfl (by omega) (wanted_none rfl) (v := Value.int .i64 b) (fun wr hwr => by simp only [execOp, (Fr16.eval 27 (by omega)).trans (show _ = Value.pointer (some ⟨w.heap.size, 1, none⟩) from by simp [upd, hs0, hs3])]; simp [go_sem, ((cell_heap hwr ⟨w.heap.size, 1, none⟩).trans hbi1)]) fun Fr17 => ?_
    refine lyp Fr17 rfl hC rfl (by omega) (wanted_none rfl) (v := Value.int .i64 (u + b)) (fun wr hwr => by simp only [execOp, (Fr17.eval 26 (by omega)).trans (show _ = Value.int .i64 u from by simp [upd, hs0, hs3]), (Fr17.eval 28 (by omega)).trans (show _ = Value.int .i64 b from by simp [upd, hs0, hs3])]; simp [go_sem, Act.eval, show IntKind.i64.wrap (u + b) = u + b from by rw [IntKind.wrap_i64]; omega]) fun Fr18 => ?_
    refine lyp Fr18 rfl hC rfl (by omega) (wanted_none rfl) (v := Value.pointer (some ⟨hb, 0, none⟩)) (fun wr hwr => by simp only [execOp, (Fr18.eval 22 (by omega)).trans (show _ = Value.pointer (some ⟨hb, 0, none⟩) from by simp [upd, hs0, hs3])]; first | rfl | simp [go_sem]) fun Fr19 => ?_
    refine lyp Fr19 rfl hC rfl (by omega) (wanted_none rfl) (v := Value.pointer (some ⟨hb, 0, none⟩)) (fun wr hwr => by simp only [execOp, (Fr19.eval 30 (by omega)).trans (show _ = Value.pointer (some ⟨hb, 0, none⟩) from by simp [upd, hs0, hs3])]; first | rfl | simp [go_sem]) fun Fr110 => ?_
    refine lyp Fr110 rfl hC rfl (by omega) (wanted_none rfl) (v := Value.pointer (some ⟨hb, 1, none⟩)) (fun wr hwr => by simp only [execOp, (Fr110.eval 31 (by omega)).trans (show _ = Value.pointer (some ⟨hb, 0, none⟩) from by simp [upd, hs0, hs3])]; first | rfl | simp [go_sem]) fun Fr111 => ?_
    refine lst rfl hC rfl (wanted_none rfl) (w1 := X1.setCell ⟨hb, 1, none⟩ (Value.int .i64 (u + b))) (by simp only [execOp, (Fr111.eval 32 (by omega)).trans (show _ = Value.pointer (some ⟨hb, 1, none⟩) from by simp [upd, hs0, hs3]), (Fr111.eval 29 (by omega)).trans (show _ = Value.int .i64 (u + b) from by simp [upd, hs0, hs3])]; simp [go_sem, hci1, hzi1]) ?_
    have hY1 := hX1.set 1 (Value.int .i64 (u + b))
    have hZ1 : Blk (X1.setCell ⟨hb, 1, none⟩ (Value.int .i64 (u + b))) hb (⟨d + a, u + b, x, c, n⟩ : LS).cs 82 := hY1
    have hM1 : Blk (X1.setCell ⟨hb, 1, none⟩ (Value.int .i64 (u + b))) w.heap.size #[.int .i64 a, .int .i64 b] 37 := (Stq.set hb 1 (Value.int .i64 (u + b)) X1).blk hN1 hne
    have hR1 : Stq hb w (X1.setCell ⟨hb, 1, none⟩ (Value.int .i64 (u + b))) := hQ1.trans (Stq.set hb 1 (Value.int .i64 (u + b)) X1)
    have hU1 : Stq hb Y0 (X1.setCell ⟨hb, 1, none⟩ (Value.int .i64 (u + b))) := hT1.trans (Stq.set hb 1 (Value.int .i64 (u + b)) X1)
    generalize X1.setCell ⟨hb, 1, none⟩ (Value.int .i64 (u + b)) = Y1 at *
    refine ⟨fun h => by omega, ?_⟩
    refine hK _ _ ?_
    clear F0 Fr11 Fr12 Fr13 Fr14 Fr15 Fr16 Fr17 Fr18 Fr19 Fr110 Fr111 hs0 hs3 hK hC hci1 hbi1 hzi1 hX1 hN1 hQ1 hT1 hY1
    simp only [Act.put, List.setIfInBounds_toArray, List.set_cons_succ, List.set_cons_zero]
    have hSa : Sen S L Y1 := HS2.out.below (hU1.below (Nat.le_trans hLw HQ1.out.size) hL)
    have htold := told_any Y1 hSa 0 (Or.inl rfl)
    rw [errV_0] at htold
    clear HS2 HB2 HN2 HQ1 hU1 hSa
    have HB2 : Hid _ := hZ1
    have HQ1 : Hid _ := hR1
    clear hZ1 hM1 hR1
    go_wp2_with fail
    refine htold.mono ?_
    rintro e2 w2 ⟨rfl, rfl⟩
    go_wp2_with fail
    go_ret
    exact ⟨rfl, HB2.out, HQ1.out⟩
  · rw [show s.inext a b = s from by unfold LS.inext; rw [if_neg hc]]
    obtain ⟨ad, had⟩ := errV_not S _ hc
    have hci := s.icode_is a b
    rw [had] at hm
    generalize s.icode a b = ec at *
    clear hc
    go_enter Tryz.func19, Tryz.ntmps19
    go_wp2_with (first | (refine wpList_load_row rfl 37 (.tmp 3) rfl w.heap.size rfl 37 _ (0, 0) _ hBn Tryz.underlying37 rfl (by kernel_rfl) ?_) | fail)
    refine hm.mono ?_
    rintro e1 W1 ⟨rfl, hb1⟩
    have hq1 : Stq hb w W1 := (Stq.ofBelow HG.out).trans (Stq.ofBelow hb1)
    have hS2 : Sen S L W1 := HS1.out.below (hb1.mono (Nat.le_trans hLw HG.out.size))
    have hB2 : Blk W1 hb s.cs 82 := Blk.below HB1.out hb1 (Blk.lt HB1.out)
    have hN2 : Blk W1 w.heap.size #[.int .i64 a, .int .i64 b] 37 := Blk.below HBn.out hb1 (Blk.lt HBn.out)
    clear hm hBn hb1 HG HS1 HB1 HBn
    have htold := told_any W1 hS2 _ hci
    rw [had] at htold
    have HB2 : Hid _ := hB2
    have HQ1 : Hid _ := hq1
    clear had hci hS2 hB2 hN2 hq1
    go_wp2_with fail
    refine htold.mono ?_
    rintro e2 w2 ⟨rfl, rfl⟩
    go_wp2_with fail
    go_ret
    exact ⟨rfl, HB2.out, HQ1.out⟩
set_option maxRecDepth 100000 in
set_option maxHeartbeats 1600000 in
theorem out_any {S : Sens} {L hb : Nat} {s : LS} (w : World) (hS : Sen S L w) (h : Blk w hb s.cs 82) (ho : s.Ok) (hL : L ≤ hb) (a b : Int) :
    Calls Tryz.prog 36 #[.pointer (some ⟨hb, 0, none⟩), .agg #[.int .i64 a, .int .i64 b]] w fun r w' => r = .returned (.int .i64 (s.ocode a b)) ∧ Blk w' hb (s.onext a b).cs 82 ∧ Stq hb w w' := by
  have hLw : L ≤ w.heap.size := Nat.le_of_lt (Nat.lt_of_le_of_lt hL h.lt)
  have hgr : Below w.heap.size w (w.alloc (.cells #[.int .i64 a, .int .i64 b] 37)) := by go_grown
  have hS1 := hS.below (hgr.mono hLw)
  have hB1 : Blk (w.alloc (.cells #[.int .i64 a, .int .i64 b] 37)) hb s.cs 82 := h.below hgr h.lt
  have hBn : Blk (w.alloc (.cells #[.int .i64 a, .int .i64 b] 37)) w.heap.size #[.int .i64 a, .int .i64 b] 37 := heap_alloc_new w _
  have hm := mayGo_any _ hS1 hB1 ho hL a b
  have hne : w.heap.size ≠ hb := Nat.ne_of_gt h.lt
  have HG : Hid _ := hgr
  have HS1 : Hid _ := hS1
  have HB1 : Hid _ := hB1
  have HBn : Hid _ := hBn
  clear hgr hS1 hB1 hS h
  by_cases hc : s.ocode a b = 0
  · rw [show s.onext a b = { s with d := s.d - a, u := s.u - b } from by unfold LS.onext; rw [if_pos hc], hc]
    have hbd : 0 ≤ a ∧ 0 ≤ b ∧ a ≤ 1099511627776 ∧ b ≤ 1099511627776 := by
      obtain ⟨h1, h2, h3, h4, h5, h6⟩ := ho
      unfold LS.ocode at hc
      by_cases hn : a < 0 ∨ b < 0
      · rw [if_pos hn] at hc; cases hc
      · rw [if_neg hn] at hc
        by_cases hm : s.d < a ∨ s.u < b
        · rw [if_pos hm] at hc; cases hc
        · omega
    have hsd := s.get_le ho 0
    have hsu := s.get_le ho 1
    simp only [LS.get] at hsd hsu
    rw [hc, errV_0] at hm
    clear hc
    go_enter Tryz.func36, Tryz.ntmps36
    go_wp2_with (first | (refine wpList_load_row rfl 37 (.tmp 3) rfl w.heap.size rfl 37 _ (0, 0) _ hBn Tryz.underlying37 rfl (by kernel_rfl) ?_) | fail)
    refine hm.mono ?_
    rintro e1 W1 ⟨rfl, hb1⟩
    have hq1 : Stq hb w W1 := (Stq.ofBelow HG.out).trans (Stq.ofBelow hb1)
    have hS2 : Sen S L W1 := HS1.out.below (hb1.mono (Nat.le_trans hLw HG.out.size))
    have hB2 : Blk W1 hb s.cs 82 := Blk.below HB1.out hb1 (Blk.lt HB1.out)
    have hN2 : Blk W1 w.heap.size #[.int .i64 a, .int .i64 b] 37 := Blk.below HBn.out hb1 (Blk.lt HBn.out)
    clear hm hBn hb1 HG HS1 HB1 HBn
    obtain ⟨d, u, x, c, n⟩ := s
    simp only at hsd hsu
    simp only
    have HS2 : Hid _ := hS2
    have HB2 : Hid _ := hB2
    have HN2 : Hid _ := hN2
    have HQ1 : Hid _ := hq1
    clear hS2 hB2 hN2 hq1
    go_wp2_with fail
    rename_i K hK
    try rw [show ∀ a : Act, a.put none undef = a from fun _ => rfl]
    have hX0 : Blk ({ W1 with drawn := W1.drawn + 1 } : World) hb (⟨d, u, x, c, n⟩ : LS).cs 82 := HB2.out
    have hN0 : Blk ({ W1 with drawn := W1.drawn + 1 } : World) w.heap.size #[.int .i64 a, .int .i64 b] 37 := HN2.out
    have hQ0 : Stq hb w ({ W1 with drawn := W1.drawn + 1 } : World) := ⟨(HQ1.out).os, (HQ1.out).tape, (HQ1.out).output, (HQ1.out).size, (HQ1.out).block⟩
    have hT0 : Stq hb W1 ({ W1 with drawn := W1.drawn + 1 } : World) := ⟨rfl, rfl, rfl, Nat.le_refl _, fun _ _ _ => rfl⟩
    refine wp_region_mix (fun wr => wr.heap = ({ W1 with drawn := W1.drawn + 1 } : World).heap) (fun i => i == 11) 11 (by kernel_rfl) rfl (by kernel_rfl) (by kernel_rfl) (by kernel_rfl) ?_
    generalize ({ W1 with drawn := W1.drawn + 1 } : World) = X0 at *
    have hC : X0.heap = X0.heap := rfl
    have hci0 : X0.cell? ⟨hb, 0, none⟩ = some (.int .i64 d) := hX0.cell 0
    have hbi0 : X0.cell? ⟨w.heap.size, 0, none⟩ = some (.int .i64 a) := hN0.cell 0
    have hzi0 := hX0.frozen 0
    refine withFrP (N := 35) rfl ?_
    intro f0 F0 hff
    have hs0 : f0 0 = Value.pointer (some ⟨hb, 0, none⟩) := hff 0
    have hs3 : f0 3 = Value.pointer (some ⟨w.heap.size, 0, none⟩) := hff 3
    clear hff
    refine lyp F0 rfl hC rfl (by omega) (wanted_none rfl) (v := Value.pointer (some ⟨hb, 0, none⟩)) (fun wr hwr => by simp only [execOp, (F0.eval 0 (by omega)).trans (show _ = Value.pointer (some ⟨hb, 0, none⟩) from by simp [upd, hs0, hs3])]; first | rfl | simp [go_sem]) fun Fr01 => ?_
    refine lyp Fr01 rfl hC rfl (by omega) (wanted_none rfl) (v := Value.pointer (some ⟨hb, 0, none⟩)) (fun wr hwr => by simp only [execOp, (Fr01.eval 11 (by omega)).trans (show _ = Value.pointer (some ⟨hb, 0, none⟩) from by simp [upd, hs0, hs3])]; first | rfl | simp [go_sem]) fun Fr02 => ?_
    refine lyp Fr02 rfl hC rfl (by omega) (wanted_none rfl) (v := Value.pointer (some ⟨hb, 0, none⟩)) (fun wr hwr => by simp only [execOp, (Fr02.eval 12 (by omega)).trans (show _ = Value.pointer (some ⟨hb, 0, none⟩) from by simp [upd, hs0, hs3])]; first | rfl | simp [go_sem]) fun Fr03 => ?_
    refine lyp Fr03 rfl hC rfl (by omega) (wanted_none rfl) (v := Value.pointer (some ⟨hb, 0, none⟩)) (fun wr hwr => by simp only [execOp, (Fr03.eval 13 (by omega)).trans (show _ = Value.pointer (some ⟨hb, 0, none⟩) from by simp [upd, hs0, hs3])]; first | rfl | simp [go_sem]) fun Fr04 => ?_
    refine lyp Fr04 rfl hC rfl (by omega) (wanted_none rfl) (v := Value.int .i64 d) (fun wr hwr => by simp only [execOp, (Fr04.eval 14 (by omega)).trans (show _ = Value.pointer (some ⟨hb, 0, none⟩) from by simp [upd, hs0, hs3])]; simp [go_sem, ((cell_heap hwr ⟨hb, 0, none⟩).trans hci0)]) fun Fr05 => ?_
    refine lyp Fr05 rfl hC rfl (by omega) (wanted_none rfl) (v := Value.pointer (some ⟨w.heap.size, 0, none⟩)) (fun wr hwr => by simp only [execOp, (Fr05.eval 3 (by omega)).trans (show _ = Value.pointer (some ⟨w.heap.size, 0, none⟩) from by simp [upd, hs0, hs3])]; first | rfl | simp [go_sem]) fun Fr06 => ?_
    refine lyp Fr06 rfl hC rfl (by omega) (wanted_none rfl) (v := Value.int .i64 a) (fun wr hwr => by simp only [execOp, (Fr06.eval 16 (by omega)).trans (show _ = Value.pointer (some ⟨w.heap.size, 0, none⟩) from by simp [upd, hs0, hs3])]; simp [go_sem, ((cell_heap hwr ⟨w.heap.size, 0, none⟩).trans hbi0)]) fun Fr07 => ?_
    refine lyp Fr07 rfl hC rfl (by omega) (wanted_none rfl) (v := Value.int .i64 (d - a)) (fun wr hwr => by simp only [execOp, (Fr07.eval 15 (by omega)).trans (show _ = Value.int .i64 d from by simp [upd, hs0, hs3]), (Fr07.eval 17 (by omega)).trans (show _ = Value.int .i64 a from by simp [upd, hs0, hs3])]; simp [go_sem, Act.eval, show IntKind.i64.wrap (d - a) = d - a from by rw [IntKind.wrap_i64]; omega]) fun Fr08 => ?_
    refine lyp Fr08 rfl hC rfl (by omega) (wanted_none rfl) (v := Value.pointer (some ⟨hb, 0, none⟩)) (fun wr hwr => by simp only [execOp, (Fr08.eval 11 (by omega)).trans (show _ = Value.pointer (some ⟨hb, 0, none⟩) from by simp [upd, hs0, hs3])]; first | rfl | simp [go_sem]) fun Fr09 => ?_
    refine lyp Fr09 rfl hC rfl (by omega) (wanted_none rfl) (v := Value.pointer (some ⟨hb, 0, none⟩)) (fun wr hwr => by simp only [execOp, (Fr09.eval 19 (by omega)).trans (show _ = Value.pointer (some ⟨hb, 0, none⟩) from by simp [upd, hs0, hs3])]; first | rfl | simp [go_sem]) fun Fr010 => ?_
    refine lyp Fr010 rfl hC rfl (by omega) (wanted_none rfl) (v := Value.pointer (some ⟨hb, 0, none⟩)) (fun wr hwr => by simp only [execOp, (Fr010.eval 20 (by omega)).trans (show _ = Value.pointer (some ⟨hb, 0, none⟩) from by simp [upd, hs0, hs3])]; first | rfl | simp [go_sem]) fun Fr011 => ?_
    refine lst rfl hC rfl (wanted_none rfl) (w1 := X0.setCell ⟨hb, 0, none⟩ (Value.int .i64 (d - a))) (by simp only [execOp, (Fr011.eval 21 (by omega)).trans (show _ = Value.pointer (some ⟨hb, 0, none⟩) from by simp [upd, hs0, hs3]), (Fr011.eval 18 (by omega)).trans (show _ = Value.int .i64 (d - a) from by simp [upd, hs0, hs3])]; simp [go_sem, hci0, hzi0]) ?_
    have hY0 := hX0.set 0 (Value.int .i64 (d - a))
    have hZ0 : Blk (X0.setCell ⟨hb, 0, none⟩ (Value.int .i64 (d - a))) hb (⟨d - a, u, x, c, n⟩ : LS).cs 82 := hY0
    have hM0 : Blk (X0.setCell ⟨hb, 0, none⟩ (Value.int .i64 (d - a))) w.heap.size #[.int .i64 a, .int .i64 b] 37 := (Stq.set hb 0 (Value.int .i64 (d - a)) X0).blk hN0 hne
    have hR0 : Stq hb w (X0.setCell ⟨hb, 0, none⟩ (Value.int .i64 (d - a))) := hQ0.trans (Stq.set hb 0 (Value.int .i64 (d - a)) X0)
    have hU0 : Stq hb W1 (X0.setCell ⟨hb, 0, none⟩ (Value.int .i64 (d - a))) := hT0.trans (Stq.set hb 0 (Value.int .i64 (d - a)) X0)
    generalize X0.setCell ⟨hb, 0, none⟩ (Value.int .i64 (d - a)) = Y0 at *
    refine ⟨fun h => by omega, ?_⟩
    refine hK _ _ ?_
    clear F0 Fr01 Fr02 Fr03 Fr04 Fr05 Fr06 Fr07 Fr08 Fr09 Fr010 Fr011 hs0 hs3 hK hC hci0 hbi0 hzi0 hX0 hN0 hQ0 hT0 hY0
    simp only [Act.put, List.setIfInBounds_toArray, List.set_cons_succ, List.set_cons_zero]
    have hSa : Sen S L Y0 := HS2.out.below (hU0.below (Nat.le_trans hLw HQ1.out.size) hL)
    clear HS2 HB2 HN2 HQ1 hU0
    have HS2 : Hid _ := hSa
    have HB2 : Hid _ := hZ0
    have HN2 : Hid _ := hM0
    have HQ1 : Hid _ := hR0
    clear hSa hZ0 hM0 hR0
    go_wp2_with fail
    rename_i K hK
    try rw [show ∀ a : Act, a.put none undef = a from fun _ => rfl]
    have hX1 : Blk ({ Y0 with drawn := Y0.drawn + 1 } : World) hb (⟨d - a, u, x, c, n⟩ : LS).cs 82 := HB2.out
    have hN1 : Blk ({ Y0 with drawn := Y0.drawn + 1 } : World) w.heap.size #[.int .i64 a, .int .i64 b] 37 := HN2.out
    have hQ1 : Stq hb w ({ Y0 with drawn := Y0.drawn + 1 } : World) := ⟨(HQ1.out).os, (HQ1.out).tape, (HQ1.out).output, (HQ1.out).size, (HQ1.out).block⟩
    have hT1 : Stq hb Y0 ({ Y0 with drawn := Y0.drawn + 1 } : World) := ⟨rfl, rfl, rfl, Nat.le_refl _, fun _ _ _ => rfl⟩
    refine wp_region_mix (fun wr => wr.heap = ({ Y0 with drawn := Y0.drawn + 1 } : World).heap) (fun i => i == 11) 11 (by kernel_rfl) rfl (by kernel_rfl) (by kernel_rfl) (by kernel_rfl) ?_
    generalize ({ Y0 with drawn := Y0.drawn + 1 } : World) = X1 at *
    have hC : X1.heap = X1.heap := rfl
    have hci1 : X1.cell? ⟨hb, 1, none⟩ = some (.int .i64 u) := hX1.cell 1
    have hbi1 : X1.cell? ⟨w.heap.size, 1, none⟩ = some (.int .i64 b) := hN1.cell 1
    have hzi1 := hX1.frozen 1
    refine withFrP (N := 35) rfl ?_
    intro f0 F0 hff
    have hs0 : f0 0 = Value.pointer (some ⟨hb, 0, none⟩) := hff 0
    have hs3 : f0 3 = Value.pointer (some ⟨w.heap.size, 0, none⟩) := hff 3
    clear hff
    refine lyp F0 rfl hC rfl (by omega) (wanted_none rfl) (v := Value.pointer (some ⟨hb, 0, none⟩)) (fun wr hwr => by simp only [execOp, (F0.eval 0 (by omega)).trans (show _ = Value.pointer (some ⟨hb, 0, none⟩) from by simp [upd, hs0, hs3])]; first | rfl | simp [go_sem]) fun Fr11 => ?_
    refine lyp Fr11 rfl hC rfl (by omega) (wanted_none rfl) (v := Value.pointer (some ⟨hb, 0, none⟩)) (fun wr hwr => by simp only [execOp, (Fr11.eval 22 (by omega)).trans (show _ = Value.pointer (some ⟨hb, 0, none⟩) from by simp [upd, hs0, hs3])]; first | rfl | simp [go_sem]) fun Fr12 => ?_
    refine lyp Fr12 rfl hC rfl (by omega) (wanted_none rfl) (v := Value.pointer (some ⟨hb, 0, none⟩)) (fun wr hwr => by simp only [execOp, (Fr12.eval 23 (by omega)).trans (show _ = Value.pointer (some ⟨hb, 0, none⟩) from by simp [upd, hs0, hs3])]; first | rfl | simp [go_sem]) fun Fr13 => ?_
    refine lyp Fr13 rfl hC rfl (by omega) (wanted_none rfl) (v := Value.pointer (some ⟨hb, 1, none⟩)) (fun wr hwr => by simp only [execOp, (Fr13.eval 24 (by omega)).trans (show _ = Value.pointer (some ⟨hb, 0, none⟩) from by simp [upd, hs0, hs3])]; first | rfl | simp [go_sem]) fun Fr14 => ?_
    refine lyp Fr14 rfl hC rfl (by omega) (wanted_none rfl) (v := Value.int .i64 u) (fun wr hwr => by simp only [execOp, (Fr14.eval 25 (by omega)).trans (show _ = Value.pointer (some ⟨hb, 1, none⟩) from by simp [upd, hs0, hs3])]; simp [go_sem, ((cell_heap hwr ⟨hb, 1, none⟩).trans hci1)]) fun Fr15 => ?_
    refine lyp Fr15 rfl hC rfl (by omega) (wanted_none rfl) (v := Value.pointer (some ⟨w.heap.size, 1, none⟩)) (fun wr hwr => by simp only [execOp, (Fr15.eval 3 (by omega)).trans (show _ = Value.pointer (some ⟨w.heap.size, 0, none⟩) from by simp [upd, hs0, hs3])]; first | rfl | simp [go_sem]) fun Fr16 => ?_
    refine lyp Fr16 rfl hC rfl (by omega) (wanted_none rfl) (v := Value.int .i64 b) (fun wr hwr => by simp only [execOp, (Fr16.eval 27 (by omega)).trans (show _ = Value.pointer (some ⟨w.heap.size, 1, none⟩) from by simp [upd, hs0, hs3])]; simp [go_sem, ((cell_heap hwr ⟨w.heap.size, 1, none⟩).trans hbi1)]) fun Fr17 => ?_
    refine lyp Fr17 rfl hC rfl (by omega) (wanted_none rfl) (v := Value.int .i64 (u - b)) (fun wr hwr => by simp only [execOp, (Fr17.eval 26 (by omega)).trans (show _ = Value.int .i64 u from by simp [upd, hs0, hs3]), (Fr17.eval 28 (by omega)).trans (show _ = Value.int .i64 b from by simp [upd, hs0, hs3])]; simp [go_sem, Act.eval, show IntKind.i64.wrap (u - b) = u - b from by rw [IntKind.wrap_i64]; omega]) fun Fr18 => ?_
    refine lyp Fr18 rfl hC rfl (by omega) (wanted_none rfl) (v := Value.pointer (some ⟨hb, 0, none⟩)) (fun wr hwr => by simp only [execOp, (Fr18.eval 22 (by omega)).trans (show _ = Value.pointer (some ⟨hb, 0, none⟩) from by simp [upd, hs0, hs3])]; first | rfl | simp [go_sem]) fun Fr19 => ?_
    refine lyp Fr19 rfl hC rfl (by omega) (wanted_none rfl) (v := Value.pointer (some ⟨hb, 0, none⟩)) (fun wr hwr => by simp only [execOp, (Fr19.eval 30 (by omega)).trans (show _ = Value.pointer (some ⟨hb, 0, none⟩) from by simp [upd, hs0, hs3])]; first | rfl | simp [go_sem]) fun Fr110 => ?_
    refine lyp Fr110 rfl hC rfl (by omega) (wanted_none rfl) (v := Value.pointer (some ⟨hb, 1, none⟩)) (fun wr hwr => by simp only [execOp, (Fr110.eval 31 (by omega)).trans (show _ = Value.pointer (some ⟨hb, 0, none⟩) from by simp [upd, hs0, hs3])]; first | rfl | simp [go_sem]) fun Fr111 => ?_
    refine lst rfl hC rfl (wanted_none rfl) (w1 := X1.setCell ⟨hb, 1, none⟩ (Value.int .i64 (u - b))) (by simp only [execOp, (Fr111.eval 32 (by omega)).trans (show _ = Value.pointer (some ⟨hb, 1, none⟩) from by simp [upd, hs0, hs3]), (Fr111.eval 29 (by omega)).trans (show _ = Value.int .i64 (u - b) from by simp [upd, hs0, hs3])]; simp [go_sem, hci1, hzi1]) ?_
    have hY1 := hX1.set 1 (Value.int .i64 (u - b))
    have hZ1 : Blk (X1.setCell ⟨hb, 1, none⟩ (Value.int .i64 (u - b))) hb (⟨d - a, u - b, x, c, n⟩ : LS).cs 82 := hY1
    have hM1 : Blk (X1.setCell ⟨hb, 1, none⟩ (Value.int .i64 (u - b))) w.heap.size #[.int .i64 a, .int .i64 b] 37 := (Stq.set hb 1 (Value.int .i64 (u - b)) X1).blk hN1 hne
    have hR1 : Stq hb w (X1.setCell ⟨hb, 1, none⟩ (Value.int .i64 (u - b))) := hQ1.trans (Stq.set hb 1 (Value.int .i64 (u - b)) X1)
    have hU1 : Stq hb Y0 (X1.setCell ⟨hb, 1, none⟩ (Value.int .i64 (u - b))) := hT1.trans (Stq.set hb 1 (Value.int .i64 (u - b)) X1)
    generalize X1.setCell ⟨hb, 1, none⟩ (Value.int .i64 (u - b)) = Y1 at *
    refine ⟨fun h => by omega, ?_⟩
    refine hK _ _ ?_
    clear F0 Fr11 Fr12 Fr13 Fr14 Fr15 Fr16 Fr17 Fr18 Fr19 Fr110 Fr111 hs0 hs3 hK hC hci1 hbi1 hzi1 hX1 hN1 hQ1 hT1 hY1
    simp only [Act.put, List.setIfInBounds_toArray, List.set_cons_succ, List.set_cons_zero]
    have hSa : Sen S L Y1 := HS2.out.below (hU1.below (Nat.le_trans hLw HQ1.out.size) hL)
    have htold := told_any Y1 hSa 0 (Or.inl rfl)
    rw [errV_0] at htold
    clear HS2 HB2 HN2 HQ1 hU1 hSa
    have HB2 : Hid _ := hZ1
    have HQ1 : Hid _ := hR1
    clear hZ1 hM1 hR1
    go_wp2_with fail
    refine htold.mono ?_
    rintro e2 w2 ⟨rfl, rfl⟩
    go_wp2_with fail
    go_ret
    exact ⟨rfl, HB2.out, HQ1.out⟩
  · rw [show s.onext a b = s from by unfold LS.onext; rw [if_neg hc]]
    obtain ⟨ad, had⟩ := errV_not S _ hc
    have hci := s.ocode_is a b
    rw [had] at hm
    generalize s.ocode a b = ec at *
    clear hc
    go_enter Tryz.func36, Tryz.ntmps36
    go_wp2_with (first | (refine wpList_load_row rfl 37 (.tmp 3) rfl w.heap.size rfl 37 _ (0, 0) _ hBn Tryz.underlying37 rfl (by kernel_rfl) ?_) | fail)
    refine hm.mono ?_
    rintro e1 W1 ⟨rfl, hb1⟩
    have hq1 : Stq hb w W1 := (Stq.ofBelow HG.out).trans (Stq.ofBelow hb1)
    have hS2 : Sen S L W1 := HS1.out.below (hb1.mono (Nat.le_trans hLw HG.out.size))
    have hB2 : Blk W1 hb s.cs 82 := Blk.below HB1.out hb1 (Blk.lt HB1.out)
    have hN2 : Blk W1 w.heap.size #[.int .i64 a, .int .i64 b] 37 := Blk.below HBn.out hb1 (Blk.lt HBn.out)
    clear hm hBn hb1 HG HS1 HB1 HBn
    have htold := told_any W1 hS2 _ hci
    rw [had] at htold
    have HB2 : Hid _ := hB2
    have HQ1 : Hid _ := hq1
    clear had hci hS2 hB2 hN2 hq1
    go_wp2_with fail
    refine htold.mono ?_
    rintro e2 w2 ⟨rfl, rfl⟩
    go_wp2_with fail
    go_ret
    exact ⟨rfl, HB2.out, HQ1.out⟩
end Go.Proofs.YtnphkmdanicemaaGreatDoor.Led

