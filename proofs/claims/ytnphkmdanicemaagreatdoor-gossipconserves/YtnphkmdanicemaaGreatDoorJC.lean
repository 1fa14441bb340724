import Derived.Test.YtnphkmdanicemaaGreatDoorJB
namespace Go.Proofs.YtnphkmdanicemaaGreatDoor.Led
open Go.RowKit Go.PlainAid
set_option linter.unusedVariables false
set_option linter.unusedSimpArgs false
set_option maxRecDepth 100000 in
set_option maxHeartbeats 3200000 in
theorem rin_any {hb : Nat} {s : LS} (w : World) (h : Blk w hb s.cs 122) (ho : s.Ok) (a b : Int) (ha : IntKind.i64.wrap a = a) (hb2 : IntKind.i64.wrap b = b) :
    Calls Tryz.prog 35 #[.pointer (some ⟨hb, 0, none⟩), .agg #[.int .i64 a, .int .i64 b]] w fun r w' => r = .returned (.int .i64 (s.icode a b)) ∧ Blk w' hb (s.inext a b).cs 122 ∧ Stq hb w w' := by
  have hgr : Below w.heap.size w (w.alloc (.cells #[.int .i64 a, .int .i64 b] 37)) := by go_grown
  have hB1 : Blk (w.alloc (.cells #[.int .i64 a, .int .i64 b] 37)) hb s.cs 122 := h.below hgr h.lt
  have hBn : Blk (w.alloc (.cells #[.int .i64 a, .int .i64 b] 37)) w.heap.size #[.int .i64 a, .int .i64 b] 37 := heap_alloc_new w _
  have hne : w.heap.size ≠ hb := Nat.ne_of_gt h.lt
  have k0 : (w.alloc (.cells #[.int .i64 a, .int .i64 b] 37)).cell? ⟨w.heap.size, 0, none⟩ = some (.int .i64 a) := hBn.cell 0
  have k1 : (w.alloc (.cells #[.int .i64 a, .int .i64 b] 37)).cell? ⟨w.heap.size, 1, none⟩ = some (.int .i64 b) := hBn.cell 1
  have c0 : (w.alloc (.cells #[.int .i64 a, .int .i64 b] 37)).cell? ⟨hb, 0, none⟩ = some (.int .i64 s.d) := hB1.cell 0
  have c1 : (w.alloc (.cells #[.int .i64 a, .int .i64 b] 37)).cell? ⟨hb, 1, none⟩ = some (.int .i64 s.u) := hB1.cell 1
  have c3 : (w.alloc (.cells #[.int .i64 a, .int .i64 b] 37)).cell? ⟨hb, 3, none⟩ = some (.int .i64 s.c) := hB1.cell 3
  have hall := fun q : Nat => rall_any ((w.alloc (.cells #[.int .i64 a, .int .i64 b] 37)).drewN q) (show Blk _ hb s.cs 122 from hB1) ho
  have HG : Hid _ := hgr
  have HB1 : Hid _ := hB1
  have HBn : Hid _ := hBn
  clear hgr hB1 hBn h
  unfold LS.inext LS.icode
  by_cases hn : a < 0 ∨ b < 0
  · rw [if_pos hn, if_neg (by decide)]
    clear hall c0 c1 c3 ho
    by_cases h1 : a < 0
    · go_enter Tryz.func35, Tryz.ntmps35
      go_wp2
      go_ret
      exact ⟨rfl, HB1.out, Stq.ofBelow HG.out⟩
    · have h2 : b < 0 := by omega
      go_enter Tryz.func35, Tryz.ntmps35
      go_wp2
      go_ret
      exact ⟨rfl, HB1.out, Stq.ofBelow HG.out⟩
  · have hpa : 0 ≤ a := by omega
    have hpb : 0 ≤ b := by omega
    rw [if_neg hn]
    have hso := ho
    obtain ⟨h1, h2, h3, h4, h5, h6⟩ := ho
    clear hn
    obtain ⟨d, u, x, c, n⟩ := s
    simp only at *
    have hm0 : (LS.mk d u x c n).all = d + u + x := rfl
    rw [hm0]
    simp only [hm0] at hall
    generalize hm : d + u + x = m at *
    have hmd : 0 ≤ m ∧ d + u ≤ m := by omega
    have e1 : IntKind.i64.wrap (c - m) = c - m := by rw [IntKind.wrap_i64]; omega
    clear hm0 hm hso
    by_cases hc : c - m < a + b
    · rw [if_pos hc, if_neg (by decide)]
      by_cases t1 : c - m < a
      · go_enter Tryz.func35, Tryz.ntmps35
        go_wp2
        go_quiet (first | (go_at_call 59; exact Calls.quiet_of (hall _)) | fail)
        go_wp2
        go_ret
        exact ⟨rfl, HB1.out, (Stq.ofBelow HG.out).drewN _⟩
      · have t2 : c - m - a < b := by omega
        have e2 : IntKind.i64.wrap (c - m - a) = c - m - a := by rw [IntKind.wrap_i64]; omega
        go_enter Tryz.func35, Tryz.ntmps35
        go_wp2
        go_quiet (first | (go_at_call 59; exact Calls.quiet_of (hall _)) | fail)
        go_wp2
        go_ret
        exact ⟨rfl, HB1.out, (Stq.ofBelow HG.out).drewN _⟩
    · rw [if_neg hc, if_pos rfl]
      have t1 : a ≤ c - m := by omega
      have t2 : b ≤ c - m - a := by omega
      have e2 : IntKind.i64.wrap (c - m - a) = c - m - a := by rw [IntKind.wrap_i64]; omega
      go_enter Tryz.func35, Tryz.ntmps35
      go_wp2
      go_quiet (first | (go_at_call 59; exact Calls.quiet_of (hall _)) | fail)
      go_wp2
      rename_i K hK
      try rw [show ∀ a : Act, a.put none undef = a from fun _ => rfl]
      have hX0 : Blk ({ ((w.alloc (.cells #[.int .i64 a, .int .i64 b] 37)).drewN nq) with drawn := ((w.alloc (.cells #[.int .i64 a, .int .i64 b] 37)).drewN nq).drawn + 1 } : World) hb (LS.mk d u x c n).cs 122 := HB1.out
      have hN0 : Blk ({ ((w.alloc (.cells #[.int .i64 a, .int .i64 b] 37)).drewN nq) with drawn := ((w.alloc (.cells #[.int .i64 a, .int .i64 b] 37)).drewN nq).drawn + 1 } : World) w.heap.size #[.int .i64 a, .int .i64 b] 37 := HBn.out
      have hQ0 : Stq hb w ({ ((w.alloc (.cells #[.int .i64 a, .int .i64 b] 37)).drewN nq) with drawn := ((w.alloc (.cells #[.int .i64 a, .int .i64 b] 37)).drewN nq).drawn + 1 } : World) := ⟨(((Stq.ofBelow HG.out : Stq hb w _).drewN nq)).os, (((Stq.ofBelow HG.out : Stq hb w _).drewN nq)).tape, (((Stq.ofBelow HG.out : Stq hb w _).drewN nq)).output, (((Stq.ofBelow HG.out : Stq hb w _).drewN nq)).size, (((Stq.ofBelow HG.out : Stq hb w _).drewN nq)).block⟩
      refine wp_region_mix (fun wr => wr.heap = ({ ((w.alloc (.cells #[.int .i64 a, .int .i64 b] 37)).drewN nq) with drawn := ((w.alloc (.cells #[.int .i64 a, .int .i64 b] 37)).drewN nq).drawn + 1 } : World).heap) (fun i => i == 12) 12 (by kernel_rfl) rfl (by kernel_rfl) (by kernel_rfl) (by kernel_rfl) ?_
      generalize ({ ((w.alloc (.cells #[.int .i64 a, .int .i64 b] 37)).drewN nq) with drawn := ((w.alloc (.cells #[.int .i64 a, .int .i64 b] 37)).drewN nq).drawn + 1 } : World) = X0 at *
      have hC : X0.heap = X0.heap := rfl
      have hci0 : X0.cell? ⟨hb, 0, none⟩ = some (.int .i64 d) := hX0.cell 0
      have hbi0 : X0.cell? ⟨w.heap.size, 0, none⟩ = some (.int .i64 a) := hN0.cell 0
      have hzi0 := hX0.frozen 0
      refine withFrP (N := 58) rfl ?_
      intro f0 F0 hff
      have hs0 : f0 0 = Value.pointer (some ⟨hb, 0, none⟩) := hff 0
      have hs3 : f0 3 = Value.pointer (some ⟨w.heap.size, 0, none⟩) := hff 3
      clear hff
      refine lyp F0 rfl hC rfl (by omega) (wanted_none rfl) (v := Value.pointer (some ⟨hb, 0, none⟩)) (fun wr hwr => by simp only [execOp, (F0.eval 0 (by omega)).trans (show _ = Value.pointer (some ⟨hb, 0, none⟩) from by simp [upd, hs0, hs3])]; first | rfl | simp [go_sem]) fun Fr01 => ?_
      refine lyp Fr01 rfl hC rfl (by omega) (wanted_none rfl) (v := Value.pointer (some ⟨hb, 0, none⟩)) (fun wr hwr => by simp only [execOp, (Fr01.eval 0 (by omega)).trans (show _ = Value.pointer (some ⟨hb, 0, none⟩) from by simp [upd, hs0, hs3])]; first | rfl | simp [go_sem]) fun Fr02 => ?_
      refine lyp Fr02 rfl hC rfl (by omega) (wanted_none rfl) (v := Value.pointer (some ⟨hb, 0, none⟩)) (fun wr hwr => by simp only [execOp, (Fr02.eval 35 (by omega)).trans (show _ = Value.pointer (some ⟨hb, 0, none⟩) from by simp [upd, hs0, hs3])]; first | rfl | simp [go_sem]) fun Fr03 => ?_
      refine lyp Fr03 rfl hC rfl (by omega) (wanted_none rfl) (v := Value.pointer (some ⟨hb, 0, none⟩)) (fun wr hwr => by simp only [execOp, (Fr03.eval 36 (by omega)).trans (show _ = Value.pointer (some ⟨hb, 0, none⟩) from by simp [upd, hs0, hs3])]; first | rfl | simp [go_sem]) fun Fr04 => ?_
      refine lyp Fr04 rfl hC rfl (by omega) (wanted_none rfl) (v := Value.pointer (some ⟨hb, 0, none⟩)) (fun wr hwr => by simp only [execOp, (Fr04.eval 37 (by omega)).trans (show _ = Value.pointer (some ⟨hb, 0, none⟩) from by simp [upd, hs0, hs3])]; simp [go_sem, Act.eval]) fun Fr05 => ?_
      refine lyp Fr05 rfl hC rfl (by omega) (wanted_none rfl) (v := Value.int .i64 d) (fun wr hwr => by simp only [execOp, (Fr05.eval 38 (by omega)).trans (show _ = Value.pointer (some ⟨hb, 0, none⟩) from by simp [upd, hs0, hs3])]; simp [go_sem, ((cell_heap hwr ⟨hb, 0, none⟩).trans hci0)]) fun Fr06 => ?_
      refine lyp Fr06 rfl hC rfl (by omega) (wanted_none rfl) (v := Value.pointer (some ⟨w.heap.size, 0, none⟩)) (fun wr hwr => by simp only [execOp, (Fr06.eval 3 (by omega)).trans (show _ = Value.pointer (some ⟨w.heap.size, 0, none⟩) from by simp [upd, hs0, hs3])]; first | rfl | simp [go_sem]) fun Fr07 => ?_
      refine lyp Fr07 rfl hC rfl (by omega) (wanted_none rfl) (v := Value.int .i64 a) (fun wr hwr => by simp only [execOp, (Fr07.eval 40 (by omega)).trans (show _ = Value.pointer (some ⟨w.heap.size, 0, none⟩) from by simp [upd, hs0, hs3])]; simp [go_sem, ((cell_heap hwr ⟨w.heap.size, 0, none⟩).trans hbi0)]) fun Fr08 => ?_
      refine lyp Fr08 rfl hC rfl (by omega) (wanted_none rfl) (v := Value.int .i64 (d + a)) (fun wr hwr => by simp only [execOp, (Fr08.eval 39 (by omega)).trans (show _ = Value.int .i64 d from by simp [upd, hs0, hs3]), (Fr08.eval 41 (by omega)).trans (show _ = Value.int .i64 a from by simp [upd, hs0, hs3])]; simp [go_sem, Act.eval, show IntKind.i64.wrap (d + a) = d + a from by rw [IntKind.wrap_i64]; omega]) fun Fr09 => ?_
      refine lyp Fr09 rfl hC rfl (by omega) (wanted_none rfl) (v := Value.pointer (some ⟨hb, 0, none⟩)) (fun wr hwr => by simp only [execOp, (Fr09.eval 34 (by omega)).trans (show _ = Value.pointer (some ⟨hb, 0, none⟩) from by simp [upd, hs0, hs3])]; first | rfl | simp [go_sem]) fun Fr010 => ?_
      refine lyp Fr010 rfl hC rfl (by omega) (wanted_none rfl) (v := Value.pointer (some ⟨hb, 0, none⟩)) (fun wr hwr => by simp only [execOp, (Fr010.eval 43 (by omega)).trans (show _ = Value.pointer (some ⟨hb, 0, none⟩) from by simp [upd, hs0, hs3])]; first | rfl | simp [go_sem]) fun Fr011 => ?_
      refine lyp Fr011 rfl hC rfl (by omega) (wanted_none rfl) (v := Value.pointer (some ⟨hb, 0, none⟩)) (fun wr hwr => by simp only [execOp, (Fr011.eval 44 (by omega)).trans (show _ = Value.pointer (some ⟨hb, 0, none⟩) from by simp [upd, hs0, hs3])]; simp [go_sem, Act.eval]) fun Fr012 => ?_
      refine lst rfl hC rfl (wanted_none rfl) (w1 := X0.setCell ⟨hb, 0, none⟩ (Value.int .i64 (d + a))) (by simp only [execOp, (Fr012.eval 45 (by omega)).trans (show _ = Value.pointer (some ⟨hb, 0, none⟩) from by simp [upd, hs0, hs3]), (Fr012.eval 42 (by omega)).trans (show _ = Value.int .i64 (d + a) from by simp [upd, hs0, hs3])]; simp [go_sem, hci0, hzi0]) ?_
      have hY0 := hX0.set 0 (Value.int .i64 (d + a))
      have hZ0 : Blk (X0.setCell ⟨hb, 0, none⟩ (Value.int .i64 (d + a))) hb (LS.mk (d + a) u x c n).cs 122 := hY0
      have hM0 : Blk (X0.setCell ⟨hb, 0, none⟩ (Value.int .i64 (d + a))) w.heap.size #[.int .i64 a, .int .i64 b] 37 := (Stq.set hb 0 (Value.int .i64 (d + a)) X0).blk hN0 hne
      have hR0 : Stq hb w (X0.setCell ⟨hb, 0, none⟩ (Value.int .i64 (d + a))) := hQ0.trans (Stq.set hb 0 (Value.int .i64 (d + a)) X0)
      generalize X0.setCell ⟨hb, 0, none⟩ (Value.int .i64 (d + a)) = Y0 at *
      refine ⟨fun h => by omega, ?_⟩
      refine hK _ _ ?_
      clear F0 Fr01 Fr02 Fr03 Fr04 Fr05 Fr06 Fr07 Fr08 Fr09 Fr010 Fr011 Fr012 hs0 hs3 hK hC hci0 hbi0 hzi0 hX0 hN0 hQ0 hY0
      simp only [Act.put, List.setIfInBounds_toArray, List.set_cons_succ, List.set_cons_zero]
      clear HB1 HBn HG k0 k1 c0 c1 c3
      have HB1 : Hid _ := hZ0
      have HBn : Hid _ := hM0
      have HQ : Hid _ := hR0
      clear hZ0 hM0 hR0
      go_wp2_with fail
      rename_i K hK
      try rw [show ∀ a : Act, a.put none undef = a from fun _ => rfl]
      have hX1 : Blk ({ Y0 with drawn := Y0.drawn + 1 } : World) hb (LS.mk (d + a) u x c n).cs 122 := HB1.out
      have hN1 : Blk ({ Y0 with drawn := Y0.drawn + 1 } : World) w.heap.size #[.int .i64 a, .int .i64 b] 37 := HBn.out
      have hQ1 : Stq hb w ({ Y0 with drawn := Y0.drawn + 1 } : World) := ⟨(HQ.out).os, (HQ.out).tape, (HQ.out).output, (HQ.out).size, (HQ.out).block⟩
      refine wp_region_mix (fun wr => wr.heap = ({ Y0 with drawn := Y0.drawn + 1 } : World).heap) (fun i => i == 12) 12 (by kernel_rfl) rfl (by kernel_rfl) (by kernel_rfl) (by kernel_rfl) ?_
      generalize ({ Y0 with drawn := Y0.drawn + 1 } : World) = X1 at *
      have hC : X1.heap = X1.heap := rfl
      have hci1 : X1.cell? ⟨hb, 1, none⟩ = some (.int .i64 u) := hX1.cell 1
      have hbi1 : X1.cell? ⟨w.heap.size, 1, none⟩ = some (.int .i64 b) := hN1.cell 1
      have hzi1 := hX1.frozen 1
      refine withFrP (N := 58) rfl ?_
      intro f0 F0 hff
      have hs0 : f0 0 = Value.pointer (some ⟨hb, 0, none⟩) := hff 0
      have hs3 : f0 3 = Value.pointer (some ⟨w.heap.size, 0, none⟩) := hff 3
      clear hff
      refine lyp F0 rfl hC rfl (by omega) (wanted_none rfl) (v := Value.pointer (some ⟨hb, 0, none⟩)) (fun wr hwr => by simp only [execOp, (F0.eval 0 (by omega)).trans (show _ = Value.pointer (some ⟨hb, 0, none⟩) from by simp [upd, hs0, hs3])]; first | rfl | simp [go_sem]) fun Fr11 => ?_
      refine lyp Fr11 rfl hC rfl (by omega) (wanted_none rfl) (v := Value.pointer (some ⟨hb, 0, none⟩)) (fun wr hwr => by simp only [execOp, (Fr11.eval 0 (by omega)).trans (show _ = Value.pointer (some ⟨hb, 0, none⟩) from by simp [upd, hs0, hs3])]; first | rfl | simp [go_sem]) fun Fr12 => ?_
      refine lyp Fr12 rfl hC rfl (by omega) (wanted_none rfl) (v := Value.pointer (some ⟨hb, 0, none⟩)) (fun wr hwr => by simp only [execOp, (Fr12.eval 47 (by omega)).trans (show _ = Value.pointer (some ⟨hb, 0, none⟩) from by simp [upd, hs0, hs3])]; first | rfl | simp [go_sem]) fun Fr13 => ?_
      refine lyp Fr13 rfl hC rfl (by omega) (wanted_none rfl) (v := Value.pointer (some ⟨hb, 0, none⟩)) (fun wr hwr => by simp only [execOp, (Fr13.eval 48 (by omega)).trans (show _ = Value.pointer (some ⟨hb, 0, none⟩) from by simp [upd, hs0, hs3])]; first | rfl | simp [go_sem]) fun Fr14 => ?_
      refine lyp Fr14 rfl hC rfl (by omega) (wanted_none rfl) (v := Value.pointer (some ⟨hb, 1, none⟩)) (fun wr hwr => by simp only [execOp, (Fr14.eval 49 (by omega)).trans (show _ = Value.pointer (some ⟨hb, 0, none⟩) from by simp [upd, hs0, hs3])]; simp [go_sem, Act.eval]) fun Fr15 => ?_
      refine lyp Fr15 rfl hC rfl (by omega) (wanted_none rfl) (v := Value.int .i64 u) (fun wr hwr => by simp only [execOp, (Fr15.eval 50 (by omega)).trans (show _ = Value.pointer (some ⟨hb, 1, none⟩) from by simp [upd, hs0, hs3])]; simp [go_sem, ((cell_heap hwr ⟨hb, 1, none⟩).trans hci1)]) fun Fr16 => ?_
      refine lyp Fr16 rfl hC rfl (by omega) (wanted_none rfl) (v := Value.pointer (some ⟨w.heap.size, 1, none⟩)) (fun wr hwr => by simp only [execOp, (Fr16.eval 3 (by omega)).trans (show _ = Value.pointer (some ⟨w.heap.size, 0, none⟩) from by simp [upd, hs0, hs3])]; first | rfl | simp [go_sem]) fun Fr17 => ?_
      refine lyp Fr17 rfl hC rfl (by omega) (wanted_none rfl) (v := Value.int .i64 b) (fun wr hwr => by simp only [execOp, (Fr17.eval 52 (by omega)).trans (show _ = Value.pointer (some ⟨w.heap.size, 1, none⟩) from by simp [upd, hs0, hs3])]; simp [go_sem, ((cell_heap hwr ⟨w.heap.size, 1, none⟩).trans hbi1)]) fun Fr18 => ?_
      refine lyp Fr18 rfl hC rfl (by omega) (wanted_none rfl) (v := Value.int .i64 (u + b)) (fun wr hwr => by simp only [execOp, (Fr18.eval 51 (by omega)).trans (show _ = Value.int .i64 u from by simp [upd, hs0, hs3]), (Fr18.eval 53 (by omega)).trans (show _ = Value.int .i64 b from by simp [upd, hs0, hs3])]; simp [go_sem, Act.eval, show IntKind.i64.wrap (u + b) = u + b from by rw [IntKind.wrap_i64]; omega]) fun Fr19 => ?_
      refine lyp Fr19 rfl hC rfl (by omega) (wanted_none rfl) (v := Value.pointer (some ⟨hb, 0, none⟩)) (fun wr hwr => by simp only [execOp, (Fr19.eval 46 (by omega)).trans (show _ = Value.pointer (some ⟨hb, 0, none⟩) from by simp [upd, hs0, hs3])]; first | rfl | simp [go_sem]) fun Fr110 => ?_
      refine lyp Fr110 rfl hC rfl (by omega) (wanted_none rfl) (v := Value.pointer (some ⟨hb, 0, none⟩)) (fun wr hwr => by simp only [execOp, (Fr110.eval 55 (by omega)).trans (show _ = Value.pointer (some ⟨hb, 0, none⟩) from by simp [upd, hs0, hs3])]; first | rfl | simp [go_sem]) fun Fr111 => ?_
      refine lyp Fr111 rfl hC rfl (by omega) (wanted_none rfl) (v := Value.pointer (some ⟨hb, 1, none⟩)) (fun wr hwr => by simp only [execOp, (Fr111.eval 56 (by omega)).trans (show _ = Value.pointer (some ⟨hb, 0, none⟩) from by simp [upd, hs0, hs3])]; simp [go_sem, Act.eval]) fun Fr112 => ?_
      refine lst rfl hC rfl (wanted_none rfl) (w1 := X1.setCell ⟨hb, 1, none⟩ (Value.int .i64 (u + b))) (by simp only [execOp, (Fr112.eval 57 (by omega)).trans (show _ = Value.pointer (some ⟨hb, 1, none⟩) from by simp [upd, hs0, hs3]), (Fr112.eval 54 (by omega)).trans (show _ = Value.int .i64 (u + b) from by simp [upd, hs0, hs3])]; simp [go_sem, hci1, hzi1]) ?_
      have hY1 := hX1.set 1 (Value.int .i64 (u + b))
      have hZ1 : Blk (X1.setCell ⟨hb, 1, none⟩ (Value.int .i64 (u + b))) hb (LS.mk (d + a) (u + b) x c n).cs 122 := hY1
      have hM1 : Blk (X1.setCell ⟨hb, 1, none⟩ (Value.int .i64 (u + b))) w.heap.size #[.int .i64 a, .int .i64 b] 37 := (Stq.set hb 1 (Value.int .i64 (u + b)) X1).blk hN1 hne
      have hR1 : Stq hb w (X1.setCell ⟨hb, 1, none⟩ (Value.int .i64 (u + b))) := hQ1.trans (Stq.set hb 1 (Value.int .i64 (u + b)) X1)
      generalize X1.setCell ⟨hb, 1, none⟩ (Value.int .i64 (u + b)) = Y1 at *
      refine ⟨fun h => by omega, ?_⟩
      refine hK _ _ ?_
      clear F0 Fr11 Fr12 Fr13 Fr14 Fr15 Fr16 Fr17 Fr18 Fr19 Fr110 Fr111 Fr112 hs0 hs3 hK hC hci1 hbi1 hzi1 hX1 hN1 hQ1 hY1
      simp only [Act.put, List.setIfInBounds_toArray, List.set_cons_succ, List.set_cons_zero]
      clear HB1 HBn HQ
      have HB1 : Hid _ := hZ1
      have HQ : Hid _ := hR1
      clear hZ1 hM1 hR1
      go_wp2_with fail
      go_ret
      exact ⟨rfl, HB1.out, HQ.out⟩
set_option maxRecDepth 100000 in
set_option maxHeartbeats 3200000 in
theorem rout_any {hb : Nat} {s : LS} (w : World) (h : Blk w hb s.cs 122) (ho : s.Ok) (a b : Int) :
    Calls Tryz.prog 37 #[.pointer (some ⟨hb, 0, none⟩), .agg #[.int .i64 a, .int .i64 b]] w fun r w' => r = .returned (.int .i64 (s.ocode a b)) ∧ Blk w' hb (s.onext a b).cs 122 ∧ Stq hb w w' := by
  have hgr : Below w.heap.size w (w.alloc (.cells #[.int .i64 a, .int .i64 b] 37)) := by go_grown
  have hB1 : Blk (w.alloc (.cells #[.int .i64 a, .int .i64 b] 37)) hb s.cs 122 := h.below hgr h.lt
  have hBn : Blk (w.alloc (.cells #[.int .i64 a, .int .i64 b] 37)) w.heap.size #[.int .i64 a, .int .i64 b] 37 := heap_alloc_new w _
  have hne : w.heap.size ≠ hb := Nat.ne_of_gt h.lt
  have k0 : (w.alloc (.cells #[.int .i64 a, .int .i64 b] 37)).cell? ⟨w.heap.size, 0, none⟩ = some (.int .i64 a) := hBn.cell 0
  have k1 : (w.alloc (.cells #[.int .i64 a, .int .i64 b] 37)).cell? ⟨w.heap.size, 1, none⟩ = some (.int .i64 b) := hBn.cell 1
  have c0 : (w.alloc (.cells #[.int .i64 a, .int .i64 b] 37)).cell? ⟨hb, 0, none⟩ = some (.int .i64 s.d) := hB1.cell 0
  have c1 : (w.alloc (.cells #[.int .i64 a, .int .i64 b] 37)).cell? ⟨hb, 1, none⟩ = some (.int .i64 s.u) := hB1.cell 1
  have c3 : (w.alloc (.cells #[.int .i64 a, .int .i64 b] 37)).cell? ⟨hb, 3, none⟩ = some (.int .i64 s.c) := hB1.cell 3
  have hall := fun q : Nat => rall_any ((w.alloc (.cells #[.int .i64 a, .int .i64 b] 37)).drewN q) (show Blk _ hb s.cs 122 from hB1) ho
  have HG : Hid _ := hgr
  have HB1 : Hid _ := hB1
  have HBn : Hid _ := hBn
  clear hgr hB1 hBn h
  unfold LS.onext LS.ocode
  by_cases hn : a < 0 ∨ b < 0
  · rw [if_pos hn, if_neg (by decide)]
    clear hall c0 c1 c3 ho
    by_cases h1 : a < 0
    · go_enter Tryz.func37, Tryz.ntmps37
      go_wp2
      go_ret
      exact ⟨rfl, HB1.out, Stq.ofBelow HG.out⟩
    · have h2 : b < 0 := by omega
      go_enter Tryz.func37, Tryz.ntmps37
      go_wp2
      go_ret
      exact ⟨rfl, HB1.out, Stq.ofBelow HG.out⟩
  · have hpa : 0 ≤ a := by omega
    have hpb : 0 ≤ b := by omega
    rw [if_neg hn]
    have hso := ho
    obtain ⟨h1, h2, h3, h4, h5, h6⟩ := ho
    clear hn
    obtain ⟨d, u, x, c, n⟩ := s
    simp only at *
    clear hso hall
    by_cases t1 : d < a
    · rw [if_pos (Or.inl t1), if_neg (by decide)]
      have g1 : decide (d < a) = true := by simpa using t1
      go_enter Tryz.func37, Tryz.ntmps37
      go_wp2
      go_quiet (fail)
      go_wp2
      go_ret
      exact ⟨rfl, HB1.out, (Stq.ofBelow HG.out).drewN _⟩
    · have g1 : decide (d < a) = false := by simpa using t1
      by_cases t2 : u < b
      · rw [if_pos (Or.inr t2), if_neg (by decide)]
        have g2 : decide (u < b) = true := by simpa using t2
        go_enter Tryz.func37, Tryz.ntmps37
        go_wp2
        go_quiet (fail)
        go_wp2
        go_ret
        exact ⟨rfl, HB1.out, (Stq.ofBelow HG.out).drewN _⟩
      · rw [if_neg (by omega), if_pos rfl]
        have g2 : decide (u < b) = false := by simpa using t2
        go_enter Tryz.func37, Tryz.ntmps37
        go_wp2
        go_quiet (fail)
        go_wp2
        rename_i K hK
        try rw [show ∀ a : Act, a.put none undef = a from fun _ => rfl]
        have hX0 : Blk ({ ((w.alloc (.cells #[.int .i64 a, .int .i64 b] 37)).drewN nq) with drawn := ((w.alloc (.cells #[.int .i64 a, .int .i64 b] 37)).drewN nq).drawn + 1 } : World) hb (LS.mk d u x c n).cs 122 := HB1.out
        have hN0 : Blk ({ ((w.alloc (.cells #[.int .i64 a, .int .i64 b] 37)).drewN nq) with drawn := ((w.alloc (.cells #[.int .i64 a, .int .i64 b] 37)).drewN nq).drawn + 1 } : World) w.heap.size #[.int .i64 a, .int .i64 b] 37 := HBn.out
        have hQ0 : Stq hb w ({ ((w.alloc (.cells #[.int .i64 a, .int .i64 b] 37)).drewN nq) with drawn := ((w.alloc (.cells #[.int .i64 a, .int .i64 b] 37)).drewN nq).drawn + 1 } : World) := ⟨(((Stq.ofBelow HG.out : Stq hb w _).drewN nq)).os, (((Stq.ofBelow HG.out : Stq hb w _).drewN nq)).tape, (((Stq.ofBelow HG.out : Stq hb w _).drewN nq)).output, (((Stq.ofBelow HG.out : Stq hb w _).drewN nq)).size, (((Stq.ofBelow HG.out : Stq hb w _).drewN nq)).block⟩
        refine wp_region_mix (fun wr => wr.heap = ({ ((w.alloc (.cells #[.int .i64 a, .int .i64 b] 37)).drewN nq) with drawn := ((w.alloc (.cells #[.int .i64 a, .int .i64 b] 37)).drewN nq).drawn + 1 } : World).heap) (fun i => i == 12) 12 (by kernel_rfl) rfl (by kernel_rfl) (by kernel_rfl) (by kernel_rfl) ?_
        generalize ({ ((w.alloc (.cells #[.int .i64 a, .int .i64 b] 37)).drewN nq) with drawn := ((w.alloc (.cells #[.int .i64 a, .int .i64 b] 37)).drewN nq).drawn + 1 } : World) = X0 at *
        have hC : X0.heap = X0.heap := rfl
        have hci0 : X0.cell? ⟨hb, 0, none⟩ = some (.int .i64 d) := hX0.cell 0
        have hbi0 : X0.cell? ⟨w.heap.size, 0, none⟩ = some (.int .i64 a) := hN0.cell 0
        have hzi0 := hX0.frozen 0
        refine withFrP (N := 55) rfl ?_
        intro f0 F0 hff
        have hs0 : f0 0 = Value.pointer (some ⟨hb, 0, none⟩) := hff 0
        have hs3 : f0 3 = Value.pointer (some ⟨w.heap.size, 0, none⟩) := hff 3
        clear hff
        refine lyp F0 rfl hC rfl (by omega) (wanted_none rfl) (v := Value.pointer (some ⟨hb, 0, none⟩)) (fun wr hwr => by simp only [execOp, (F0.eval 0 (by omega)).trans (show _ = Value.pointer (some ⟨hb, 0, none⟩) from by simp [upd, hs0, hs3])]; first | rfl | simp [go_sem]) fun Fr01 => ?_
        refine lyp Fr01 rfl hC rfl (by omega) (wanted_none rfl) (v := Value.pointer (some ⟨hb, 0, none⟩)) (fun wr hwr => by simp only [execOp, (Fr01.eval 0 (by omega)).trans (show _ = Value.pointer (some ⟨hb, 0, none⟩) from by simp [upd, hs0, hs3])]; first | rfl | simp [go_sem]) fun Fr02 => ?_
        refine lyp Fr02 rfl hC rfl (by omega) (wanted_none rfl) (v := Value.pointer (some ⟨hb, 0, none⟩)) (fun wr hwr => by simp only [execOp, (Fr02.eval 32 (by omega)).trans (show _ = Value.pointer (some ⟨hb, 0, none⟩) from by simp [upd, hs0, hs3])]; first | rfl | simp [go_sem]) fun Fr03 => ?_
        refine lyp Fr03 rfl hC rfl (by omega) (wanted_none rfl) (v := Value.pointer (some ⟨hb, 0, none⟩)) (fun wr hwr => by simp only [execOp, (Fr03.eval 33 (by omega)).trans (show _ = Value.pointer (some ⟨hb, 0, none⟩) from by simp [upd, hs0, hs3])]; first | rfl | simp [go_sem]) fun Fr04 => ?_
        refine lyp Fr04 rfl hC rfl (by omega) (wanted_none rfl) (v := Value.pointer (some ⟨hb, 0, none⟩)) (fun wr hwr => by simp only [execOp, (Fr04.eval 34 (by omega)).trans (show _ = Value.pointer (some ⟨hb, 0, none⟩) from by simp [upd, hs0, hs3])]; simp [go_sem, Act.eval]) fun Fr05 => ?_
        refine lyp Fr05 rfl hC rfl (by omega) (wanted_none rfl) (v := Value.int .i64 d) (fun wr hwr => by simp only [execOp, (Fr05.eval 35 (by omega)).trans (show _ = Value.pointer (some ⟨hb, 0, none⟩) from by simp [upd, hs0, hs3])]; simp [go_sem, ((cell_heap hwr ⟨hb, 0, none⟩).trans hci0)]) fun Fr06 => ?_
        refine lyp Fr06 rfl hC rfl (by omega) (wanted_none rfl) (v := Value.pointer (some ⟨w.heap.size, 0, none⟩)) (fun wr hwr => by simp only [execOp, (Fr06.eval 3 (by omega)).trans (show _ = Value.pointer (some ⟨w.heap.size, 0, none⟩) from by simp [upd, hs0, hs3])]; first | rfl | simp [go_sem]) fun Fr07 => ?_
        refine lyp Fr07 rfl hC rfl (by omega) (wanted_none rfl) (v := Value.int .i64 a) (fun wr hwr => by simp only [execOp, (Fr07.eval 37 (by omega)).trans (show _ = Value.pointer (some ⟨w.heap.size, 0, none⟩) from by simp [upd, hs0, hs3])]; simp [go_sem, ((cell_heap hwr ⟨w.heap.size, 0, none⟩).trans hbi0)]) fun Fr08 => ?_
        refine lyp Fr08 rfl hC rfl (by omega) (wanted_none rfl) (v := Value.int .i64 (d - a)) (fun wr hwr => by simp only [execOp, (Fr08.eval 36 (by omega)).trans (show _ = Value.int .i64 d from by simp [upd, hs0, hs3]), (Fr08.eval 38 (by omega)).trans (show _ = Value.int .i64 a from by simp [upd, hs0, hs3])]; simp [go_sem, Act.eval, show IntKind.i64.wrap (d - a) = d - a from by rw [IntKind.wrap_i64]; omega]) fun Fr09 => ?_
        refine lyp Fr09 rfl hC rfl (by omega) (wanted_none rfl) (v := Value.pointer (some ⟨hb, 0, none⟩)) (fun wr hwr => by simp only [execOp, (Fr09.eval 31 (by omega)).trans (show _ = Value.pointer (some ⟨hb, 0, none⟩) from by simp [upd, hs0, hs3])]; first | rfl | simp [go_sem]) fun Fr010 => ?_
        refine lyp Fr010 rfl hC rfl (by omega) (wanted_none rfl) (v := Value.pointer (some ⟨hb, 0, none⟩)) (fun wr hwr => by simp only [execOp, (Fr010.eval 40 (by omega)).trans (show _ = Value.pointer (some ⟨hb, 0, none⟩) from by simp [upd, hs0, hs3])]; first | rfl | simp [go_sem]) fun Fr011 => ?_
        refine lyp Fr011 rfl hC rfl (by omega) (wanted_none rfl) (v := Value.pointer (some ⟨hb, 0, none⟩)) (fun wr hwr => by simp only [execOp, (Fr011.eval 41 (by omega)).trans (show _ = Value.pointer (some ⟨hb, 0, none⟩) from by simp [upd, hs0, hs3])]; simp [go_sem, Act.eval]) fun Fr012 => ?_
        refine lst rfl hC rfl (wanted_none rfl) (w1 := X0.setCell ⟨hb, 0, none⟩ (Value.int .i64 (d - a))) (by simp only [execOp, (Fr012.eval 42 (by omega)).trans (show _ = Value.pointer (some ⟨hb, 0, none⟩) from by simp [upd, hs0, hs3]), (Fr012.eval 39 (by omega)).trans (show _ = Value.int .i64 (d - a) from by simp [upd, hs0, hs3])]; simp [go_sem, hci0, hzi0]) ?_
        have hY0 := hX0.set 0 (Value.int .i64 (d - a))
        have hZ0 : Blk (X0.setCell ⟨hb, 0, none⟩ (Value.int .i64 (d - a))) hb (LS.mk (d - a) u x c n).cs 122 := hY0
        have hM0 : Blk (X0.setCell ⟨hb, 0, none⟩ (Value.int .i64 (d - a))) w.heap.size #[.int .i64 a, .int .i64 b] 37 := (Stq.set hb 0 (Value.int .i64 (d - a)) X0).blk hN0 hne
        have hR0 : Stq hb w (X0.setCell ⟨hb, 0, none⟩ (Value.int .i64 (d - a))) := hQ0.trans (Stq.set hb 0 (Value.int .i64 (d - a)) X0)
        generalize X0.setCell ⟨hb, 0, none⟩ (Value.int .i64 (d - a)) = Y0 at *
        refine ⟨fun h => by omega, ?_⟩
        refine hK _ _ ?_
        clear F0 Fr01 Fr02 Fr03 Fr04 Fr05 Fr06 Fr07 Fr08 Fr09 Fr010 Fr011 Fr012 hs0 hs3 hK hC hci0 hbi0 hzi0 hX0 hN0 hQ0 hY0
        simp only [Act.put, List.setIfInBounds_toArray, List.set_cons_succ, List.set_cons_zero]
        clear HB1 HBn HG k0 k1 c0 c1 c3
        have HB1 : Hid _ := hZ0
        have HBn : Hid _ := hM0
        have HQ : Hid _ := hR0
        clear hZ0 hM0 hR0
        go_wp2_with fail
        rename_i K hK
        try rw [show ∀ a : Act, a.put none undef = a from fun _ => rfl]
        have hX1 : Blk ({ Y0 with drawn := Y0.drawn + 1 } : World) hb (LS.mk (d - a) u x c n).cs 122 := HB1.out
        have hN1 : Blk ({ Y0 with drawn := Y0.drawn + 1 } : World) w.heap.size #[.int .i64 a, .int .i64 b] 37 := HBn.out
        have hQ1 : Stq hb w ({ Y0 with drawn := Y0.drawn + 1 } : World) := ⟨(HQ.out).os, (HQ.out).tape, (HQ.out).output, (HQ.out).size, (HQ.out).block⟩
        refine wp_region_mix (fun wr => wr.heap = ({ Y0 with drawn := Y0.drawn + 1 } : World).heap) (fun i => i == 12) 12 (by kernel_rfl) rfl (by kernel_rfl) (by kernel_rfl) (by kernel_rfl) ?_
        generalize ({ Y0 with drawn := Y0.drawn + 1 } : World) = X1 at *
        have hC : X1.heap = X1.heap := rfl
        have hci1 : X1.cell? ⟨hb, 1, none⟩ = some (.int .i64 u) := hX1.cell 1
        have hbi1 : X1.cell? ⟨w.heap.size, 1, none⟩ = some (.int .i64 b) := hN1.cell 1
        have hzi1 := hX1.frozen 1
        refine withFrP (N := 55) rfl ?_
        intro f0 F0 hff
        have hs0 : f0 0 = Value.pointer (some ⟨hb, 0, none⟩) := hff 0
        have hs3 : f0 3 = Value.pointer (some ⟨w.heap.size, 0, none⟩) := hff 3
        clear hff
        refine lyp F0 rfl hC rfl (by omega) (wanted_none rfl) (v := Value.pointer (some ⟨hb, 0, none⟩)) (fun wr hwr => by simp only [execOp, (F0.eval 0 (by omega)).trans (show _ = Value.pointer (some ⟨hb, 0, none⟩) from by simp [upd, hs0, hs3])]; first | rfl | simp [go_sem]) fun Fr11 => ?_
        refine lyp Fr11 rfl hC rfl (by omega) (wanted_none rfl) (v := Value.pointer (some ⟨hb, 0, none⟩)) (fun wr hwr => by simp only [execOp, (Fr11.eval 0 (by omega)).trans (show _ = Value.pointer (some ⟨hb, 0, none⟩) from by simp [upd, hs0, hs3])]; first | rfl | simp [go_sem]) fun Fr12 => ?_
        refine lyp Fr12 rfl hC rfl (by omega) (wanted_none rfl) (v := Value.pointer (some ⟨hb, 0, none⟩)) (fun wr hwr => by simp only [execOp, (Fr12.eval 44 (by omega)).trans (show _ = Value.pointer (some ⟨hb, 0, none⟩) from by simp [upd, hs0, hs3])]; first | rfl | simp [go_sem]) fun Fr13 => ?_
        refine lyp Fr13 rfl hC rfl (by omega) (wanted_none rfl) (v := Value.pointer (some ⟨hb, 0, none⟩)) (fun wr hwr => by simp only [execOp, (Fr13.eval 45 (by omega)).trans (show _ = Value.pointer (some ⟨hb, 0, none⟩) from by simp [upd, hs0, hs3])]; first | rfl | simp [go_sem]) fun Fr14 => ?_
        refine lyp Fr14 rfl hC rfl (by omega) (wanted_none rfl) (v := Value.pointer (some ⟨hb, 1, none⟩)) (fun wr hwr => by simp only [execOp, (Fr14.eval 46 (by omega)).trans (show _ = Value.pointer (some ⟨hb, 0, none⟩) from by simp [upd, hs0, hs3])]; simp [go_sem, Act.eval]) fun Fr15 => ?_
        refine lyp Fr15 rfl hC rfl (by omega) (wanted_none rfl) (v := Value.int .i64 u) (fun wr hwr => by simp only [execOp, (Fr15.eval 47 (by omega)).trans (show _ = Value.pointer (some ⟨hb, 1, none⟩) from by simp [upd, hs0, hs3])]; simp [go_sem, ((cell_heap hwr ⟨hb, 1, none⟩).trans hci1)]) fun Fr16 => ?_
        refine lyp Fr16 rfl hC rfl (by omega) (wanted_none rfl) (v := Value.pointer (some ⟨w.heap.size, 1, none⟩)) (fun wr hwr => by simp only [execOp, (Fr16.eval 3 (by omega)).trans (show _ = Value.pointer (some ⟨w.heap.size, 0, none⟩) from by simp [upd, hs0, hs3])]; first | rfl | simp [go_sem]) fun Fr17 => ?_
        refine lyp Fr17 rfl hC rfl (by omega) (wanted_none rfl) (v := Value.int .i64 b) (fun wr hwr => by simp only [execOp, (Fr17.eval 49 (by omega)).trans (show _ = Value.pointer (some ⟨w.heap.size, 1, none⟩) from by simp [upd, hs0, hs3])]; simp [go_sem, ((cell_heap hwr ⟨w.heap.size, 1, none⟩).trans hbi1)]) fun Fr18 => ?_
        refine lyp Fr18 rfl hC rfl (by omega) (wanted_none rfl) (v := Value.int .i64 (u - b)) (fun wr hwr => by simp only [execOp, (Fr18.eval 48 (by omega)).trans (show _ = Value.int .i64 u from by simp [upd, hs0, hs3]), (Fr18.eval 50 (by omega)).trans (show _ = Value.int .i64 b from by simp [upd, hs0, hs3])]; simp [go_sem, Act.eval, show IntKind.i64.wrap (u - b) = u - b from by rw [IntKind.wrap_i64]; omega]) fun Fr19 => ?_
        refine lyp Fr19 rfl hC rfl (by omega) (wanted_none rfl) (v := Value.pointer (some ⟨hb, 0, none⟩)) (fun wr hwr => by simp only [execOp, (Fr19.eval 43 (by omega)).trans (show _ = Value.pointer (some ⟨hb, 0, none⟩) from by simp [upd, hs0, hs3])]; first | rfl | simp [go_sem]) fun Fr110 => ?_
        refine lyp Fr110 rfl hC rfl (by omega) (wanted_none rfl) (v := Value.pointer (some ⟨hb, 0, none⟩)) (fun wr hwr => by simp only [execOp, (Fr110.eval 52 (by omega)).trans (show _ = Value.pointer (some ⟨hb, 0, none⟩) from by simp [upd, hs0, hs3])]; first | rfl | simp [go_sem]) fun Fr111 => ?_
        refine lyp Fr111 rfl hC rfl (by omega) (wanted_none rfl) (v := Value.pointer (some ⟨hb, 1, none⟩)) (fun wr hwr => by simp only [execOp, (Fr111.eval 53 (by omega)).trans (show _ = Value.pointer (some ⟨hb, 0, none⟩) from by simp [upd, hs0, hs3])]; simp [go_sem, Act.eval]) fun Fr112 => ?_
        refine lst rfl hC rfl (wanted_none rfl) (w1 := X1.setCell ⟨hb, 1, none⟩ (Value.int .i64 (u - b))) (by simp only [execOp, (Fr112.eval 54 (by omega)).trans (show _ = Value.pointer (some ⟨hb, 1, none⟩) from by simp [upd, hs0, hs3]), (Fr112.eval 51 (by omega)).trans (show _ = Value.int .i64 (u - b) from by simp [upd, hs0, hs3])]; simp [go_sem, hci1, hzi1]) ?_
        have hY1 := hX1.set 1 (Value.int .i64 (u - b))
        have hZ1 : Blk (X1.setCell ⟨hb, 1, none⟩ (Value.int .i64 (u - b))) hb (LS.mk (d - a) (u - b) x c n).cs 122 := hY1
        have hM1 : Blk (X1.setCell ⟨hb, 1, none⟩ (Value.int .i64 (u - b))) w.heap.size #[.int .i64 a, .int .i64 b] 37 := (Stq.set hb 1 (Value.int .i64 (u - b)) X1).blk hN1 hne
        have hR1 : Stq hb w (X1.setCell ⟨hb, 1, none⟩ (Value.int .i64 (u - b))) := hQ1.trans (Stq.set hb 1 (Value.int .i64 (u - b)) X1)
        generalize X1.setCell ⟨hb, 1, none⟩ (Value.int .i64 (u - b)) = Y1 at *
        refine ⟨fun h => by omega, ?_⟩
        refine hK _ _ ?_
        clear F0 Fr11 Fr12 Fr13 Fr14 Fr15 Fr16 Fr17 Fr18 Fr19 Fr110 Fr111 Fr112 hs0 hs3 hK hC hci1 hbi1 hzi1 hX1 hN1 hQ1 hY1
        simp only [Act.put, List.setIfInBounds_toArray, List.set_cons_succ, List.set_cons_zero]
        clear HB1 HBn HQ
        have HB1 : Hid _ := hZ1
        have HQ : Hid _ := hR1
        clear hZ1 hM1 hR1
        go_wp2_with fail
        go_ret
        exact ⟨rfl, HB1.out, HQ.out⟩
end Go.Proofs.YtnphkmdanicemaaGreatDoor.Led

namespace Go.Proofs.YtnphkmdanicemaaGreatDoor.Led
open Go.RowKit Go.PlainAid
set_option linter.unusedVariables false
set_option linter.unusedSimpArgs false
theorem Stq.more {hb : Nat} {w v z : World} (h : Stq hb w v) (k : Below w.heap.size v z) : Stq hb w z :=
  ⟨k.os.trans h.os, k.tape.trans h.tape, k.output.trans h.output, Nat.le_trans h.size k.size, fun j hj hn => (k.block j hj).trans (h.block j hj hn)⟩
/-- From which kind, to which. -/
def fromOf (kind : Int) : Nat := if kind = 1 then 0 else if kind = 2 then 1 else if kind = 3 then 0 else 2
def toOf (kind : Int) : Nat := if kind = 1 then 1 else if kind = 2 then 0 else if kind = 3 then 2 else if kind = 4 then 0 else 1
theorem from_lt (kind : Int) : fromOf kind < 3 := by
  unfold fromOf
  repeat' split
  all_goals omega
theorem to_lt (kind : Int) : toOf kind < 3 := by
  unfold toOf
  repeat' split
  all_goals omega
theorem fromto (kind : Int) : fromOf kind ≠ toOf kind := by
  unfold fromOf toOf
  by_cases h1 : kind = 1
  · simp [h1]
  · by_cases h2 : kind = 2
    · simp [h2]
    · by_cases h3 : kind = 3
      · simp [h3]
      · by_cases h4 : kind = 4
        · simp [h4]
        · simp [h1, h2, h3, h4]
set_option maxRecDepth 100000 in
set_option maxHeartbeats 800000 in
theorem same_any (a b c d : Int) (w : World) : Calls Tryz.prog 15 #[.agg #[.int .i64 a, .int .i64 b], .agg #[.int .i64 c, .int .i64 d]] w fun r w' => r = .returned (.bool (a == c && b == d)) ∧ Below w.heap.size w w' := by
  have hgr : Below w.heap.size w ((w.alloc (.cells #[.int .i64 a, .int .i64 b] 37)).alloc (.cells #[.int .i64 c, .int .i64 d] 37)) := by go_grown
  have HG : Hid _ := hgr
  clear hgr
  by_cases h1 : a = c
  · subst h1
    go_enter Tryz.func15, Tryz.ntmps15
    go_wp2
    go_ret
    exact ⟨ret_bool (by simp), HG.out⟩
  · go_enter Tryz.func15, Tryz.ntmps15
    go_wp2
    go_ret
    exact ⟨ret_bool (by simp [h1]), HG.out⟩
set_option maxRecDepth 100000 in
set_option maxHeartbeats 1600000 in
theorem rrights_any {hb : Nat} {s : LS} (w : World) (h : Blk w hb s.cs 122) :
    Calls Tryz.prog 33 #[.pointer (some ⟨hb, 0, none⟩)] w fun r w' => r = .returned (.agg #[.int .i64 s.d, .int .i64 s.u]) ∧ Below w.heap.size w w' := by
  have hgr : Below w.heap.size w (w.alloc (.cells #[.int .i64 0, .int .i64 0] 37)) := by go_grown
  have hB1 : Blk (w.alloc (.cells #[.int .i64 0, .int .i64 0] 37)) hb s.cs 122 := h.below hgr h.lt
  have hBn : Blk (w.alloc (.cells #[.int .i64 0, .int .i64 0] 37)) w.heap.size #[.int .i64 0, .int .i64 0] 37 := heap_alloc_new w _
  obtain ⟨d, u, x, c, n⟩ := s
  simp only
  have HG : Hid _ := hgr
  have HB1 : Hid _ := hB1
  have HBn : Hid _ := hBn
  clear hgr hB1 hBn h
  go_enter Tryz.func33, Tryz.ntmps33
  go_wp2_with fail
  rename_i K hK
  try rw [show ∀ a : Act, a.put none undef = a from fun _ => rfl]
  have hX : Blk ({ (w.alloc (.cells #[.int .i64 0, .int .i64 0] 37)) with drawn := (w.alloc (.cells #[.int .i64 0, .int .i64 0] 37)).drawn + 1 } : World) hb (LS.mk d u x c n).cs 122 := HB1.out
  have hN : Blk ({ (w.alloc (.cells #[.int .i64 0, .int .i64 0] 37)) with drawn := (w.alloc (.cells #[.int .i64 0, .int .i64 0] 37)).drawn + 1 } : World) w.heap.size #[.int .i64 0, .int .i64 0] 37 := HBn.out
  have hQ : Below w.heap.size w ({ (w.alloc (.cells #[.int .i64 0, .int .i64 0] 37)) with drawn := (w.alloc (.cells #[.int .i64 0, .int .i64 0] 37)).drawn + 1 } : World) := ⟨HG.out.os, HG.out.tape, HG.out.output, HG.out.size, HG.out.block⟩
  refine wp_region_mix (fun wr => wr.heap = ({ (w.alloc (.cells #[.int .i64 0, .int .i64 0] 37)) with drawn := (w.alloc (.cells #[.int .i64 0, .int .i64 0] 37)).drawn + 1 } : World).heap) (fun i => i == 11) 11 (by kernel_rfl) rfl (by kernel_rfl) (by kernel_rfl) (by kernel_rfl) ?_
  generalize ({ (w.alloc (.cells #[.int .i64 0, .int .i64 0] 37)) with drawn := (w.alloc (.cells #[.int .i64 0, .int .i64 0] 37)).drawn + 1 } : World) = X at *
  have hC : X.heap = X.heap := rfl
  have hc0 : X.cell? ⟨hb, 0, none⟩ = some (.int .i64 d) := hX.cell 0
  have hc1 : X.cell? ⟨hb, 1, none⟩ = some (.int .i64 u) := hX.cell 1
  have hz0 := hN.frozen 0
  have hk0 : X.cell? ⟨w.heap.size, 0, none⟩ = some (.int .i64 0) := hN.cell 0
  have hN1 := hN.set 0 (.int .i64 d)
  have hz1 := hN1.frozen 1
  have hk1 : (X.setCell ⟨w.heap.size, 0, none⟩ (.int .i64 d)).cell? ⟨w.heap.size, 1, none⟩ = some (.int .i64 0) := hN1.cell 1
  refine withFrP (N := 14) rfl ?_
  intro f0 F0 hff
  have hs0 : f0 0 = Value.pointer (some ⟨hb, 0, none⟩) := hff 0
  have hs2 : f0 2 = Value.pointer (some ⟨w.heap.size, 0, none⟩) := hff 2
  clear hff
  refine lyp F0 rfl hC rfl (by omega) (wanted_none rfl) (v := Value.pointer (some ⟨hb, 0, none⟩)) (fun wr hwr => by simp only [execOp, (F0.eval 0 (by omega)).trans (show _ = Value.pointer (some ⟨hb, 0, none⟩) from by simp [upd, hs0, hs2])]; first | rfl | simp [go_sem]) fun F1 => ?_
  refine lyp F1 rfl hC rfl (by omega) (wanted_none rfl) (v := Value.pointer (some ⟨hb, 0, none⟩)) (fun wr hwr => by simp only [execOp, (F1.eval 3 (by omega)).trans (show _ = Value.pointer (some ⟨hb, 0, none⟩) from by simp [upd, hs0, hs2])]; first | rfl | simp [go_sem]) fun F2 => ?_
  refine lyp F2 rfl hC rfl (by omega) (wanted_none rfl) (v := Value.pointer (some ⟨hb, 0, none⟩)) (fun wr hwr => by simp only [execOp, (F2.eval 4 (by omega)).trans (show _ = Value.pointer (some ⟨hb, 0, none⟩) from by simp [upd, hs0, hs2])]; first | rfl | simp [go_sem]) fun F3 => ?_
  refine lyp F3 rfl hC rfl (by omega) (wanted_none rfl) (v := Value.pointer (some ⟨hb, 0, none⟩)) (fun wr hwr => by simp only [execOp, (F3.eval 5 (by omega)).trans (show _ = Value.pointer (some ⟨hb, 0, none⟩) from by simp [upd, hs0, hs2])]; simp [go_sem, Act.eval]) fun F4 => ?_
  refine lyp F4 rfl hC rfl (by omega) (wanted_none rfl) (v := Value.int .i64 d) (fun wr hwr => by simp only [execOp, (F4.eval 6 (by omega)).trans (show _ = Value.pointer (some ⟨hb, 0, none⟩) from by simp [upd, hs0, hs2])]; simp [go_sem, ((cell_heap hwr ⟨hb, 0, none⟩).trans hc0)]) fun F5 => ?_
  refine lyp F5 rfl hC rfl (by omega) (wanted_none rfl) (v := Value.pointer (some ⟨hb, 0, none⟩)) (fun wr hwr => by simp only [execOp, (F5.eval 0 (by omega)).trans (show _ = Value.pointer (some ⟨hb, 0, none⟩) from by simp [upd, hs0, hs2])]; first | rfl | simp [go_sem]) fun F6 => ?_
  refine lyp F6 rfl hC rfl (by omega) (wanted_none rfl) (v := Value.pointer (some ⟨hb, 0, none⟩)) (fun wr hwr => by simp only [execOp, (F6.eval 8 (by omega)).trans (show _ = Value.pointer (some ⟨hb, 0, none⟩) from by simp [upd, hs0, hs2])]; first | rfl | simp [go_sem]) fun F7 => ?_
  refine lyp F7 rfl hC rfl (by omega) (wanted_none rfl) (v := Value.pointer (some ⟨hb, 0, none⟩)) (fun wr hwr => by simp only [execOp, (F7.eval 9 (by omega)).trans (show _ = Value.pointer (some ⟨hb, 0, none⟩) from by simp [upd, hs0, hs2])]; first | rfl | simp [go_sem]) fun F8 => ?_
  refine lyp F8 rfl hC rfl (by omega) (wanted_none rfl) (v := Value.pointer (some ⟨hb, 1, none⟩)) (fun wr hwr => by simp only [execOp, (F8.eval 10 (by omega)).trans (show _ = Value.pointer (some ⟨hb, 0, none⟩) from by simp [upd, hs0, hs2])]; simp [go_sem, Act.eval]) fun F9 => ?_
  refine lyp F9 rfl hC rfl (by omega) (wanted_none rfl) (v := Value.int .i64 u) (fun wr hwr => by simp only [execOp, (F9.eval 11 (by omega)).trans (show _ = Value.pointer (some ⟨hb, 1, none⟩) from by simp [upd, hs0, hs2])]; simp [go_sem, ((cell_heap hwr ⟨hb, 1, none⟩).trans hc1)]) fun F10 => ?_
  refine lyp F10 rfl hC rfl (by omega) (wanted_none rfl) (v := Value.agg #[.int .i64 d, .int .i64 u]) (fun wr hwr => by simp only [execOp, List.map_toArray, List.map_cons, List.map_nil, (F10.eval 7 (by omega)).trans (show _ = Value.int .i64 d from by simp [upd, hs0, hs2]), (F10.eval 12 (by omega)).trans (show _ = Value.int .i64 u from by simp [upd, hs0, hs2])]; simp [go_sem, Act.eval, (F10.eval 7 (by omega)).trans (show _ = Value.int .i64 d from by simp [upd, hs0, hs2]), (F10.eval 12 (by omega)).trans (show _ = Value.int .i64 u from by simp [upd, hs0, hs2])]) fun F11 => ?_
  refine lst rfl hC rfl (wanted_none rfl) (w1 := (X.setCell ⟨w.heap.size, 0, none⟩ (.int .i64 d)).setCell ⟨w.heap.size, 1, none⟩ (.int .i64 u)) (by simp only [execOp, (F11.eval 2 (by omega)).trans (show _ = Value.pointer (some ⟨w.heap.size, 0, none⟩) from by simp [upd, hs0, hs2]), (F11.eval 13 (by omega)).trans (show _ = Value.agg #[.int .i64 d, .int .i64 u] from by simp [upd, hs0, hs2])]; simp [go_sem, hk0, hz0, hk1, hz1]) ?_
  have hE : Blk ((X.setCell ⟨w.heap.size, 0, none⟩ (.int .i64 d)).setCell ⟨w.heap.size, 1, none⟩ (.int .i64 u)) w.heap.size #[.int .i64 d, .int .i64 u] 37 := hN1.set 1 (.int .i64 u)
  have hL : Below w.heap.size w ((X.setCell ⟨w.heap.size, 0, none⟩ (.int .i64 d)).setCell ⟨w.heap.size, 1, none⟩ (.int .i64 u)) := (hQ.setCell (Nat.le_refl _) _).setCell (Nat.le_refl _) _
  generalize (X.setCell ⟨w.heap.size, 0, none⟩ (.int .i64 d)).setCell ⟨w.heap.size, 1, none⟩ (.int .i64 u) = Y at *
  refine ⟨fun h => by omega, ?_⟩
  refine hK _ _ ?_
  clear F0 F1 F2 F3 F4 F5 F6 F7 F8 F9 F10 F11 hs0 hs2 hK hC hc0 hc1 hz0 hk0 hz1 hk1 hN1 hN hX hQ HG HB1 HBn
  simp only [Act.put, List.setIfInBounds_toArray, List.set_cons_succ, List.set_cons_zero]
  have HE : Hid _ := hE
  have HL : Hid _ := hL
  clear hE hL
  go_wp2_with fail
  exact bodyPost_ret (results_cell_row Tryz.results33 _ _ (w.heap.size) 37 _ (0, 0) _ rfl HE.out Tryz.underlying37 rfl (by kernel_rfl)) rfl ⟨rfl, HL.out⟩
end Go.Proofs.YtnphkmdanicemaaGreatDoor.Led

