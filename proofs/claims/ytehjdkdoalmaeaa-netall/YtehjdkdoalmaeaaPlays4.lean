import Derived.Test.YtehjdkdoalmaeaaPlays3
namespace Go.Proofs.Ytehjdkdoalmaeaa
open Go.RowKit Go.PlainAid
set_option linter.unusedVariables false
set_option linter.unusedSimpArgs false
set_option maxRecDepth 100000 in
set_option maxHeartbeats 6400000 in
theorem plays_drop {L pb hbn hbr room n : Nat} {s : PS} (w : World) (h : PInv L pb hbn hbr room s w) (hF : PFull s) (hc : PCnt n s) (o : OpA) (hk : o.kind = 3) (er : Int) (ks : List (Int × Int × List UInt8))
    (hcall1 : BagOp L pb hbn hbr room 19 #[.pointer (some ⟨hbn, 0, none⟩), .int .i64 o.i] s (opC o) w er ks) (hcall2 : RefOp L pb hbn hbr room 35 #[.pointer (some ⟨hbr, 0, none⟩), .int .i64 o.i] s (opC o) w er ks) (hl : ks.length ≤ room) (hs : ∀ x ∈ ks, x.2.2.length ≤ 1048576) :
    Calls Try.prog 23 #[.pointer (some ⟨pb, 0, none⟩), .agg (opC o)] w fun e w' => e = .returned (.bool true) ∧ ∃ s', PPost L pb hbn hbr room n s s' w w' := by
  obtain ⟨kind, who, oi, oj, ol⟩ := o
  simp only at hk
  subst hk
  have hY0 : YSt L pb hbn hbr room s s (opC ⟨3, who, oi, oj, ol⟩) w (w.alloc (.cells (opC ⟨3, who, oi, oj, ol⟩) 43)) := ⟨h.below ((Below.refl _ _).alloc (Nat.le_refl _) _), PStp.ofBelow ((Below.refl _ _).alloc (Nat.le_refl _) _), heap_alloc_new w _, fun q => by have := h.lt _ q; omega⟩
  show Calls Try.prog 23 #[.pointer (some ⟨pb, 0, none⟩), .agg #[.int .i64 3, .int .i64 who, .int .i64 oi, .int .i64 oj, .int .i64 ol.f, .int .i64 ol.t, .slice ol.ao ol.bs.length ol.cap]] w _
  have HY : Hid _ := hY0
  clear hY0 h
  go_enter Try.func23, Try.ntmps23
  go_wp2_with fail
  have hY0 := HY.out
  clear HY
  have hW0 : w.alloc (.cells #[.int .i64 3, .int .i64 who, .int .i64 oi, .int .i64 oj, .int .i64 ol.f, .int .i64 ol.t, .slice ol.ao ol.bs.length ol.cap] 43) = w.alloc (.cells (opC ⟨3, who, oi, oj, ol⟩) 43) := rfl
  try rw [hW0]
  generalize w.alloc (.cells (opC ⟨3, who, oi, oj, ol⟩) 43) = W0 at *
  rename_i K hK
  try rw [show ∀ a : Act, a.put none undef = a from fun _ => rfl]
  refine wp_region_mix (fun wr => wr.cell? ⟨pb, 0, none⟩ = some (Value.pointer (some ⟨hbn, 0, none⟩)) ∧ wr.cell? ⟨pb, 1, none⟩ = some (Value.pointer (some ⟨hbr, 0, none⟩)) ∧ wr.cell? ⟨w.heap.size, 2, none⟩ = some (Value.int .i64 oi) ∧ wr.cell? ⟨w.heap.size, 3, none⟩ = some (Value.int .i64 oj)) (fun i => i == 6 || i == 7 || i == 14 || i == 16) 16 (by kernel_rfl) rfl (by kernel_rfl) (by kernel_rfl) (by kernel_rfl) ?_
  have hCof : ∀ (W : World) (s' : PS), YSt L pb hbn hbr room s s' (opC ⟨3, who, oi, oj, ol⟩) w W → (W.cell? ⟨pb, 0, none⟩ = some (Value.pointer (some ⟨hbn, 0, none⟩)) ∧ W.cell? ⟨pb, 1, none⟩ = some (Value.pointer (some ⟨hbr, 0, none⟩)) ∧ W.cell? ⟨w.heap.size, 2, none⟩ = some (Value.int .i64 oi) ∧ W.cell? ⟨w.heap.size, 3, none⟩ = some (Value.int .i64 oj)) := fun W s' h => ⟨h.cell 0, h.cell 1, h.bo.cell 2, h.bo.cell 3⟩
  have hX := hY0.drew
  generalize ({ W0 with drawn := W0.drawn + 1 } : World) = X at *
  have hC := hCof X _ hX
  refine withFrP (N := 151) rfl ?_
  intro f0 F0 hff
  have hs0 : f0 0 = Value.pointer (some ⟨pb, 0, none⟩) := hff 0
  have hs3 : f0 3 = Value.pointer (some ⟨w.heap.size, 0, none⟩) := hff 3
  clear hff
  refine lyp F0 rfl hC rfl (by omega) (wanted_none rfl) (v := Value.pointer (some ⟨pb, 0, none⟩)) (fun wr hwr => by simp only [execOp, (F0.eval 0 (by omega)).trans (show _ = Value.pointer (some ⟨pb, 0, none⟩) from by simp [upd, hs0, hs3])]; first | rfl | simp [go_sem]) fun F1 => ?_
  refine lyp F1 rfl hC rfl (by omega) (wanted_none rfl) (v := Value.pointer (some ⟨pb, 0, none⟩)) (fun wr hwr => by simp only [execOp, (F1.eval 51 (by omega)).trans (show _ = Value.pointer (some ⟨pb, 0, none⟩) from by simp [upd, hs0, hs3])]; first | rfl | simp [go_sem]) fun F2 => ?_
  refine lyp F2 rfl hC rfl (by omega) (wanted_none rfl) (v := Value.pointer (some ⟨pb, 0, none⟩)) (fun wr hwr => by simp only [execOp, (F2.eval 52 (by omega)).trans (show _ = Value.pointer (some ⟨pb, 0, none⟩) from by simp [upd, hs0, hs3])]; first | rfl | simp [go_sem]) fun F3 => ?_
  refine lyp F3 rfl hC rfl (by omega) (wanted_none rfl) (v := Value.pointer (some ⟨hbn, 0, none⟩)) (fun wr hwr => by simp only [execOp, (F3.eval 53 (by omega)).trans (show _ = Value.pointer (some ⟨pb, 0, none⟩) from by simp [upd, hs0, hs3])]; simp [go_sem, hwr.1]) fun F4 => ?_
  refine lyp F4 rfl hC rfl (by omega) (wanted_none rfl) (v := Value.pointer (some ⟨w.heap.size, 2, none⟩)) (fun wr hwr => by simp only [execOp, (F4.eval 3 (by omega)).trans (show _ = Value.pointer (some ⟨w.heap.size, 0, none⟩) from by simp [upd, hs0, hs3])]; first | rfl | simp [go_sem]) fun F5 => ?_
  refine lyp F5 rfl hC rfl (by omega) (wanted_none rfl) (v := Value.int .i64 oi) (fun wr hwr => by simp only [execOp, (F5.eval 55 (by omega)).trans (show _ = Value.pointer (some ⟨w.heap.size, 2, none⟩) from by simp [upd, hs0, hs3])]; simp [go_sem, hwr.2.2.1]) fun F6 => ?_
  refine lcp F6 rfl hC rfl (by omega) (wanted_none rfl) (g := 19) (args := #[Value.pointer (some ⟨hbn, 0, none⟩), Value.int .i64 oi]) (by simp only [execOp, resolve, invoke, List.map_toArray, List.map_cons, List.map_nil, (F6.eval 54 (by omega)).trans (show _ = Value.pointer (some ⟨hbn, 0, none⟩) from by simp [upd, hs0, hs3]), (F6.eval 56 (by omega)).trans (show _ = Value.int .i64 oi from by simp [upd, hs0, hs3])]; simp [go_sem, Act.eval]) (hcall1 X hX) ?_
  rintro e6 Y1 ⟨s1, rfl, hY1, hA⟩
  have hC1 := hCof Y1 _ hY1
  refine ⟨_, rfl, fun F7 => ?_⟩
  refine lcp F7 rfl hC1 rfl (by omega) (wanted_none rfl) (g := 9) (args := #[Value.int .i64 er]) (by simp only [execOp, resolve, invoke, List.map_toArray, List.map_cons, List.map_nil, (F7.eval 57 (by omega)).trans (show _ = Value.int .i64 er from by simp [upd, hs0, hs3])]; simp [go_sem, Act.eval]) (num_any _ _) ?_
  rintro e7 Y1' ⟨rfl, rfl⟩
  refine ⟨_, rfl, fun F8 => ?_⟩
  refine lyp F8 rfl hC1 rfl (by omega) (wanted_none rfl) (v := Value.pointer (some ⟨pb, 0, none⟩)) (fun wr hwr => by simp only [execOp, (F8.eval 0 (by omega)).trans (show _ = Value.pointer (some ⟨pb, 0, none⟩) from by simp [upd, hs0, hs3])]; first | rfl | simp [go_sem]) fun F9 => ?_
  refine lyp F9 rfl hC1 rfl (by omega) (wanted_none rfl) (v := Value.pointer (some ⟨pb, 0, none⟩)) (fun wr hwr => by simp only [execOp, (F9.eval 59 (by omega)).trans (show _ = Value.pointer (some ⟨pb, 0, none⟩) from by simp [upd, hs0, hs3])]; first | rfl | simp [go_sem]) fun F10 => ?_
  refine lyp F10 rfl hC1 rfl (by omega) (wanted_none rfl) (v := Value.pointer (some ⟨pb, 1, none⟩)) (fun wr hwr => by simp only [execOp, (F10.eval 60 (by omega)).trans (show _ = Value.pointer (some ⟨pb, 0, none⟩) from by simp [upd, hs0, hs3])]; first | rfl | simp [go_sem]) fun F11 => ?_
  refine lyp F11 rfl hC1 rfl (by omega) (wanted_none rfl) (v := Value.pointer (some ⟨hbr, 0, none⟩)) (fun wr hwr => by simp only [execOp, (F11.eval 61 (by omega)).trans (show _ = Value.pointer (some ⟨pb, 1, none⟩) from by simp [upd, hs0, hs3])]; simp [go_sem, hwr.2.1]) fun F12 => ?_
  refine lyp F12 rfl hC1 rfl (by omega) (wanted_none rfl) (v := Value.pointer (some ⟨w.heap.size, 2, none⟩)) (fun wr hwr => by simp only [execOp, (F12.eval 3 (by omega)).trans (show _ = Value.pointer (some ⟨w.heap.size, 0, none⟩) from by simp [upd, hs0, hs3])]; first | rfl | simp [go_sem]) fun F13 => ?_
  refine lyp F13 rfl hC1 rfl (by omega) (wanted_none rfl) (v := Value.int .i64 oi) (fun wr hwr => by simp only [execOp, (F13.eval 63 (by omega)).trans (show _ = Value.pointer (some ⟨w.heap.size, 2, none⟩) from by simp [upd, hs0, hs3])]; simp [go_sem, hwr.2.2.1]) fun F14 => ?_
  refine lcp F14 rfl hC1 rfl (by omega) (wanted_none rfl) (g := 35) (args := #[Value.pointer (some ⟨hbr, 0, none⟩), Value.int .i64 oi]) (by simp only [execOp, resolve, invoke, List.map_toArray, List.map_cons, List.map_nil, (F14.eval 62 (by omega)).trans (show _ = Value.pointer (some ⟨hbr, 0, none⟩) from by simp [upd, hs0, hs3]), (F14.eval 64 (by omega)).trans (show _ = Value.int .i64 oi from by simp [upd, hs0, hs3])]; simp [go_sem, Act.eval]) (hcall2 _ s1 hY1 hA.lr) ?_
  rintro e8 Y2 ⟨s2, rfl, hY2, hR⟩
  have hC2 := hCof Y2 _ hY2
  refine ⟨_, rfl, fun F15 => ?_⟩
  refine lyp F15 rfl hC2 rfl (by omega) (wanted_none rfl) (v := Value.bool true) (fun wr hwr => by simp only [execOp, (F15.eval 58 (by omega)).trans (show _ = Value.int .i64 er from by simp [upd, hs0, hs3]), (F15.eval 65 (by omega)).trans (show _ = Value.int .i64 er from by simp [upd, hs0, hs3])]; simp [go_sem]) fun F16 => ?_
  refine lep F16 rfl hC2 rfl (by omega) (wanted_none rfl) (v := Value.bool true) (w1 := Y2) (by simp only [execOp, (F16.eval 66 (by omega)).trans (show _ = Value.bool true from by simp [upd, hs0, hs3])]; first | rfl | simp [go_sem]) fun F17 => ?_
  refine ⟨fun _ => hC2, ?_⟩
  refine hK _ _ ?_
  simp only [Act.put, List.setIfInBounds_toArray, List.set_cons_succ, List.set_cons_zero]
  have hs2 := hA.rest.trans hR.rest
  have hpost : PPost L pb hbn hbr room n s s2 w Y2 := ⟨hY2.inv, ag_keys ks (by rw [hR.lv]; exact hA.lv) hR.lr hl hs, hs2.full hF, (hs2.cnt hc).more, hY2.stp, by rw [hR.fl]; exact hA.fl⟩
  clear hY2 hY1 hX hY0 hA hR hs2 hC hC1 hC2 hCof hcall1 hcall2 hK F0 F1 F2 F3 F4 F5 F6 F7 F8 F9 F10 F11 F12 F13 F14 F15 F16 F17
  have HP : Hid _ := hpost
  clear hpost
  go_wp2_with fail
  go_ret
  exact ⟨rfl, s2, HP.out⟩
set_option maxRecDepth 100000 in
set_option maxHeartbeats 6400000 in
theorem plays_double {L pb hbn hbr room n : Nat} {s : PS} (w : World) (h : PInv L pb hbn hbr room s w) (hF : PFull s) (hc : PCnt n s) (o : OpA) (hk : o.kind = 4) (er : Int) (ks : List (Int × Int × List UInt8))
    (hcall1 : BagOp L pb hbn hbr room 18 #[.pointer (some ⟨hbn, 0, none⟩), .int .i64 o.i] s (opC o) w er ks) (hcall2 : RefOp L pb hbn hbr room 36 #[.pointer (some ⟨hbr, 0, none⟩), .int .i64 o.i] s (opC o) w er ks) (hl : ks.length ≤ room) (hs : ∀ x ∈ ks, x.2.2.length ≤ 1048576) :
    Calls Try.prog 23 #[.pointer (some ⟨pb, 0, none⟩), .agg (opC o)] w fun e w' => e = .returned (.bool true) ∧ ∃ s', PPost L pb hbn hbr room n s s' w w' := by
  obtain ⟨kind, who, oi, oj, ol⟩ := o
  simp only at hk
  subst hk
  have hY0 : YSt L pb hbn hbr room s s (opC ⟨4, who, oi, oj, ol⟩) w (w.alloc (.cells (opC ⟨4, who, oi, oj, ol⟩) 43)) := ⟨h.below ((Below.refl _ _).alloc (Nat.le_refl _) _), PStp.ofBelow ((Below.refl _ _).alloc (Nat.le_refl _) _), heap_alloc_new w _, fun q => by have := h.lt _ q; omega⟩
  show Calls Try.prog 23 #[.pointer (some ⟨pb, 0, none⟩), .agg #[.int .i64 4, .int .i64 who, .int .i64 oi, .int .i64 oj, .int .i64 ol.f, .int .i64 ol.t, .slice ol.ao ol.bs.length ol.cap]] w _
  have HY : Hid _ := hY0
  clear hY0 h
  go_enter Try.func23, Try.ntmps23
  go_wp2_with fail
  have hY0 := HY.out
  clear HY
  have hW0 : w.alloc (.cells #[.int .i64 4, .int .i64 who, .int .i64 oi, .int .i64 oj, .int .i64 ol.f, .int .i64 ol.t, .slice ol.ao ol.bs.length ol.cap] 43) = w.alloc (.cells (opC ⟨4, who, oi, oj, ol⟩) 43) := rfl
  try rw [hW0]
  generalize w.alloc (.cells (opC ⟨4, who, oi, oj, ol⟩) 43) = W0 at *
  rename_i K hK
  try rw [show ∀ a : Act, a.put none undef = a from fun _ => rfl]
  refine wp_region_mix (fun wr => wr.cell? ⟨pb, 0, none⟩ = some (Value.pointer (some ⟨hbn, 0, none⟩)) ∧ wr.cell? ⟨pb, 1, none⟩ = some (Value.pointer (some ⟨hbr, 0, none⟩)) ∧ wr.cell? ⟨w.heap.size, 2, none⟩ = some (Value.int .i64 oi) ∧ wr.cell? ⟨w.heap.size, 3, none⟩ = some (Value.int .i64 oj)) (fun i => i == 6 || i == 7 || i == 14 || i == 16) 16 (by kernel_rfl) rfl (by kernel_rfl) (by kernel_rfl) (by kernel_rfl) ?_
  have hCof : ∀ (W : World) (s' : PS), YSt L pb hbn hbr room s s' (opC ⟨4, who, oi, oj, ol⟩) w W → (W.cell? ⟨pb, 0, none⟩ = some (Value.pointer (some ⟨hbn, 0, none⟩)) ∧ W.cell? ⟨pb, 1, none⟩ = some (Value.pointer (some ⟨hbr, 0, none⟩)) ∧ W.cell? ⟨w.heap.size, 2, none⟩ = some (Value.int .i64 oi) ∧ W.cell? ⟨w.heap.size, 3, none⟩ = some (Value.int .i64 oj)) := fun W s' h => ⟨h.cell 0, h.cell 1, h.bo.cell 2, h.bo.cell 3⟩
  have hX := hY0.drew
  generalize ({ W0 with drawn := W0.drawn + 1 } : World) = X at *
  have hC := hCof X _ hX
  refine withFrP (N := 151) rfl ?_
  intro f0 F0 hff
  have hs0 : f0 0 = Value.pointer (some ⟨pb, 0, none⟩) := hff 0
  have hs3 : f0 3 = Value.pointer (some ⟨w.heap.size, 0, none⟩) := hff 3
  clear hff
  refine lyp F0 rfl hC rfl (by omega) (wanted_none rfl) (v := Value.pointer (some ⟨pb, 0, none⟩)) (fun wr hwr => by simp only [execOp, (F0.eval 0 (by omega)).trans (show _ = Value.pointer (some ⟨pb, 0, none⟩) from by simp [upd, hs0, hs3])]; first | rfl | simp [go_sem]) fun F1 => ?_
  refine lyp F1 rfl hC rfl (by omega) (wanted_none rfl) (v := Value.pointer (some ⟨pb, 0, none⟩)) (fun wr hwr => by simp only [execOp, (F1.eval 69 (by omega)).trans (show _ = Value.pointer (some ⟨pb, 0, none⟩) from by simp [upd, hs0, hs3])]; first | rfl | simp [go_sem]) fun F2 => ?_
  refine lyp F2 rfl hC rfl (by omega) (wanted_none rfl) (v := Value.pointer (some ⟨pb, 0, none⟩)) (fun wr hwr => by simp only [execOp, (F2.eval 70 (by omega)).trans (show _ = Value.pointer (some ⟨pb, 0, none⟩) from by simp [upd, hs0, hs3])]; first | rfl | simp [go_sem]) fun F3 => ?_
  refine lyp F3 rfl hC rfl (by omega) (wanted_none rfl) (v := Value.pointer (some ⟨hbn, 0, none⟩)) (fun wr hwr => by simp only [execOp, (F3.eval 71 (by omega)).trans (show _ = Value.pointer (some ⟨pb, 0, none⟩) from by simp [upd, hs0, hs3])]; simp [go_sem, hwr.1]) fun F4 => ?_
  refine lyp F4 rfl hC rfl (by omega) (wanted_none rfl) (v := Value.pointer (some ⟨w.heap.size, 2, none⟩)) (fun wr hwr => by simp only [execOp, (F4.eval 3 (by omega)).trans (show _ = Value.pointer (some ⟨w.heap.size, 0, none⟩) from by simp [upd, hs0, hs3])]; first | rfl | simp [go_sem]) fun F5 => ?_
  refine lyp F5 rfl hC rfl (by omega) (wanted_none rfl) (v := Value.int .i64 oi) (fun wr hwr => by simp only [execOp, (F5.eval 73 (by omega)).trans (show _ = Value.pointer (some ⟨w.heap.size, 2, none⟩) from by simp [upd, hs0, hs3])]; simp [go_sem, hwr.2.2.1]) fun F6 => ?_
  refine lcp F6 rfl hC rfl (by omega) (wanted_none rfl) (g := 18) (args := #[Value.pointer (some ⟨hbn, 0, none⟩), Value.int .i64 oi]) (by simp only [execOp, resolve, invoke, List.map_toArray, List.map_cons, List.map_nil, (F6.eval 72 (by omega)).trans (show _ = Value.pointer (some ⟨hbn, 0, none⟩) from by simp [upd, hs0, hs3]), (F6.eval 74 (by omega)).trans (show _ = Value.int .i64 oi from by simp [upd, hs0, hs3])]; simp [go_sem, Act.eval]) (hcall1 X hX) ?_
  rintro e6 Y1 ⟨s1, rfl, hY1, hA⟩
  have hC1 := hCof Y1 _ hY1
  refine ⟨_, rfl, fun F7 => ?_⟩
  refine lcp F7 rfl hC1 rfl (by omega) (wanted_none rfl) (g := 9) (args := #[Value.int .i64 er]) (by simp only [execOp, resolve, invoke, List.map_toArray, List.map_cons, List.map_nil, (F7.eval 75 (by omega)).trans (show _ = Value.int .i64 er from by simp [upd, hs0, hs3])]; simp [go_sem, Act.eval]) (num_any _ _) ?_
  rintro e7 Y1' ⟨rfl, rfl⟩
  refine ⟨_, rfl, fun F8 => ?_⟩
  refine lyp F8 rfl hC1 rfl (by omega) (wanted_none rfl) (v := Value.pointer (some ⟨pb, 0, none⟩)) (fun wr hwr => by simp only [execOp, (F8.eval 0 (by omega)).trans (show _ = Value.pointer (some ⟨pb, 0, none⟩) from by simp [upd, hs0, hs3])]; first | rfl | simp [go_sem]) fun F9 => ?_
  refine lyp F9 rfl hC1 rfl (by omega) (wanted_none rfl) (v := Value.pointer (some ⟨pb, 0, none⟩)) (fun wr hwr => by simp only [execOp, (F9.eval 77 (by omega)).trans (show _ = Value.pointer (some ⟨pb, 0, none⟩) from by simp [upd, hs0, hs3])]; first | rfl | simp [go_sem]) fun F10 => ?_
  refine lyp F10 rfl hC1 rfl (by omega) (wanted_none rfl) (v := Value.pointer (some ⟨pb, 1, none⟩)) (fun wr hwr => by simp only [execOp, (F10.eval 78 (by omega)).trans (show _ = Value.pointer (some ⟨pb, 0, none⟩) from by simp [upd, hs0, hs3])]; first | rfl | simp [go_sem]) fun F11 => ?_
  refine lyp F11 rfl hC1 rfl (by omega) (wanted_none rfl) (v := Value.pointer (some ⟨hbr, 0, none⟩)) (fun wr hwr => by simp only [execOp, (F11.eval 79 (by omega)).trans (show _ = Value.pointer (some ⟨pb, 1, none⟩) from by simp [upd, hs0, hs3])]; simp [go_sem, hwr.2.1]) fun F12 => ?_
  refine lyp F12 rfl hC1 rfl (by omega) (wanted_none rfl) (v := Value.pointer (some ⟨w.heap.size, 2, none⟩)) (fun wr hwr => by simp only [execOp, (F12.eval 3 (by omega)).trans (show _ = Value.pointer (some ⟨w.heap.size, 0, none⟩) from by simp [upd, hs0, hs3])]; first | rfl | simp [go_sem]) fun F13 => ?_
  refine lyp F13 rfl hC1 rfl (by omega) (wanted_none rfl) (v := Value.int .i64 oi) (fun wr hwr => by simp only [execOp, (F13.eval 81 (by omega)).trans (show _ = Value.pointer (some ⟨w.heap.size, 2, none⟩) from by simp [upd, hs0, hs3])]; simp [go_sem, hwr.2.2.1]) fun F14 => ?_
  refine lcp F14 rfl hC1 rfl (by omega) (wanted_none rfl) (g := 36) (args := #[Value.pointer (some ⟨hbr, 0, none⟩), Value.int .i64 oi]) (by simp only [execOp, resolve, invoke, List.map_toArray, List.map_cons, List.map_nil, (F14.eval 80 (by omega)).trans (show _ = Value.pointer (some ⟨hbr, 0, none⟩) from by simp [upd, hs0, hs3]), (F14.eval 82 (by omega)).trans (show _ = Value.int .i64 oi from by simp [upd, hs0, hs3])]; simp [go_sem, Act.eval]) (hcall2 _ s1 hY1 hA.lr) ?_
  rintro e8 Y2 ⟨s2, rfl, hY2, hR⟩
  have hC2 := hCof Y2 _ hY2
  refine ⟨_, rfl, fun F15 => ?_⟩
  refine lyp F15 rfl hC2 rfl (by omega) (wanted_none rfl) (v := Value.bool true) (fun wr hwr => by simp only [execOp, (F15.eval 76 (by omega)).trans (show _ = Value.int .i64 er from by simp [upd, hs0, hs3]), (F15.eval 83 (by omega)).trans (show _ = Value.int .i64 er from by simp [upd, hs0, hs3])]; simp [go_sem]) fun F16 => ?_
  refine lep F16 rfl hC2 rfl (by omega) (wanted_none rfl) (v := Value.bool true) (w1 := Y2) (by simp only [execOp, (F16.eval 84 (by omega)).trans (show _ = Value.bool true from by simp [upd, hs0, hs3])]; first | rfl | simp [go_sem]) fun F17 => ?_
  refine ⟨fun _ => hC2, ?_⟩
  refine hK _ _ ?_
  simp only [Act.put, List.setIfInBounds_toArray, List.set_cons_succ, List.set_cons_zero]
  have hs2 := hA.rest.trans hR.rest
  have hpost : PPost L pb hbn hbr room n s s2 w Y2 := ⟨hY2.inv, ag_keys ks (by rw [hR.lv]; exact hA.lv) hR.lr hl hs, hs2.full hF, (hs2.cnt hc).more, hY2.stp, by rw [hR.fl]; exact hA.fl⟩
  clear hY2 hY1 hX hY0 hA hR hs2 hC hC1 hC2 hCof hcall1 hcall2 hK F0 F1 F2 F3 F4 F5 F6 F7 F8 F9 F10 F11 F12 F13 F14 F15 F16 F17
  have HP : Hid _ := hpost
  clear hpost
  go_wp2_with fail
  go_ret
  exact ⟨rfl, s2, HP.out⟩
set_option maxRecDepth 100000 in
set_option maxHeartbeats 6400000 in
theorem plays_move {L pb hbn hbr room n : Nat} {s : PS} (w : World) (h : PInv L pb hbn hbr room s w) (hF : PFull s) (hc : PCnt n s) (o : OpA) (hk : o.kind = 5) (er : Int) (ks : List (Int × Int × List UInt8))
    (hcall1 : BagOp L pb hbn hbr room 15 #[.pointer (some ⟨hbn, 0, none⟩), .int .i64 o.i, .int .i64 o.j] s (opC o) w er ks) (hcall2 : RefOp L pb hbn hbr room 37 #[.pointer (some ⟨hbr, 0, none⟩), .int .i64 o.i, .int .i64 o.j] s (opC o) w er ks) (hl : ks.length ≤ room) (hs : ∀ x ∈ ks, x.2.2.length ≤ 1048576) :
    Calls Try.prog 23 #[.pointer (some ⟨pb, 0, none⟩), .agg (opC o)] w fun e w' => e = .returned (.bool true) ∧ ∃ s', PPost L pb hbn hbr room n s s' w w' := by
  obtain ⟨kind, who, oi, oj, ol⟩ := o
  simp only at hk
  subst hk
  have hY0 : YSt L pb hbn hbr room s s (opC ⟨5, who, oi, oj, ol⟩) w (w.alloc (.cells (opC ⟨5, who, oi, oj, ol⟩) 43)) := ⟨h.below ((Below.refl _ _).alloc (Nat.le_refl _) _), PStp.ofBelow ((Below.refl _ _).alloc (Nat.le_refl _) _), heap_alloc_new w _, fun q => by have := h.lt _ q; omega⟩
  show Calls Try.prog 23 #[.pointer (some ⟨pb, 0, none⟩), .agg #[.int .i64 5, .int .i64 who, .int .i64 oi, .int .i64 oj, .int .i64 ol.f, .int .i64 ol.t, .slice ol.ao ol.bs.length ol.cap]] w _
  have HY : Hid _ := hY0
  clear hY0 h
  go_enter Try.func23, Try.ntmps23
  go_wp2_with fail
  have hY0 := HY.out
  clear HY
  have hW0 : w.alloc (.cells #[.int .i64 5, .int .i64 who, .int .i64 oi, .int .i64 oj, .int .i64 ol.f, .int .i64 ol.t, .slice ol.ao ol.bs.length ol.cap] 43) = w.alloc (.cells (opC ⟨5, who, oi, oj, ol⟩) 43) := rfl
  try rw [hW0]
  generalize w.alloc (.cells (opC ⟨5, who, oi, oj, ol⟩) 43) = W0 at *
  rename_i K hK
  try rw [show ∀ a : Act, a.put none undef = a from fun _ => rfl]
  refine wp_region_mix (fun wr => wr.cell? ⟨pb, 0, none⟩ = some (Value.pointer (some ⟨hbn, 0, none⟩)) ∧ wr.cell? ⟨pb, 1, none⟩ = some (Value.pointer (some ⟨hbr, 0, none⟩)) ∧ wr.cell? ⟨w.heap.size, 2, none⟩ = some (Value.int .i64 oi) ∧ wr.cell? ⟨w.heap.size, 3, none⟩ = some (Value.int .i64 oj)) (fun i => i == 8 || i == 9 || i == 18 || i == 20) 20 (by kernel_rfl) rfl (by kernel_rfl) (by kernel_rfl) (by kernel_rfl) ?_
  have hCof : ∀ (W : World) (s' : PS), YSt L pb hbn hbr room s s' (opC ⟨5, who, oi, oj, ol⟩) w W → (W.cell? ⟨pb, 0, none⟩ = some (Value.pointer (some ⟨hbn, 0, none⟩)) ∧ W.cell? ⟨pb, 1, none⟩ = some (Value.pointer (some ⟨hbr, 0, none⟩)) ∧ W.cell? ⟨w.heap.size, 2, none⟩ = some (Value.int .i64 oi) ∧ W.cell? ⟨w.heap.size, 3, none⟩ = some (Value.int .i64 oj)) := fun W s' h => ⟨h.cell 0, h.cell 1, h.bo.cell 2, h.bo.cell 3⟩
  have hX := hY0.drew
  generalize ({ W0 with drawn := W0.drawn + 1 } : World) = X at *
  have hC := hCof X _ hX
  refine withFrP (N := 151) rfl ?_
  intro f0 F0 hff
  have hs0 : f0 0 = Value.pointer (some ⟨pb, 0, none⟩) := hff 0
  have hs3 : f0 3 = Value.pointer (some ⟨w.heap.size, 0, none⟩) := hff 3
  clear hff
  refine lyp F0 rfl hC rfl (by omega) (wanted_none rfl) (v := Value.pointer (some ⟨pb, 0, none⟩)) (fun wr hwr => by simp only [execOp, (F0.eval 0 (by omega)).trans (show _ = Value.pointer (some ⟨pb, 0, none⟩) from by simp [upd, hs0, hs3])]; first | rfl | simp [go_sem]) fun F1 => ?_
  refine lyp F1 rfl hC rfl (by omega) (wanted_none rfl) (v := Value.pointer (some ⟨pb, 0, none⟩)) (fun wr hwr => by simp only [execOp, (F1.eval 87 (by omega)).trans (show _ = Value.pointer (some ⟨pb, 0, none⟩) from by simp [upd, hs0, hs3])]; first | rfl | simp [go_sem]) fun F2 => ?_
  refine lyp F2 rfl hC rfl (by omega) (wanted_none rfl) (v := Value.pointer (some ⟨pb, 0, none⟩)) (fun wr hwr => by simp only [execOp, (F2.eval 88 (by omega)).trans (show _ = Value.pointer (some ⟨pb, 0, none⟩) from by simp [upd, hs0, hs3])]; first | rfl | simp [go_sem]) fun F3 => ?_
  refine lyp F3 rfl hC rfl (by omega) (wanted_none rfl) (v := Value.pointer (some ⟨hbn, 0, none⟩)) (fun wr hwr => by simp only [execOp, (F3.eval 89 (by omega)).trans (show _ = Value.pointer (some ⟨pb, 0, none⟩) from by simp [upd, hs0, hs3])]; simp [go_sem, hwr.1]) fun F4 => ?_
  refine lyp F4 rfl hC rfl (by omega) (wanted_none rfl) (v := Value.pointer (some ⟨w.heap.size, 2, none⟩)) (fun wr hwr => by simp only [execOp, (F4.eval 3 (by omega)).trans (show _ = Value.pointer (some ⟨w.heap.size, 0, none⟩) from by simp [upd, hs0, hs3])]; first | rfl | simp [go_sem]) fun F5 => ?_
  refine lyp F5 rfl hC rfl (by omega) (wanted_none rfl) (v := Value.int .i64 oi) (fun wr hwr => by simp only [execOp, (F5.eval 91 (by omega)).trans (show _ = Value.pointer (some ⟨w.heap.size, 2, none⟩) from by simp [upd, hs0, hs3])]; simp [go_sem, hwr.2.2.1]) fun F6 => ?_
  refine lyp F6 rfl hC rfl (by omega) (wanted_none rfl) (v := Value.pointer (some ⟨w.heap.size, 3, none⟩)) (fun wr hwr => by simp only [execOp, (F6.eval 3 (by omega)).trans (show _ = Value.pointer (some ⟨w.heap.size, 0, none⟩) from by simp [upd, hs0, hs3])]; first | rfl | simp [go_sem]) fun F7 => ?_
  refine lyp F7 rfl hC rfl (by omega) (wanted_none rfl) (v := Value.int .i64 oj) (fun wr hwr => by simp only [execOp, (F7.eval 93 (by omega)).trans (show _ = Value.pointer (some ⟨w.heap.size, 3, none⟩) from by simp [upd, hs0, hs3])]; simp [go_sem, hwr.2.2.2]) fun F8 => ?_
  refine lcp F8 rfl hC rfl (by omega) (wanted_none rfl) (g := 15) (args := #[Value.pointer (some ⟨hbn, 0, none⟩), Value.int .i64 oi, Value.int .i64 oj]) (by simp only [execOp, resolve, invoke, List.map_toArray, List.map_cons, List.map_nil, (F8.eval 90 (by omega)).trans (show _ = Value.pointer (some ⟨hbn, 0, none⟩) from by simp [upd, hs0, hs3]), (F8.eval 92 (by omega)).trans (show _ = Value.int .i64 oi from by simp [upd, hs0, hs3]), (F8.eval 94 (by omega)).trans (show _ = Value.int .i64 oj from by simp [upd, hs0, hs3])]; simp [go_sem, Act.eval]) (hcall1 X hX) ?_
  rintro e6 Y1 ⟨s1, rfl, hY1, hA⟩
  have hC1 := hCof Y1 _ hY1
  refine ⟨_, rfl, fun F9 => ?_⟩
  refine lcp F9 rfl hC1 rfl (by omega) (wanted_none rfl) (g := 9) (args := #[Value.int .i64 er]) (by simp only [execOp, resolve, invoke, List.map_toArray, List.map_cons, List.map_nil, (F9.eval 95 (by omega)).trans (show _ = Value.int .i64 er from by simp [upd, hs0, hs3])]; simp [go_sem, Act.eval]) (num_any _ _) ?_
  rintro e7 Y1' ⟨rfl, rfl⟩
  refine ⟨_, rfl, fun F10 => ?_⟩
  refine lyp F10 rfl hC1 rfl (by omega) (wanted_none rfl) (v := Value.pointer (some ⟨pb, 0, none⟩)) (fun wr hwr => by simp only [execOp, (F10.eval 0 (by omega)).trans (show _ = Value.pointer (some ⟨pb, 0, none⟩) from by simp [upd, hs0, hs3])]; first | rfl | simp [go_sem]) fun F11 => ?_
  refine lyp F11 rfl hC1 rfl (by omega) (wanted_none rfl) (v := Value.pointer (some ⟨pb, 0, none⟩)) (fun wr hwr => by simp only [execOp, (F11.eval 97 (by omega)).trans (show _ = Value.pointer (some ⟨pb, 0, none⟩) from by simp [upd, hs0, hs3])]; first | rfl | simp [go_sem]) fun F12 => ?_
  refine lyp F12 rfl hC1 rfl (by omega) (wanted_none rfl) (v := Value.pointer (some ⟨pb, 1, none⟩)) (fun wr hwr => by simp only [execOp, (F12.eval 98 (by omega)).trans (show _ = Value.pointer (some ⟨pb, 0, none⟩) from by simp [upd, hs0, hs3])]; first | rfl | simp [go_sem]) fun F13 => ?_
  refine lyp F13 rfl hC1 rfl (by omega) (wanted_none rfl) (v := Value.pointer (some ⟨hbr, 0, none⟩)) (fun wr hwr => by simp only [execOp, (F13.eval 99 (by omega)).trans (show _ = Value.pointer (some ⟨pb, 1, none⟩) from by simp [upd, hs0, hs3])]; simp [go_sem, hwr.2.1]) fun F14 => ?_
  refine lyp F14 rfl hC1 rfl (by omega) (wanted_none rfl) (v := Value.pointer (some ⟨w.heap.size, 2, none⟩)) (fun wr hwr => by simp only [execOp, (F14.eval 3 (by omega)).trans (show _ = Value.pointer (some ⟨w.heap.size, 0, none⟩) from by simp [upd, hs0, hs3])]; first | rfl | simp [go_sem]) fun F15 => ?_
  refine lyp F15 rfl hC1 rfl (by omega) (wanted_none rfl) (v := Value.int .i64 oi) (fun wr hwr => by simp only [execOp, (F15.eval 101 (by omega)).trans (show _ = Value.pointer (some ⟨w.heap.size, 2, none⟩) from by simp [upd, hs0, hs3])]; simp [go_sem, hwr.2.2.1]) fun F16 => ?_
  refine lyp F16 rfl hC1 rfl (by omega) (wanted_none rfl) (v := Value.pointer (some ⟨w.heap.size, 3, none⟩)) (fun wr hwr => by simp only [execOp, (F16.eval 3 (by omega)).trans (show _ = Value.pointer (some ⟨w.heap.size, 0, none⟩) from by simp [upd, hs0, hs3])]; first | rfl | simp [go_sem]) fun F17 => ?_
  refine lyp F17 rfl hC1 rfl (by omega) (wanted_none rfl) (v := Value.int .i64 oj) (fun wr hwr => by simp only [execOp, (F17.eval 103 (by omega)).trans (show _ = Value.pointer (some ⟨w.heap.size, 3, none⟩) from by simp [upd, hs0, hs3])]; simp [go_sem, hwr.2.2.2]) fun F18 => ?_
  refine lcp F18 rfl hC1 rfl (by omega) (wanted_none rfl) (g := 37) (args := #[Value.pointer (some ⟨hbr, 0, none⟩), Value.int .i64 oi, Value.int .i64 oj]) (by simp only [execOp, resolve, invoke, List.map_toArray, List.map_cons, List.map_nil, (F18.eval 100 (by omega)).trans (show _ = Value.pointer (some ⟨hbr, 0, none⟩) from by simp [upd, hs0, hs3]), (F18.eval 102 (by omega)).trans (show _ = Value.int .i64 oi from by simp [upd, hs0, hs3]), (F18.eval 104 (by omega)).trans (show _ = Value.int .i64 oj from by simp [upd, hs0, hs3])]; simp [go_sem, Act.eval]) (hcall2 _ s1 hY1 hA.lr) ?_
  rintro e8 Y2 ⟨s2, rfl, hY2, hR⟩
  have hC2 := hCof Y2 _ hY2
  refine ⟨_, rfl, fun F19 => ?_⟩
  refine lyp F19 rfl hC2 rfl (by omega) (wanted_none rfl) (v := Value.bool true) (fun wr hwr => by simp only [execOp, (F19.eval 96 (by omega)).trans (show _ = Value.int .i64 er from by simp [upd, hs0, hs3]), (F19.eval 105 (by omega)).trans (show _ = Value.int .i64 er from by simp [upd, hs0, hs3])]; simp [go_sem]) fun F20 => ?_
  refine lep F20 rfl hC2 rfl (by omega) (wanted_none rfl) (v := Value.bool true) (w1 := Y2) (by simp only [execOp, (F20.eval 106 (by omega)).trans (show _ = Value.bool true from by simp [upd, hs0, hs3])]; first | rfl | simp [go_sem]) fun F21 => ?_
  refine ⟨fun _ => hC2, ?_⟩
  refine hK _ _ ?_
  simp only [Act.put, List.setIfInBounds_toArray, List.set_cons_succ, List.set_cons_zero]
  have hs2 := hA.rest.trans hR.rest
  have hpost : PPost L pb hbn hbr room n s s2 w Y2 := ⟨hY2.inv, ag_keys ks (by rw [hR.lv]; exact hA.lv) hR.lr hl hs, hs2.full hF, (hs2.cnt hc).more, hY2.stp, by rw [hR.fl]; exact hA.fl⟩
  clear hY2 hY1 hX hY0 hA hR hs2 hC hC1 hC2 hCof hcall1 hcall2 hK F0 F1 F2 F3 F4 F5 F6 F7 F8 F9 F10 F11 F12 F13 F14 F15 F16 F17 F18 F19 F20 F21
  have HP : Hid _ := hpost
  clear hpost
  go_wp2_with fail
  go_ret
  exact ⟨rfl, s2, HP.out⟩
end Go.Proofs.Ytehjdkdoalmaeaa
