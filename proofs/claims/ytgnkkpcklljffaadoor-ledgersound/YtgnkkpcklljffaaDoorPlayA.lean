import Derived.Test.YtgnkkpcklljffaaDoorPair
namespace Go.Proofs.YtgnkkpcklljffaaDoor
open Go.RowKit Go.PlainAid
set_option linter.unusedVariables false
set_option linter.unusedSimpArgs false
set_option maxRecDepth 100000 in
set_option maxHeartbeats 3200000 in
theorem played_6 {S : Sens} {L hp hl hr : Nat} {s : LS} (w : World) (hS : Sen S L w) (h : Pr hp hl hr s w) (L1 : L ≤ hl) (L2 : L ≤ hr) (who a b : Int) (ha : IntKind.i64.wrap a = a) (hb2 : IntKind.i64.wrap b = b) :
    Calls Tryd.prog 40 #[.pointer (some ⟨hp, 0, none⟩), .agg #[.int .i64 6, .int .i64 who, .int .i64 a, .int .i64 b]] w fun r w' => r = .returned (.bool true) ∧ ∃ s', Pr hp hl hr s' w' ∧ Stq2 hl hr w w' := by
  have hgr : Below w.heap.size w ((w.alloc (.cells #[.int .i64 6, .int .i64 who, .int .i64 a, .int .i64 b] 45)).alloc (.cells #[.int .i64 a, .int .i64 b] 29)) := by go_grown
  have hPB : PB S L hp hl hr w.heap.size (w.heap.size + 1) s s 6 who a b w ((w.alloc (.cells #[.int .i64 6, .int .i64 who, .int .i64 a, .int .i64 b] 45)).alloc (.cells #[.int .i64 a, .int .i64 b] 29)) := by
    refine ⟨h.p.below hgr h.p.lt, h.l.below hgr h.l.lt, h.r.below hgr h.r.lt, ?_, ?_, hS.below (hgr.mono (Nat.le_of_lt (Nat.lt_of_le_of_lt L1 h.l.lt))), (Stq2.refl hl hr w).more hgr, L1, L2⟩
    · exact (Below.heap_alloc _ _ _ (by simp)).trans (heap_alloc_new w _)
    · have := heap_alloc_new (w.alloc (.cells #[.int .i64 6, .int .i64 who, .int .i64 a, .int .i64 b] 45)) (.cells #[.int .i64 a, .int .i64 b] 29)
      rw [World.size_alloc] at this
      exact this
  have hok := h.ok
  have HPB : Hid _ := hPB
  clear hgr hPB hS h
  go_enter Tryd.func40, Tryd.ntmps40
  go_wp2_with fail
  rename_i K hK
  try rw [show ∀ a : Act, a.put none undef = a from fun _ => rfl]
  have hX0 : PB S L hp hl hr w.heap.size (w.heap.size + 1) s s 6 who a b w ({ ((w.alloc (.cells #[.int .i64 6, .int .i64 who, .int .i64 a, .int .i64 b] 45)).alloc (.cells #[.int .i64 a, .int .i64 b] 29)) with drawn := ((w.alloc (.cells #[.int .i64 6, .int .i64 who, .int .i64 a, .int .i64 b] 45)).alloc (.cells #[.int .i64 a, .int .i64 b] 29)).drawn + 1 } : World) := HPB.out.drew
  refine wp_region_mix (KC hp hl hr w.heap.size (w.heap.size + 1) 6 who a b) (fun i => i == 5 || i == 7) 7 (by kernel_rfl) rfl (by kernel_rfl) (by kernel_rfl) (by kernel_rfl) ?_
  generalize ({ ((w.alloc (.cells #[.int .i64 6, .int .i64 who, .int .i64 a, .int .i64 b] 45)).alloc (.cells #[.int .i64 a, .int .i64 b] 29)) with drawn := ((w.alloc (.cells #[.int .i64 6, .int .i64 who, .int .i64 a, .int .i64 b] 45)).alloc (.cells #[.int .i64 a, .int .i64 b] 29)).drawn + 1 } : World) = X0 at *
  have hC0 := hX0.kc
  refine withFrP (N := 158) rfl ?_
  intro f0 F0 hff
  have hs0 : f0 0 = Value.pointer (some ⟨hp, 0, none⟩) := hff 0
  have hs3 : f0 3 = Value.pointer (some ⟨w.heap.size, 0, none⟩) := hff 3
  have hs5 : f0 5 = Value.pointer (some ⟨w.heap.size + 1, 0, none⟩) := hff 5
  clear hff
  refine lyp F0 rfl hC0 rfl (by omega) (wanted_none rfl) (v := Value.pointer (some ⟨hp, 0, none⟩)) (fun wr hwr => by simp only [execOp, (F0.eval 0 (by omega)).trans (show _ = Value.pointer (some ⟨hp, 0, none⟩) from by simp [upd, hs0, hs3, hs5])]; first | rfl | simp [go_sem]) fun Fr01 => ?_
  refine lyp Fr01 rfl hC0 rfl (by omega) (wanted_none rfl) (v := Value.pointer (some ⟨hp, 0, none⟩)) (fun wr hwr => by simp only [execOp, (Fr01.eval 48 (by omega)).trans (show _ = Value.pointer (some ⟨hp, 0, none⟩) from by simp [upd, hs0, hs3, hs5])]; first | rfl | simp [go_sem]) fun Fr02 => ?_
  refine lyp Fr02 rfl hC0 rfl (by omega) (wanted_none rfl) (v := Value.pointer (some ⟨hp, 0, none⟩)) (fun wr hwr => by simp only [execOp, (Fr02.eval 49 (by omega)).trans (show _ = Value.pointer (some ⟨hp, 0, none⟩) from by simp [upd, hs0, hs3, hs5])]; first | rfl | simp [go_sem]) fun Fr03 => ?_
  refine lyp Fr03 rfl hC0 rfl (by omega) (wanted_none rfl) (v := Value.pointer (some ⟨hl, 0, none⟩)) (fun wr hwr => by simp only [execOp, (Fr03.eval 50 (by omega)).trans (show _ = Value.pointer (some ⟨hp, 0, none⟩) from by simp [upd, hs0, hs3, hs5])]; simp [go_sem, hwr.p0]) fun Fr04 => ?_
  refine lyp Fr04 rfl hC0 rfl (by omega) (wanted_none rfl) (v := Value.agg #[.int .i64 a, .int .i64 b]) (fun wr hwr => by simp only [execOp, (Fr04.eval 5 (by omega)).trans (show _ = Value.pointer (some ⟨w.heap.size + 1, 0, none⟩) from by simp [upd, hs0, hs3, hs5])]; simp [go_sem, hwr.x0, hwr.x1]) fun Fr05 => ?_
  refine lcp Fr05 rfl hC0 rfl (by omega) (wanted_none rfl) (g := 12) (args := #[Value.pointer (some ⟨hl, 0, none⟩), Value.agg #[.int .i64 a, .int .i64 b]]) (by simp only [execOp, resolve, invoke, List.map_toArray, List.map_cons, List.map_nil, (Fr05.eval 51 (by omega)).trans (show _ = Value.pointer (some ⟨hl, 0, none⟩) from by simp [upd, hs0, hs3, hs5]), (Fr05.eval 52 (by omega)).trans (show _ = Value.agg #[.int .i64 a, .int .i64 b] from by simp [upd, hs0, hs3, hs5])]; simp [go_sem, Act.eval]) (in_any _ hX0.sen hX0.l hok hX0.L1 a b ha hb2) ?_
  rintro e1 v0 ⟨rfl, hB0, hT0⟩
  refine ⟨_, rfl, fun Fr06 => ?_⟩
  have hP0 := hX0.left hB0 hT0
  have hD0 := hP0.kc
  refine lyp Fr06 rfl hD0 rfl (by omega) (wanted_none rfl) (v := Value.int .i64 (s.icode a b)) (fun wr hwr => by simp only [execOp, (Fr06.eval 53 (by omega)).trans (show _ = Value.int .i64 (s.icode a b) from by simp [upd, hs0, hs3, hs5])]; first | rfl | simp [go_sem]) fun Fr07 => ?_
  refine ⟨fun _ => hD0, ?_⟩
  refine hK _ _ ?_
  clear F0 Fr01 Fr02 Fr03 Fr04 Fr05 Fr06 Fr07 hs0 hs3 hs5 hK 
  simp only [Act.put, List.setIfInBounds_toArray, List.set_cons_succ, List.set_cons_zero]
  have HP0 : Hid _ := hP0
  clear hX0 hC0 hB0 hT0 hP0 hD0 HPB
  go_wp2_with fail
  rename_i K hK
  try rw [show ∀ a : Act, a.put none undef = a from fun _ => rfl]
  have hX1 : PB S L hp hl hr w.heap.size (w.heap.size + 1) (s.inext a b) s 6 who a b w ({ v0 with drawn := v0.drawn + 1 } : World) := HP0.out.drew
  refine wp_region_mix (KC hp hl hr w.heap.size (w.heap.size + 1) 6 who a b) (fun i => i == 6 || i == 9) 9 (by kernel_rfl) rfl (by kernel_rfl) (by kernel_rfl) (by kernel_rfl) ?_
  generalize ({ v0 with drawn := v0.drawn + 1 } : World) = X1 at *
  have hC1 := hX1.kc
  refine withFrP (N := 158) rfl ?_
  intro f0 F0 hff
  have hs0 : f0 0 = Value.pointer (some ⟨hp, 0, none⟩) := hff 0
  have hs3 : f0 3 = Value.pointer (some ⟨w.heap.size, 0, none⟩) := hff 3
  have hs5 : f0 5 = Value.pointer (some ⟨w.heap.size + 1, 0, none⟩) := hff 5
  have hs7 : f0 7 = Value.int .i64 (s.icode a b) := hff 7
  clear hff
  refine lyp F0 rfl hC1 rfl (by omega) (wanted_none rfl) (v := Value.int .i64 (s.icode a b)) (fun wr hwr => by simp only [execOp, (F0.eval 7 (by omega)).trans (show _ = Value.int .i64 (s.icode a b) from by simp [upd, hs0, hs3, hs5, hs7])]; first | rfl | simp [go_sem]) fun Fr11 => ?_
  refine lyp Fr11 rfl hC1 rfl (by omega) (wanted_none rfl) (v := Value.pointer (some ⟨hp, 0, none⟩)) (fun wr hwr => by simp only [execOp, (Fr11.eval 0 (by omega)).trans (show _ = Value.pointer (some ⟨hp, 0, none⟩) from by simp [upd, hs0, hs3, hs5, hs7])]; first | rfl | simp [go_sem]) fun Fr12 => ?_
  refine lyp Fr12 rfl hC1 rfl (by omega) (wanted_none rfl) (v := Value.pointer (some ⟨hp, 0, none⟩)) (fun wr hwr => by simp only [execOp, (Fr12.eval 55 (by omega)).trans (show _ = Value.pointer (some ⟨hp, 0, none⟩) from by simp [upd, hs0, hs3, hs5, hs7])]; first | rfl | simp [go_sem]) fun Fr13 => ?_
  refine lyp Fr13 rfl hC1 rfl (by omega) (wanted_none rfl) (v := Value.pointer (some ⟨hp, 1, none⟩)) (fun wr hwr => by simp only [execOp, (Fr13.eval 56 (by omega)).trans (show _ = Value.pointer (some ⟨hp, 0, none⟩) from by simp [upd, hs0, hs3, hs5, hs7])]; first | rfl | simp [go_sem]) fun Fr14 => ?_
  refine lyp Fr14 rfl hC1 rfl (by omega) (wanted_none rfl) (v := Value.pointer (some ⟨hr, 0, none⟩)) (fun wr hwr => by simp only [execOp, (Fr14.eval 57 (by omega)).trans (show _ = Value.pointer (some ⟨hp, 1, none⟩) from by simp [upd, hs0, hs3, hs5, hs7])]; simp [go_sem, hwr.p1]) fun Fr15 => ?_
  refine lyp Fr15 rfl hC1 rfl (by omega) (wanted_none rfl) (v := Value.agg #[.int .i64 a, .int .i64 b]) (fun wr hwr => by simp only [execOp, (Fr15.eval 5 (by omega)).trans (show _ = Value.pointer (some ⟨w.heap.size + 1, 0, none⟩) from by simp [upd, hs0, hs3, hs5, hs7])]; simp [go_sem, hwr.x0, hwr.x1]) fun Fr16 => ?_
  refine lcp Fr16 rfl hC1 rfl (by omega) (wanted_none rfl) (g := 47) (args := #[Value.pointer (some ⟨hr, 0, none⟩), Value.agg #[.int .i64 a, .int .i64 b]]) (by simp only [execOp, resolve, invoke, List.map_toArray, List.map_cons, List.map_nil, (Fr16.eval 58 (by omega)).trans (show _ = Value.pointer (some ⟨hr, 0, none⟩) from by simp [upd, hs0, hs3, hs5, hs7]), (Fr16.eval 59 (by omega)).trans (show _ = Value.agg #[.int .i64 a, .int .i64 b] from by simp [upd, hs0, hs3, hs5, hs7])]; simp [go_sem, Act.eval]) (rin_any _ hX1.r hok a b ha hb2) ?_
  rintro e2 v1 ⟨rfl, hB1, hT1⟩
  refine ⟨_, rfl, fun Fr17 => ?_⟩
  have hP1 := hX1.right hB1 hT1
  have hD1 := hP1.kc
  refine lyp Fr17 rfl hD1 rfl (by omega) (wanted_none rfl) (v := Value.bool true) (fun wr hwr => by simp only [execOp, (Fr17.eval 54 (by omega)).trans (show _ = Value.int .i64 (s.icode a b) from by simp [upd, hs0, hs3, hs5, hs7]), (Fr17.eval 60 (by omega)).trans (show _ = Value.int .i64 (s.icode a b) from by simp [upd, hs0, hs3, hs5, hs7])]; simp [go_sem, Act.eval]) fun Fr18 => ?_
  refine lyp Fr18 rfl hD1 rfl (by omega) (wanted_none rfl) (v := Value.bool true) (fun wr hwr => by simp only [execOp, (Fr18.eval 61 (by omega)).trans (show _ = Value.bool true from by simp [upd, hs0, hs3, hs5, hs7])]; first | rfl | simp [go_sem]) fun Fr19 => ?_
  refine ⟨fun _ => hD1, ?_⟩
  refine hK _ _ ?_
  clear F0 Fr11 Fr12 Fr13 Fr14 Fr15 Fr16 Fr17 Fr18 Fr19 hs0 hs3 hs5 hs7 hK 
  simp only [Act.put, List.setIfInBounds_toArray, List.set_cons_succ, List.set_cons_zero]
  have HP1 : Hid _ := hP1
  clear hX1 hC1 hB1 hT1 hP1 hD1 HP0
  go_wp2_with fail
  go_ret
  exact ⟨rfl, _, PB.pr HP1.out (s.inext_ok hok a b), HP1.out.q⟩
set_option maxRecDepth 100000 in
set_option maxHeartbeats 3200000 in
theorem played_7 {S : Sens} {L hp hl hr : Nat} {s : LS} (w : World) (hS : Sen S L w) (h : Pr hp hl hr s w) (L1 : L ≤ hl) (L2 : L ≤ hr) (who a b : Int) (ha : IntKind.i64.wrap a = a) (hb2 : IntKind.i64.wrap b = b) :
    Calls Tryd.prog 40 #[.pointer (some ⟨hp, 0, none⟩), .agg #[.int .i64 7, .int .i64 who, .int .i64 a, .int .i64 b]] w fun r w' => r = .returned (.bool true) ∧ ∃ s', Pr hp hl hr s' w' ∧ Stq2 hl hr w w' := by
  have hgr : Below w.heap.size w ((w.alloc (.cells #[.int .i64 7, .int .i64 who, .int .i64 a, .int .i64 b] 45)).alloc (.cells #[.int .i64 a, .int .i64 b] 29)) := by go_grown
  have hPB : PB S L hp hl hr w.heap.size (w.heap.size + 1) s s 7 who a b w ((w.alloc (.cells #[.int .i64 7, .int .i64 who, .int .i64 a, .int .i64 b] 45)).alloc (.cells #[.int .i64 a, .int .i64 b] 29)) := by
    refine ⟨h.p.below hgr h.p.lt, h.l.below hgr h.l.lt, h.r.below hgr h.r.lt, ?_, ?_, hS.below (hgr.mono (Nat.le_of_lt (Nat.lt_of_le_of_lt L1 h.l.lt))), (Stq2.refl hl hr w).more hgr, L1, L2⟩
    · exact (Below.heap_alloc _ _ _ (by simp)).trans (heap_alloc_new w _)
    · have := heap_alloc_new (w.alloc (.cells #[.int .i64 7, .int .i64 who, .int .i64 a, .int .i64 b] 45)) (.cells #[.int .i64 a, .int .i64 b] 29)
      rw [World.size_alloc] at this
      exact this
  have hok := h.ok
  have HPB : Hid _ := hPB
  clear hgr hPB hS h
  go_enter Tryd.func40, Tryd.ntmps40
  go_wp2_with fail
  rename_i K hK
  try rw [show ∀ a : Act, a.put none undef = a from fun _ => rfl]
  have hX0 : PB S L hp hl hr w.heap.size (w.heap.size + 1) s s 7 who a b w ({ ((w.alloc (.cells #[.int .i64 7, .int .i64 who, .int .i64 a, .int .i64 b] 45)).alloc (.cells #[.int .i64 a, .int .i64 b] 29)) with drawn := ((w.alloc (.cells #[.int .i64 7, .int .i64 who, .int .i64 a, .int .i64 b] 45)).alloc (.cells #[.int .i64 a, .int .i64 b] 29)).drawn + 1 } : World) := HPB.out.drew
  refine wp_region_mix (KC hp hl hr w.heap.size (w.heap.size + 1) 7 who a b) (fun i => i == 5 || i == 7) 7 (by kernel_rfl) rfl (by kernel_rfl) (by kernel_rfl) (by kernel_rfl) ?_
  generalize ({ ((w.alloc (.cells #[.int .i64 7, .int .i64 who, .int .i64 a, .int .i64 b] 45)).alloc (.cells #[.int .i64 a, .int .i64 b] 29)) with drawn := ((w.alloc (.cells #[.int .i64 7, .int .i64 who, .int .i64 a, .int .i64 b] 45)).alloc (.cells #[.int .i64 a, .int .i64 b] 29)).drawn + 1 } : World) = X0 at *
  have hC0 := hX0.kc
  refine withFrP (N := 158) rfl ?_
  intro f0 F0 hff
  have hs0 : f0 0 = Value.pointer (some ⟨hp, 0, none⟩) := hff 0
  have hs3 : f0 3 = Value.pointer (some ⟨w.heap.size, 0, none⟩) := hff 3
  have hs5 : f0 5 = Value.pointer (some ⟨w.heap.size + 1, 0, none⟩) := hff 5
  clear hff
  refine lyp F0 rfl hC0 rfl (by omega) (wanted_none rfl) (v := Value.pointer (some ⟨hp, 0, none⟩)) (fun wr hwr => by simp only [execOp, (F0.eval 0 (by omega)).trans (show _ = Value.pointer (some ⟨hp, 0, none⟩) from by simp [upd, hs0, hs3, hs5])]; first | rfl | simp [go_sem]) fun Fr01 => ?_
  refine lyp Fr01 rfl hC0 rfl (by omega) (wanted_none rfl) (v := Value.pointer (some ⟨hp, 0, none⟩)) (fun wr hwr => by simp only [execOp, (Fr01.eval 64 (by omega)).trans (show _ = Value.pointer (some ⟨hp, 0, none⟩) from by simp [upd, hs0, hs3, hs5])]; first | rfl | simp [go_sem]) fun Fr02 => ?_
  refine lyp Fr02 rfl hC0 rfl (by omega) (wanted_none rfl) (v := Value.pointer (some ⟨hp, 0, none⟩)) (fun wr hwr => by simp only [execOp, (Fr02.eval 65 (by omega)).trans (show _ = Value.pointer (some ⟨hp, 0, none⟩) from by simp [upd, hs0, hs3, hs5])]; first | rfl | simp [go_sem]) fun Fr03 => ?_
  refine lyp Fr03 rfl hC0 rfl (by omega) (wanted_none rfl) (v := Value.pointer (some ⟨hl, 0, none⟩)) (fun wr hwr => by simp only [execOp, (Fr03.eval 66 (by omega)).trans (show _ = Value.pointer (some ⟨hp, 0, none⟩) from by simp [upd, hs0, hs3, hs5])]; simp [go_sem, hwr.p0]) fun Fr04 => ?_
  refine lyp Fr04 rfl hC0 rfl (by omega) (wanted_none rfl) (v := Value.agg #[.int .i64 a, .int .i64 b]) (fun wr hwr => by simp only [execOp, (Fr04.eval 5 (by omega)).trans (show _ = Value.pointer (some ⟨w.heap.size + 1, 0, none⟩) from by simp [upd, hs0, hs3, hs5])]; simp [go_sem, hwr.x0, hwr.x1]) fun Fr05 => ?_
  refine lcp Fr05 rfl hC0 rfl (by omega) (wanted_none rfl) (g := 22) (args := #[Value.pointer (some ⟨hl, 0, none⟩), Value.agg #[.int .i64 a, .int .i64 b]]) (by simp only [execOp, resolve, invoke, List.map_toArray, List.map_cons, List.map_nil, (Fr05.eval 67 (by omega)).trans (show _ = Value.pointer (some ⟨hl, 0, none⟩) from by simp [upd, hs0, hs3, hs5]), (Fr05.eval 68 (by omega)).trans (show _ = Value.agg #[.int .i64 a, .int .i64 b] from by simp [upd, hs0, hs3, hs5])]; simp [go_sem, Act.eval]) (out_any _ hX0.sen hX0.l hok hX0.L1 a b) ?_
  rintro e1 v0 ⟨rfl, hB0, hT0⟩
  refine ⟨_, rfl, fun Fr06 => ?_⟩
  have hP0 := hX0.left hB0 hT0
  have hD0 := hP0.kc
  refine lyp Fr06 rfl hD0 rfl (by omega) (wanted_none rfl) (v := Value.int .i64 (s.ocode a b)) (fun wr hwr => by simp only [execOp, (Fr06.eval 69 (by omega)).trans (show _ = Value.int .i64 (s.ocode a b) from by simp [upd, hs0, hs3, hs5])]; first | rfl | simp [go_sem]) fun Fr07 => ?_
  refine ⟨fun _ => hD0, ?_⟩
  refine hK _ _ ?_
  clear F0 Fr01 Fr02 Fr03 Fr04 Fr05 Fr06 Fr07 hs0 hs3 hs5 hK 
  simp only [Act.put, List.setIfInBounds_toArray, List.set_cons_succ, List.set_cons_zero]
  have HP0 : Hid _ := hP0
  clear hX0 hC0 hB0 hT0 hP0 hD0 HPB
  go_wp2_with fail
  rename_i K hK
  try rw [show ∀ a : Act, a.put none undef = a from fun _ => rfl]
  have hX1 : PB S L hp hl hr w.heap.size (w.heap.size + 1) (s.onext a b) s 7 who a b w ({ v0 with drawn := v0.drawn + 1 } : World) := HP0.out.drew
  refine wp_region_mix (KC hp hl hr w.heap.size (w.heap.size + 1) 7 who a b) (fun i => i == 6 || i == 9) 9 (by kernel_rfl) rfl (by kernel_rfl) (by kernel_rfl) (by kernel_rfl) ?_
  generalize ({ v0 with drawn := v0.drawn + 1 } : World) = X1 at *
  have hC1 := hX1.kc
  refine withFrP (N := 158) rfl ?_
  intro f0 F0 hff
  have hs0 : f0 0 = Value.pointer (some ⟨hp, 0, none⟩) := hff 0
  have hs3 : f0 3 = Value.pointer (some ⟨w.heap.size, 0, none⟩) := hff 3
  have hs5 : f0 5 = Value.pointer (some ⟨w.heap.size + 1, 0, none⟩) := hff 5
  have hs8 : f0 8 = Value.int .i64 (s.ocode a b) := hff 8
  clear hff
  refine lyp F0 rfl hC1 rfl (by omega) (wanted_none rfl) (v := Value.int .i64 (s.ocode a b)) (fun wr hwr => by simp only [execOp, (F0.eval 8 (by omega)).trans (show _ = Value.int .i64 (s.ocode a b) from by simp [upd, hs0, hs3, hs5, hs8])]; first | rfl | simp [go_sem]) fun Fr11 => ?_
  refine lyp Fr11 rfl hC1 rfl (by omega) (wanted_none rfl) (v := Value.pointer (some ⟨hp, 0, none⟩)) (fun wr hwr => by simp only [execOp, (Fr11.eval 0 (by omega)).trans (show _ = Value.pointer (some ⟨hp, 0, none⟩) from by simp [upd, hs0, hs3, hs5, hs8])]; first | rfl | simp [go_sem]) fun Fr12 => ?_
  refine lyp Fr12 rfl hC1 rfl (by omega) (wanted_none rfl) (v := Value.pointer (some ⟨hp, 0, none⟩)) (fun wr hwr => by simp only [execOp, (Fr12.eval 71 (by omega)).trans (show _ = Value.pointer (some ⟨hp, 0, none⟩) from by simp [upd, hs0, hs3, hs5, hs8])]; first | rfl | simp [go_sem]) fun Fr13 => ?_
  refine lyp Fr13 rfl hC1 rfl (by omega) (wanted_none rfl) (v := Value.pointer (some ⟨hp, 1, none⟩)) (fun wr hwr => by simp only [execOp, (Fr13.eval 72 (by omega)).trans (show _ = Value.pointer (some ⟨hp, 0, none⟩) from by simp [upd, hs0, hs3, hs5, hs8])]; first | rfl | simp [go_sem]) fun Fr14 => ?_
  refine lyp Fr14 rfl hC1 rfl (by omega) (wanted_none rfl) (v := Value.pointer (some ⟨hr, 0, none⟩)) (fun wr hwr => by simp only [execOp, (Fr14.eval 73 (by omega)).trans (show _ = Value.pointer (some ⟨hp, 1, none⟩) from by simp [upd, hs0, hs3, hs5, hs8])]; simp [go_sem, hwr.p1]) fun Fr15 => ?_
  refine lyp Fr15 rfl hC1 rfl (by omega) (wanted_none rfl) (v := Value.agg #[.int .i64 a, .int .i64 b]) (fun wr hwr => by simp only [execOp, (Fr15.eval 5 (by omega)).trans (show _ = Value.pointer (some ⟨w.heap.size + 1, 0, none⟩) from by simp [upd, hs0, hs3, hs5, hs8])]; simp [go_sem, hwr.x0, hwr.x1]) fun Fr16 => ?_
  refine lcp Fr16 rfl hC1 rfl (by omega) (wanted_none rfl) (g := 48) (args := #[Value.pointer (some ⟨hr, 0, none⟩), Value.agg #[.int .i64 a, .int .i64 b]]) (by simp only [execOp, resolve, invoke, List.map_toArray, List.map_cons, List.map_nil, (Fr16.eval 74 (by omega)).trans (show _ = Value.pointer (some ⟨hr, 0, none⟩) from by simp [upd, hs0, hs3, hs5, hs8]), (Fr16.eval 75 (by omega)).trans (show _ = Value.agg #[.int .i64 a, .int .i64 b] from by simp [upd, hs0, hs3, hs5, hs8])]; simp [go_sem, Act.eval]) (rout_any _ hX1.r hok a b) ?_
  rintro e2 v1 ⟨rfl, hB1, hT1⟩
  refine ⟨_, rfl, fun Fr17 => ?_⟩
  have hP1 := hX1.right hB1 hT1
  have hD1 := hP1.kc
  refine lyp Fr17 rfl hD1 rfl (by omega) (wanted_none rfl) (v := Value.bool true) (fun wr hwr => by simp only [execOp, (Fr17.eval 70 (by omega)).trans (show _ = Value.int .i64 (s.ocode a b) from by simp [upd, hs0, hs3, hs5, hs8]), (Fr17.eval 76 (by omega)).trans (show _ = Value.int .i64 (s.ocode a b) from by simp [upd, hs0, hs3, hs5, hs8])]; simp [go_sem, Act.eval]) fun Fr18 => ?_
  refine lyp Fr18 rfl hD1 rfl (by omega) (wanted_none rfl) (v := Value.bool true) (fun wr hwr => by simp only [execOp, (Fr18.eval 77 (by omega)).trans (show _ = Value.bool true from by simp [upd, hs0, hs3, hs5, hs8])]; first | rfl | simp [go_sem]) fun Fr19 => ?_
  refine ⟨fun _ => hD1, ?_⟩
  refine hK _ _ ?_
  clear F0 Fr11 Fr12 Fr13 Fr14 Fr15 Fr16 Fr17 Fr18 Fr19 hs0 hs3 hs5 hs8 hK 
  simp only [Act.put, List.setIfInBounds_toArray, List.set_cons_succ, List.set_cons_zero]
  have HP1 : Hid _ := hP1
  clear hX1 hC1 hB1 hT1 hP1 hD1 HP0
  go_wp2_with fail
  go_ret
  exact ⟨rfl, _, PB.pr HP1.out (s.onext_ok hok a b), HP1.out.q⟩
end Go.Proofs.YtgnkkpcklljffaaDoor
