import Derived.Test.YtgnkkpcklljffaaDoorPair
namespace Go.Proofs.YtgnkkpcklljffaaDoor
open Go.RowKit Go.PlainAid
set_option linter.unusedVariables false
set_option linter.unusedSimpArgs false
set_option maxRecDepth 100000 in
set_option maxHeartbeats 3200000 in
theorem played_9 {S : Sens} {L hp hl hr : Nat} {s : LS} (w : World) (hS : Sen S L w) (h : Pr hp hl hr s w) (L1 : L ≤ hl) (L2 : L ≤ hr) (who a b : Int) (ha : IntKind.i64.wrap a = a) (hb2 : IntKind.i64.wrap b = b) :
    Calls Tryd.prog 40 #[.pointer (some ⟨hp, 0, none⟩), .agg #[.int .i64 9, .int .i64 who, .int .i64 a, .int .i64 b]] w fun r w' => r = .returned (.bool true) ∧ ∃ s', Pr hp hl hr s' w' ∧ Stq2 hl hr w w' := by
  have hgr : Below w.heap.size w ((w.alloc (.cells #[.int .i64 9, .int .i64 who, .int .i64 a, .int .i64 b] 45)).alloc (.cells #[.int .i64 a, .int .i64 b] 29)) := by go_grown
  have hPB : PB S L hp hl hr w.heap.size (w.heap.size + 1) s s 9 who a b w ((w.alloc (.cells #[.int .i64 9, .int .i64 who, .int .i64 a, .int .i64 b] 45)).alloc (.cells #[.int .i64 a, .int .i64 b] 29)) := by
    refine ⟨h.p.below hgr h.p.lt, h.l.below hgr h.l.lt, h.r.below hgr h.r.lt, ?_, ?_, hS.below (hgr.mono (Nat.le_of_lt (Nat.lt_of_le_of_lt L1 h.l.lt))), (Stq2.refl hl hr w).more hgr, L1, L2⟩
    · exact (Below.heap_alloc _ _ _ (by simp)).trans (heap_alloc_new w _)
    · have := heap_alloc_new (w.alloc (.cells #[.int .i64 9, .int .i64 who, .int .i64 a, .int .i64 b] 45)) (.cells #[.int .i64 a, .int .i64 b] 29)
      rw [World.size_alloc] at this
      exact this
  have hok := h.ok
  have HPB : Hid _ := hPB
  clear hgr hPB hS h
  go_enter Tryd.func40, Tryd.ntmps40
  go_wp2_with fail
  rename_i K hK
  try rw [show ∀ a : Act, a.put none undef = a from fun _ => rfl]
  have hX0 : PB S L hp hl hr w.heap.size (w.heap.size + 1) s s 9 who a b w ({ ((w.alloc (.cells #[.int .i64 9, .int .i64 who, .int .i64 a, .int .i64 b] 45)).alloc (.cells #[.int .i64 a, .int .i64 b] 29)) with drawn := ((w.alloc (.cells #[.int .i64 9, .int .i64 who, .int .i64 a, .int .i64 b] 45)).alloc (.cells #[.int .i64 a, .int .i64 b] 29)).drawn + 1 } : World) := HPB.out.drew
  refine wp_region_mix (KC hp hl hr w.heap.size (w.heap.size + 1) 9 who a b) (fun i => i == 6 || i == 8) 8 (by kernel_rfl) rfl (by kernel_rfl) (by kernel_rfl) (by kernel_rfl) ?_
  generalize ({ ((w.alloc (.cells #[.int .i64 9, .int .i64 who, .int .i64 a, .int .i64 b] 45)).alloc (.cells #[.int .i64 a, .int .i64 b] 29)) with drawn := ((w.alloc (.cells #[.int .i64 9, .int .i64 who, .int .i64 a, .int .i64 b] 45)).alloc (.cells #[.int .i64 a, .int .i64 b] 29)).drawn + 1 } : World) = X0 at *
  have hC0 := hX0.kc
  refine withFrP (N := 158) rfl ?_
  intro f0 F0 hff
  have hs0 : f0 0 = Value.pointer (some ⟨hp, 0, none⟩) := hff 0
  have hs3 : f0 3 = Value.pointer (some ⟨w.heap.size, 0, none⟩) := hff 3
  have hs5 : f0 5 = Value.pointer (some ⟨w.heap.size + 1, 0, none⟩) := hff 5
  clear hff
  refine lyp F0 rfl hC0 rfl (by omega) (wanted_none rfl) (v := Value.pointer (some ⟨hp, 0, none⟩)) (fun wr hwr => by simp only [execOp, (F0.eval 0 (by omega)).trans (show _ = Value.pointer (some ⟨hp, 0, none⟩) from by simp [upd, hs0, hs3, hs5])]; first | rfl | simp [go_sem]) fun Fr01 => ?_
  refine lyp Fr01 rfl hC0 rfl (by omega) (wanted_none rfl) (v := Value.pointer (some ⟨hp, 0, none⟩)) (fun wr hwr => by simp only [execOp, (Fr01.eval 94 (by omega)).trans (show _ = Value.pointer (some ⟨hp, 0, none⟩) from by simp [upd, hs0, hs3, hs5])]; first | rfl | simp [go_sem]) fun Fr02 => ?_
  refine lyp Fr02 rfl hC0 rfl (by omega) (wanted_none rfl) (v := Value.pointer (some ⟨hp, 0, none⟩)) (fun wr hwr => by simp only [execOp, (Fr02.eval 95 (by omega)).trans (show _ = Value.pointer (some ⟨hp, 0, none⟩) from by simp [upd, hs0, hs3, hs5])]; first | rfl | simp [go_sem]) fun Fr03 => ?_
  refine lyp Fr03 rfl hC0 rfl (by omega) (wanted_none rfl) (v := Value.pointer (some ⟨hl, 0, none⟩)) (fun wr hwr => by simp only [execOp, (Fr03.eval 96 (by omega)).trans (show _ = Value.pointer (some ⟨hp, 0, none⟩) from by simp [upd, hs0, hs3, hs5])]; simp [go_sem, hwr.p0]) fun Fr04 => ?_
  refine lyp Fr04 rfl hC0 rfl (by omega) (wanted_none rfl) (v := Value.pointer (some ⟨w.heap.size, 2, none⟩)) (fun wr hwr => by simp only [execOp, (Fr04.eval 3 (by omega)).trans (show _ = Value.pointer (some ⟨w.heap.size, 0, none⟩) from by simp [upd, hs0, hs3, hs5])]; first | rfl | simp [go_sem]) fun Fr05 => ?_
  refine lyp Fr05 rfl hC0 rfl (by omega) (wanted_none rfl) (v := Value.int .i64 a) (fun wr hwr => by simp only [execOp, (Fr05.eval 98 (by omega)).trans (show _ = Value.pointer (some ⟨w.heap.size, 2, none⟩) from by simp [upd, hs0, hs3, hs5])]; simp [go_sem, hwr.o2]) fun Fr06 => ?_
  refine lcp Fr06 rfl hC0 rfl (by omega) (wanted_none rfl) (g := 38) (args := #[Value.pointer (some ⟨hl, 0, none⟩), Value.int .i64 a]) (by simp only [execOp, resolve, invoke, List.map_toArray, List.map_cons, List.map_nil, (Fr06.eval 97 (by omega)).trans (show _ = Value.pointer (some ⟨hl, 0, none⟩) from by simp [upd, hs0, hs3, hs5]), (Fr06.eval 99 (by omega)).trans (show _ = Value.int .i64 a from by simp [upd, hs0, hs3, hs5])]; simp [go_sem, Act.eval]) (set_any _ hX0.sen hX0.l hok hX0.L1 a) ?_
  rintro e1 v0 ⟨rfl, hB0, hT0⟩
  refine ⟨_, rfl, fun Fr07 => ?_⟩
  have hP0 := hX0.left hB0 hT0
  have hD0 := hP0.kc
  refine lyp Fr07 rfl hD0 rfl (by omega) (wanted_none rfl) (v := Value.int .i64 (s.scode a)) (fun wr hwr => by simp only [execOp, (Fr07.eval 100 (by omega)).trans (show _ = Value.int .i64 (s.scode a) from by simp [upd, hs0, hs3, hs5])]; first | rfl | simp [go_sem]) fun Fr08 => ?_
  refine ⟨fun _ => hD0, ?_⟩
  refine hK _ _ ?_
  clear F0 Fr01 Fr02 Fr03 Fr04 Fr05 Fr06 Fr07 Fr08 hs0 hs3 hs5 hK 
  simp only [Act.put, List.setIfInBounds_toArray, List.set_cons_succ, List.set_cons_zero]
  have HP0 : Hid _ := hP0
  clear hX0 hC0 hB0 hT0 hP0 hD0 HPB
  go_wp2_with fail
  rename_i K hK
  try rw [show ∀ a : Act, a.put none undef = a from fun _ => rfl]
  have hX1 : PB S L hp hl hr w.heap.size (w.heap.size + 1) (s.snext a) s 9 who a b w ({ v0 with drawn := v0.drawn + 1 } : World) := HP0.out.drew
  refine wp_region_mix (KC hp hl hr w.heap.size (w.heap.size + 1) 9 who a b) (fun i => i == 7 || i == 10) 10 (by kernel_rfl) rfl (by kernel_rfl) (by kernel_rfl) (by kernel_rfl) ?_
  generalize ({ v0 with drawn := v0.drawn + 1 } : World) = X1 at *
  have hC1 := hX1.kc
  refine withFrP (N := 158) rfl ?_
  intro f0 F0 hff
  have hs0 : f0 0 = Value.pointer (some ⟨hp, 0, none⟩) := hff 0
  have hs3 : f0 3 = Value.pointer (some ⟨w.heap.size, 0, none⟩) := hff 3
  have hs5 : f0 5 = Value.pointer (some ⟨w.heap.size + 1, 0, none⟩) := hff 5
  have hs10 : f0 10 = Value.int .i64 (s.scode a) := hff 10
  clear hff
  refine lyp F0 rfl hC1 rfl (by omega) (wanted_none rfl) (v := Value.int .i64 (s.scode a)) (fun wr hwr => by simp only [execOp, (F0.eval 10 (by omega)).trans (show _ = Value.int .i64 (s.scode a) from by simp [upd, hs0, hs3, hs5, hs10])]; first | rfl | simp [go_sem]) fun Fr11 => ?_
  refine lyp Fr11 rfl hC1 rfl (by omega) (wanted_none rfl) (v := Value.pointer (some ⟨hp, 0, none⟩)) (fun wr hwr => by simp only [execOp, (Fr11.eval 0 (by omega)).trans (show _ = Value.pointer (some ⟨hp, 0, none⟩) from by simp [upd, hs0, hs3, hs5, hs10])]; first | rfl | simp [go_sem]) fun Fr12 => ?_
  refine lyp Fr12 rfl hC1 rfl (by omega) (wanted_none rfl) (v := Value.pointer (some ⟨hp, 0, none⟩)) (fun wr hwr => by simp only [execOp, (Fr12.eval 102 (by omega)).trans (show _ = Value.pointer (some ⟨hp, 0, none⟩) from by simp [upd, hs0, hs3, hs5, hs10])]; first | rfl | simp [go_sem]) fun Fr13 => ?_
  refine lyp Fr13 rfl hC1 rfl (by omega) (wanted_none rfl) (v := Value.pointer (some ⟨hp, 1, none⟩)) (fun wr hwr => by simp only [execOp, (Fr13.eval 103 (by omega)).trans (show _ = Value.pointer (some ⟨hp, 0, none⟩) from by simp [upd, hs0, hs3, hs5, hs10])]; first | rfl | simp [go_sem]) fun Fr14 => ?_
  refine lyp Fr14 rfl hC1 rfl (by omega) (wanted_none rfl) (v := Value.pointer (some ⟨hr, 0, none⟩)) (fun wr hwr => by simp only [execOp, (Fr14.eval 104 (by omega)).trans (show _ = Value.pointer (some ⟨hp, 1, none⟩) from by simp [upd, hs0, hs3, hs5, hs10])]; simp [go_sem, hwr.p1]) fun Fr15 => ?_
  refine lyp Fr15 rfl hC1 rfl (by omega) (wanted_none rfl) (v := Value.pointer (some ⟨w.heap.size, 2, none⟩)) (fun wr hwr => by simp only [execOp, (Fr15.eval 3 (by omega)).trans (show _ = Value.pointer (some ⟨w.heap.size, 0, none⟩) from by simp [upd, hs0, hs3, hs5, hs10])]; first | rfl | simp [go_sem]) fun Fr16 => ?_
  refine lyp Fr16 rfl hC1 rfl (by omega) (wanted_none rfl) (v := Value.int .i64 a) (fun wr hwr => by simp only [execOp, (Fr16.eval 106 (by omega)).trans (show _ = Value.pointer (some ⟨w.heap.size, 2, none⟩) from by simp [upd, hs0, hs3, hs5, hs10])]; simp [go_sem, hwr.o2]) fun Fr17 => ?_
  refine lcp Fr17 rfl hC1 rfl (by omega) (wanted_none rfl) (g := 50) (args := #[Value.pointer (some ⟨hr, 0, none⟩), Value.int .i64 a]) (by simp only [execOp, resolve, invoke, List.map_toArray, List.map_cons, List.map_nil, (Fr17.eval 105 (by omega)).trans (show _ = Value.pointer (some ⟨hr, 0, none⟩) from by simp [upd, hs0, hs3, hs5, hs10]), (Fr17.eval 107 (by omega)).trans (show _ = Value.int .i64 a from by simp [upd, hs0, hs3, hs5, hs10])]; simp [go_sem, Act.eval]) (rset_any _ hX1.r hok a) ?_
  rintro e2 v1 ⟨rfl, hB1, hT1⟩
  refine ⟨_, rfl, fun Fr18 => ?_⟩
  have hP1 := hX1.right hB1 hT1
  have hD1 := hP1.kc
  refine lyp Fr18 rfl hD1 rfl (by omega) (wanted_none rfl) (v := Value.bool true) (fun wr hwr => by simp only [execOp, (Fr18.eval 101 (by omega)).trans (show _ = Value.int .i64 (s.scode a) from by simp [upd, hs0, hs3, hs5, hs10]), (Fr18.eval 108 (by omega)).trans (show _ = Value.int .i64 (s.scode a) from by simp [upd, hs0, hs3, hs5, hs10])]; simp [go_sem, Act.eval]) fun Fr19 => ?_
  refine lyp Fr19 rfl hD1 rfl (by omega) (wanted_none rfl) (v := Value.bool true) (fun wr hwr => by simp only [execOp, (Fr19.eval 109 (by omega)).trans (show _ = Value.bool true from by simp [upd, hs0, hs3, hs5, hs10])]; first | rfl | simp [go_sem]) fun Fr110 => ?_
  refine ⟨fun _ => hD1, ?_⟩
  refine hK _ _ ?_
  clear F0 Fr11 Fr12 Fr13 Fr14 Fr15 Fr16 Fr17 Fr18 Fr19 Fr110 hs0 hs3 hs5 hs10 hK 
  simp only [Act.put, List.setIfInBounds_toArray, List.set_cons_succ, List.set_cons_zero]
  have HP1 : Hid _ := hP1
  clear hX1 hC1 hB1 hT1 hP1 hD1 HP0
  go_wp2_with fail
  go_ret
  exact ⟨rfl, _, PB.pr HP1.out (s.snext_ok hok a), HP1.out.q⟩
set_option maxRecDepth 100000 in
set_option maxHeartbeats 3200000 in
theorem played_10 {S : Sens} {L hp hl hr : Nat} {s : LS} (w : World) (hS : Sen S L w) (h : Pr hp hl hr s w) (L1 : L ≤ hl) (L2 : L ≤ hr) (who a b : Int) (ha : IntKind.i64.wrap a = a) (hb2 : IntKind.i64.wrap b = b) :
    Calls Tryd.prog 40 #[.pointer (some ⟨hp, 0, none⟩), .agg #[.int .i64 10, .int .i64 who, .int .i64 a, .int .i64 b]] w fun r w' => r = .returned (.bool true) ∧ ∃ s', Pr hp hl hr s' w' ∧ Stq2 hl hr w w' := by
  have hgr : Below w.heap.size w ((w.alloc (.cells #[.int .i64 10, .int .i64 who, .int .i64 a, .int .i64 b] 45)).alloc (.cells #[.int .i64 a, .int .i64 b] 29)) := by go_grown
  have hPB : PB S L hp hl hr w.heap.size (w.heap.size + 1) s s 10 who a b w ((w.alloc (.cells #[.int .i64 10, .int .i64 who, .int .i64 a, .int .i64 b] 45)).alloc (.cells #[.int .i64 a, .int .i64 b] 29)) := by
    refine ⟨h.p.below hgr h.p.lt, h.l.below hgr h.l.lt, h.r.below hgr h.r.lt, ?_, ?_, hS.below (hgr.mono (Nat.le_of_lt (Nat.lt_of_le_of_lt L1 h.l.lt))), (Stq2.refl hl hr w).more hgr, L1, L2⟩
    · exact (Below.heap_alloc _ _ _ (by simp)).trans (heap_alloc_new w _)
    · have := heap_alloc_new (w.alloc (.cells #[.int .i64 10, .int .i64 who, .int .i64 a, .int .i64 b] 45)) (.cells #[.int .i64 a, .int .i64 b] 29)
      rw [World.size_alloc] at this
      exact this
  have hok := h.ok
  have HPB : Hid _ := hPB
  clear hgr hPB hS h
  go_enter Tryd.func40, Tryd.ntmps40
  go_wp2_with fail
  rename_i K hK
  try rw [show ∀ a : Act, a.put none undef = a from fun _ => rfl]
  have hX0 : PB S L hp hl hr w.heap.size (w.heap.size + 1) s s 10 who a b w ({ ((w.alloc (.cells #[.int .i64 10, .int .i64 who, .int .i64 a, .int .i64 b] 45)).alloc (.cells #[.int .i64 a, .int .i64 b] 29)) with drawn := ((w.alloc (.cells #[.int .i64 10, .int .i64 who, .int .i64 a, .int .i64 b] 45)).alloc (.cells #[.int .i64 a, .int .i64 b] 29)).drawn + 1 } : World) := HPB.out.drew
  refine wp_region_mix (KC hp hl hr w.heap.size (w.heap.size + 1) 10 who a b) (fun i => i == 8 || i == 10) 10 (by kernel_rfl) rfl (by kernel_rfl) (by kernel_rfl) (by kernel_rfl) ?_
  generalize ({ ((w.alloc (.cells #[.int .i64 10, .int .i64 who, .int .i64 a, .int .i64 b] 45)).alloc (.cells #[.int .i64 a, .int .i64 b] 29)) with drawn := ((w.alloc (.cells #[.int .i64 10, .int .i64 who, .int .i64 a, .int .i64 b] 45)).alloc (.cells #[.int .i64 a, .int .i64 b] 29)).drawn + 1 } : World) = X0 at *
  have hC0 := hX0.kc
  refine withFrP (N := 158) rfl ?_
  intro f0 F0 hff
  have hs0 : f0 0 = Value.pointer (some ⟨hp, 0, none⟩) := hff 0
  have hs3 : f0 3 = Value.pointer (some ⟨w.heap.size, 0, none⟩) := hff 3
  have hs5 : f0 5 = Value.pointer (some ⟨w.heap.size + 1, 0, none⟩) := hff 5
  clear hff
  refine lyp F0 rfl hC0 rfl (by omega) (wanted_none rfl) (v := Value.pointer (some ⟨hp, 0, none⟩)) (fun wr hwr => by simp only [execOp, (F0.eval 0 (by omega)).trans (show _ = Value.pointer (some ⟨hp, 0, none⟩) from by simp [upd, hs0, hs3, hs5])]; first | rfl | simp [go_sem]) fun Fr01 => ?_
  refine lyp Fr01 rfl hC0 rfl (by omega) (wanted_none rfl) (v := Value.pointer (some ⟨hp, 0, none⟩)) (fun wr hwr => by simp only [execOp, (Fr01.eval 112 (by omega)).trans (show _ = Value.pointer (some ⟨hp, 0, none⟩) from by simp [upd, hs0, hs3, hs5])]; first | rfl | simp [go_sem]) fun Fr02 => ?_
  refine lyp Fr02 rfl hC0 rfl (by omega) (wanted_none rfl) (v := Value.pointer (some ⟨hp, 0, none⟩)) (fun wr hwr => by simp only [execOp, (Fr02.eval 113 (by omega)).trans (show _ = Value.pointer (some ⟨hp, 0, none⟩) from by simp [upd, hs0, hs3, hs5])]; first | rfl | simp [go_sem]) fun Fr03 => ?_
  refine lyp Fr03 rfl hC0 rfl (by omega) (wanted_none rfl) (v := Value.pointer (some ⟨hl, 0, none⟩)) (fun wr hwr => by simp only [execOp, (Fr03.eval 114 (by omega)).trans (show _ = Value.pointer (some ⟨hp, 0, none⟩) from by simp [upd, hs0, hs3, hs5])]; simp [go_sem, hwr.p0]) fun Fr04 => ?_
  refine lyp Fr04 rfl hC0 rfl (by omega) (wanted_none rfl) (v := Value.pointer (some ⟨w.heap.size, 2, none⟩)) (fun wr hwr => by simp only [execOp, (Fr04.eval 3 (by omega)).trans (show _ = Value.pointer (some ⟨w.heap.size, 0, none⟩) from by simp [upd, hs0, hs3, hs5])]; first | rfl | simp [go_sem]) fun Fr05 => ?_
  refine lyp Fr05 rfl hC0 rfl (by omega) (wanted_none rfl) (v := Value.int .i64 a) (fun wr hwr => by simp only [execOp, (Fr05.eval 116 (by omega)).trans (show _ = Value.pointer (some ⟨w.heap.size, 2, none⟩) from by simp [upd, hs0, hs3, hs5])]; simp [go_sem, hwr.o2]) fun Fr06 => ?_
  refine lyp Fr06 rfl hC0 rfl (by omega) (wanted_none rfl) (v := Value.pointer (some ⟨w.heap.size, 3, none⟩)) (fun wr hwr => by simp only [execOp, (Fr06.eval 3 (by omega)).trans (show _ = Value.pointer (some ⟨w.heap.size, 0, none⟩) from by simp [upd, hs0, hs3, hs5])]; first | rfl | simp [go_sem]) fun Fr07 => ?_
  refine lyp Fr07 rfl hC0 rfl (by omega) (wanted_none rfl) (v := Value.int .i64 b) (fun wr hwr => by simp only [execOp, (Fr07.eval 118 (by omega)).trans (show _ = Value.pointer (some ⟨w.heap.size, 3, none⟩) from by simp [upd, hs0, hs3, hs5])]; simp [go_sem, hwr.o3]) fun Fr08 => ?_
  refine lcp Fr08 rfl hC0 rfl (by omega) (wanted_none rfl) (g := 39) (args := #[Value.pointer (some ⟨hl, 0, none⟩), Value.int .i64 a, Value.int .i64 b]) (by simp only [execOp, resolve, invoke, List.map_toArray, List.map_cons, List.map_nil, (Fr08.eval 115 (by omega)).trans (show _ = Value.pointer (some ⟨hl, 0, none⟩) from by simp [upd, hs0, hs3, hs5]), (Fr08.eval 117 (by omega)).trans (show _ = Value.int .i64 a from by simp [upd, hs0, hs3, hs5]), (Fr08.eval 119 (by omega)).trans (show _ = Value.int .i64 b from by simp [upd, hs0, hs3, hs5])]; simp [go_sem, Act.eval]) (recap_any _ hX0.sen hX0.l hok hX0.L1 a b) ?_
  rintro e1 v0 ⟨rfl, hB0, hT0⟩
  refine ⟨_, rfl, fun Fr09 => ?_⟩
  have hP0 := hX0.left hB0 hT0
  have hD0 := hP0.kc
  refine lyp Fr09 rfl hD0 rfl (by omega) (wanted_none rfl) (v := Value.int .i64 (s.rcode a b)) (fun wr hwr => by simp only [execOp, (Fr09.eval 120 (by omega)).trans (show _ = Value.int .i64 (s.rcode a b) from by simp [upd, hs0, hs3, hs5])]; first | rfl | simp [go_sem]) fun Fr010 => ?_
  refine ⟨fun _ => hD0, ?_⟩
  refine hK _ _ ?_
  clear F0 Fr01 Fr02 Fr03 Fr04 Fr05 Fr06 Fr07 Fr08 Fr09 Fr010 hs0 hs3 hs5 hK 
  simp only [Act.put, List.setIfInBounds_toArray, List.set_cons_succ, List.set_cons_zero]
  have HP0 : Hid _ := hP0
  clear hX0 hC0 hB0 hT0 hP0 hD0 HPB
  go_wp2_with fail
  rename_i K hK
  try rw [show ∀ a : Act, a.put none undef = a from fun _ => rfl]
  have hX1 : PB S L hp hl hr w.heap.size (w.heap.size + 1) (s.rnext a b) s 10 who a b w ({ v0 with drawn := v0.drawn + 1 } : World) := HP0.out.drew
  refine wp_region_mix (KC hp hl hr w.heap.size (w.heap.size + 1) 10 who a b) (fun i => i == 9 || i == 12) 12 (by kernel_rfl) rfl (by kernel_rfl) (by kernel_rfl) (by kernel_rfl) ?_
  generalize ({ v0 with drawn := v0.drawn + 1 } : World) = X1 at *
  have hC1 := hX1.kc
  refine withFrP (N := 158) rfl ?_
  intro f0 F0 hff
  have hs0 : f0 0 = Value.pointer (some ⟨hp, 0, none⟩) := hff 0
  have hs3 : f0 3 = Value.pointer (some ⟨w.heap.size, 0, none⟩) := hff 3
  have hs5 : f0 5 = Value.pointer (some ⟨w.heap.size + 1, 0, none⟩) := hff 5
  have hs11 : f0 11 = Value.int .i64 (s.rcode a b) := hff 11
  clear hff
  refine lyp F0 rfl hC1 rfl (by omega) (wanted_none rfl) (v := Value.int .i64 (s.rcode a b)) (fun wr hwr => by simp only [execOp, (F0.eval 11 (by omega)).trans (show _ = Value.int .i64 (s.rcode a b) from by simp [upd, hs0, hs3, hs5, hs11])]; first | rfl | simp [go_sem]) fun Fr11 => ?_
  refine lyp Fr11 rfl hC1 rfl (by omega) (wanted_none rfl) (v := Value.pointer (some ⟨hp, 0, none⟩)) (fun wr hwr => by simp only [execOp, (Fr11.eval 0 (by omega)).trans (show _ = Value.pointer (some ⟨hp, 0, none⟩) from by simp [upd, hs0, hs3, hs5, hs11])]; first | rfl | simp [go_sem]) fun Fr12 => ?_
  refine lyp Fr12 rfl hC1 rfl (by omega) (wanted_none rfl) (v := Value.pointer (some ⟨hp, 0, none⟩)) (fun wr hwr => by simp only [execOp, (Fr12.eval 122 (by omega)).trans (show _ = Value.pointer (some ⟨hp, 0, none⟩) from by simp [upd, hs0, hs3, hs5, hs11])]; first | rfl | simp [go_sem]) fun Fr13 => ?_
  refine lyp Fr13 rfl hC1 rfl (by omega) (wanted_none rfl) (v := Value.pointer (some ⟨hp, 1, none⟩)) (fun wr hwr => by simp only [execOp, (Fr13.eval 123 (by omega)).trans (show _ = Value.pointer (some ⟨hp, 0, none⟩) from by simp [upd, hs0, hs3, hs5, hs11])]; first | rfl | simp [go_sem]) fun Fr14 => ?_
  refine lyp Fr14 rfl hC1 rfl (by omega) (wanted_none rfl) (v := Value.pointer (some ⟨hr, 0, none⟩)) (fun wr hwr => by simp only [execOp, (Fr14.eval 124 (by omega)).trans (show _ = Value.pointer (some ⟨hp, 1, none⟩) from by simp [upd, hs0, hs3, hs5, hs11])]; simp [go_sem, hwr.p1]) fun Fr15 => ?_
  refine lyp Fr15 rfl hC1 rfl (by omega) (wanted_none rfl) (v := Value.pointer (some ⟨w.heap.size, 2, none⟩)) (fun wr hwr => by simp only [execOp, (Fr15.eval 3 (by omega)).trans (show _ = Value.pointer (some ⟨w.heap.size, 0, none⟩) from by simp [upd, hs0, hs3, hs5, hs11])]; first | rfl | simp [go_sem]) fun Fr16 => ?_
  refine lyp Fr16 rfl hC1 rfl (by omega) (wanted_none rfl) (v := Value.int .i64 a) (fun wr hwr => by simp only [execOp, (Fr16.eval 126 (by omega)).trans (show _ = Value.pointer (some ⟨w.heap.size, 2, none⟩) from by simp [upd, hs0, hs3, hs5, hs11])]; simp [go_sem, hwr.o2]) fun Fr17 => ?_
  refine lyp Fr17 rfl hC1 rfl (by omega) (wanted_none rfl) (v := Value.pointer (some ⟨w.heap.size, 3, none⟩)) (fun wr hwr => by simp only [execOp, (Fr17.eval 3 (by omega)).trans (show _ = Value.pointer (some ⟨w.heap.size, 0, none⟩) from by simp [upd, hs0, hs3, hs5, hs11])]; first | rfl | simp [go_sem]) fun Fr18 => ?_
  refine lyp Fr18 rfl hC1 rfl (by omega) (wanted_none rfl) (v := Value.int .i64 b) (fun wr hwr => by simp only [execOp, (Fr18.eval 128 (by omega)).trans (show _ = Value.pointer (some ⟨w.heap.size, 3, none⟩) from by simp [upd, hs0, hs3, hs5, hs11])]; simp [go_sem, hwr.o3]) fun Fr19 => ?_
  refine lcp Fr19 rfl hC1 rfl (by omega) (wanted_none rfl) (g := 51) (args := #[Value.pointer (some ⟨hr, 0, none⟩), Value.int .i64 a, Value.int .i64 b]) (by simp only [execOp, resolve, invoke, List.map_toArray, List.map_cons, List.map_nil, (Fr19.eval 125 (by omega)).trans (show _ = Value.pointer (some ⟨hr, 0, none⟩) from by simp [upd, hs0, hs3, hs5, hs11]), (Fr19.eval 127 (by omega)).trans (show _ = Value.int .i64 a from by simp [upd, hs0, hs3, hs5, hs11]), (Fr19.eval 129 (by omega)).trans (show _ = Value.int .i64 b from by simp [upd, hs0, hs3, hs5, hs11])]; simp [go_sem, Act.eval]) (rrecap_any _ hX1.r hok a b) ?_
  rintro e2 v1 ⟨rfl, hB1, hT1⟩
  refine ⟨_, rfl, fun Fr110 => ?_⟩
  have hP1 := hX1.right hB1 hT1
  have hD1 := hP1.kc
  refine lyp Fr110 rfl hD1 rfl (by omega) (wanted_none rfl) (v := Value.bool true) (fun wr hwr => by simp only [execOp, (Fr110.eval 121 (by omega)).trans (show _ = Value.int .i64 (s.rcode a b) from by simp [upd, hs0, hs3, hs5, hs11]), (Fr110.eval 130 (by omega)).trans (show _ = Value.int .i64 (s.rcode a b) from by simp [upd, hs0, hs3, hs5, hs11])]; simp [go_sem, Act.eval]) fun Fr111 => ?_
  refine lyp Fr111 rfl hD1 rfl (by omega) (wanted_none rfl) (v := Value.bool true) (fun wr hwr => by simp only [execOp, (Fr111.eval 131 (by omega)).trans (show _ = Value.bool true from by simp [upd, hs0, hs3, hs5, hs11])]; first | rfl | simp [go_sem]) fun Fr112 => ?_
  refine ⟨fun _ => hD1, ?_⟩
  refine hK _ _ ?_
  clear F0 Fr11 Fr12 Fr13 Fr14 Fr15 Fr16 Fr17 Fr18 Fr19 Fr110 Fr111 Fr112 hs0 hs3 hs5 hs11 hK 
  simp only [Act.put, List.setIfInBounds_toArray, List.set_cons_succ, List.set_cons_zero]
  have HP1 : Hid _ := hP1
  clear hX1 hC1 hB1 hT1 hP1 hD1 HP0
  go_wp2_with fail
  go_ret
  exact ⟨rfl, _, PB.pr HP1.out (s.rnext_ok hok a b), HP1.out.q⟩
set_option maxRecDepth 100000 in
set_option maxHeartbeats 3200000 in
theorem played_11 {S : Sens} {L hp hl hr : Nat} {s : LS} (w : World) (hS : Sen S L w) (h : Pr hp hl hr s w) (L1 : L ≤ hl) (L2 : L ≤ hr) (who a b : Int) (ha : IntKind.i64.wrap a = a) (hb2 : IntKind.i64.wrap b = b) :
    Calls Tryd.prog 40 #[.pointer (some ⟨hp, 0, none⟩), .agg #[.int .i64 11, .int .i64 who, .int .i64 a, .int .i64 b]] w fun r w' => r = .returned (.bool true) ∧ ∃ s', Pr hp hl hr s' w' ∧ Stq2 hl hr w w' := by
  have hgr : Below w.heap.size w ((w.alloc (.cells #[.int .i64 11, .int .i64 who, .int .i64 a, .int .i64 b] 45)).alloc (.cells #[.int .i64 a, .int .i64 b] 29)) := by go_grown
  have hPB : PB S L hp hl hr w.heap.size (w.heap.size + 1) s s 11 who a b w ((w.alloc (.cells #[.int .i64 11, .int .i64 who, .int .i64 a, .int .i64 b] 45)).alloc (.cells #[.int .i64 a, .int .i64 b] 29)) := by
    refine ⟨h.p.below hgr h.p.lt, h.l.below hgr h.l.lt, h.r.below hgr h.r.lt, ?_, ?_, hS.below (hgr.mono (Nat.le_of_lt (Nat.lt_of_le_of_lt L1 h.l.lt))), (Stq2.refl hl hr w).more hgr, L1, L2⟩
    · exact (Below.heap_alloc _ _ _ (by simp)).trans (heap_alloc_new w _)
    · have := heap_alloc_new (w.alloc (.cells #[.int .i64 11, .int .i64 who, .int .i64 a, .int .i64 b] 45)) (.cells #[.int .i64 a, .int .i64 b] 29)
      rw [World.size_alloc] at this
      exact this
  have hok := h.ok
  have HPB : Hid _ := hPB
  clear hgr hPB hS h
  go_enter Tryd.func40, Tryd.ntmps40
  go_wp2_with fail
  rename_i K hK
  try rw [show ∀ a : Act, a.put none undef = a from fun _ => rfl]
  have hX0 : PB S L hp hl hr w.heap.size (w.heap.size + 1) s s 11 who a b w ({ ((w.alloc (.cells #[.int .i64 11, .int .i64 who, .int .i64 a, .int .i64 b] 45)).alloc (.cells #[.int .i64 a, .int .i64 b] 29)) with drawn := ((w.alloc (.cells #[.int .i64 11, .int .i64 who, .int .i64 a, .int .i64 b] 45)).alloc (.cells #[.int .i64 a, .int .i64 b] 29)).drawn + 1 } : World) := HPB.out.drew
  refine wp_region_mix (KC hp hl hr w.heap.size (w.heap.size + 1) 11 who a b) (fun i => i == 8 || i == 10) 10 (by kernel_rfl) rfl (by kernel_rfl) (by kernel_rfl) (by kernel_rfl) ?_
  generalize ({ ((w.alloc (.cells #[.int .i64 11, .int .i64 who, .int .i64 a, .int .i64 b] 45)).alloc (.cells #[.int .i64 a, .int .i64 b] 29)) with drawn := ((w.alloc (.cells #[.int .i64 11, .int .i64 who, .int .i64 a, .int .i64 b] 45)).alloc (.cells #[.int .i64 a, .int .i64 b] 29)).drawn + 1 } : World) = X0 at *
  have hC0 := hX0.kc
  refine withFrP (N := 158) rfl ?_
  intro f0 F0 hff
  have hs0 : f0 0 = Value.pointer (some ⟨hp, 0, none⟩) := hff 0
  have hs3 : f0 3 = Value.pointer (some ⟨w.heap.size, 0, none⟩) := hff 3
  have hs5 : f0 5 = Value.pointer (some ⟨w.heap.size + 1, 0, none⟩) := hff 5
  clear hff
  refine lyp F0 rfl hC0 rfl (by omega) (wanted_none rfl) (v := Value.pointer (some ⟨hp, 0, none⟩)) (fun wr hwr => by simp only [execOp, (F0.eval 0 (by omega)).trans (show _ = Value.pointer (some ⟨hp, 0, none⟩) from by simp [upd, hs0, hs3, hs5])]; first | rfl | simp [go_sem]) fun Fr01 => ?_
  refine lyp Fr01 rfl hC0 rfl (by omega) (wanted_none rfl) (v := Value.pointer (some ⟨hp, 0, none⟩)) (fun wr hwr => by simp only [execOp, (Fr01.eval 134 (by omega)).trans (show _ = Value.pointer (some ⟨hp, 0, none⟩) from by simp [upd, hs0, hs3, hs5])]; first | rfl | simp [go_sem]) fun Fr02 => ?_
  refine lyp Fr02 rfl hC0 rfl (by omega) (wanted_none rfl) (v := Value.pointer (some ⟨hp, 0, none⟩)) (fun wr hwr => by simp only [execOp, (Fr02.eval 135 (by omega)).trans (show _ = Value.pointer (some ⟨hp, 0, none⟩) from by simp [upd, hs0, hs3, hs5])]; first | rfl | simp [go_sem]) fun Fr03 => ?_
  refine lyp Fr03 rfl hC0 rfl (by omega) (wanted_none rfl) (v := Value.pointer (some ⟨hl, 0, none⟩)) (fun wr hwr => by simp only [execOp, (Fr03.eval 136 (by omega)).trans (show _ = Value.pointer (some ⟨hp, 0, none⟩) from by simp [upd, hs0, hs3, hs5])]; simp [go_sem, hwr.p0]) fun Fr04 => ?_
  refine lyp Fr04 rfl hC0 rfl (by omega) (wanted_none rfl) (v := Value.pointer (some ⟨w.heap.size, 2, none⟩)) (fun wr hwr => by simp only [execOp, (Fr04.eval 3 (by omega)).trans (show _ = Value.pointer (some ⟨w.heap.size, 0, none⟩) from by simp [upd, hs0, hs3, hs5])]; first | rfl | simp [go_sem]) fun Fr05 => ?_
  refine lyp Fr05 rfl hC0 rfl (by omega) (wanted_none rfl) (v := Value.int .i64 a) (fun wr hwr => by simp only [execOp, (Fr05.eval 138 (by omega)).trans (show _ = Value.pointer (some ⟨w.heap.size, 2, none⟩) from by simp [upd, hs0, hs3, hs5])]; simp [go_sem, hwr.o2]) fun Fr06 => ?_
  refine lyp Fr06 rfl hC0 rfl (by omega) (wanted_none rfl) (v := Value.pointer (some ⟨w.heap.size, 3, none⟩)) (fun wr hwr => by simp only [execOp, (Fr06.eval 3 (by omega)).trans (show _ = Value.pointer (some ⟨w.heap.size, 0, none⟩) from by simp [upd, hs0, hs3, hs5])]; first | rfl | simp [go_sem]) fun Fr07 => ?_
  refine lyp Fr07 rfl hC0 rfl (by omega) (wanted_none rfl) (v := Value.int .i64 b) (fun wr hwr => by simp only [execOp, (Fr07.eval 140 (by omega)).trans (show _ = Value.pointer (some ⟨w.heap.size, 3, none⟩) from by simp [upd, hs0, hs3, hs5])]; simp [go_sem, hwr.o3]) fun Fr08 => ?_
  refine lcp Fr08 rfl hC0 rfl (by omega) (wanted_none rfl) (g := 26) (args := #[Value.pointer (some ⟨hl, 0, none⟩), Value.int .i64 a, Value.int .i64 b]) (by simp only [execOp, resolve, invoke, List.map_toArray, List.map_cons, List.map_nil, (Fr08.eval 137 (by omega)).trans (show _ = Value.pointer (some ⟨hl, 0, none⟩) from by simp [upd, hs0, hs3, hs5]), (Fr08.eval 139 (by omega)).trans (show _ = Value.int .i64 a from by simp [upd, hs0, hs3, hs5]), (Fr08.eval 141 (by omega)).trans (show _ = Value.int .i64 b from by simp [upd, hs0, hs3, hs5])]; simp [go_sem, Act.eval]) (hear_any _ hX0.l hok a b) ?_
  rintro e1 v0 ⟨rfl, hB0, hT0⟩
  refine ⟨_, rfl, fun Fr09 => ?_⟩
  have hP0 := hX0.left hB0 hT0
  have hD0 := hP0.kc
  refine lyp Fr09 rfl hD0 rfl (by omega) (wanted_none rfl) (v := Value.bool (s.hcode a b)) (fun wr hwr => by simp only [execOp, (Fr09.eval 142 (by omega)).trans (show _ = Value.bool (s.hcode a b) from by simp [upd, hs0, hs3, hs5])]; first | rfl | simp [go_sem]) fun Fr010 => ?_
  refine ⟨fun _ => hD0, ?_⟩
  refine hK _ _ ?_
  clear F0 Fr01 Fr02 Fr03 Fr04 Fr05 Fr06 Fr07 Fr08 Fr09 Fr010 hs0 hs3 hs5 hK 
  simp only [Act.put, List.setIfInBounds_toArray, List.set_cons_succ, List.set_cons_zero]
  have HP0 : Hid _ := hP0
  clear hX0 hC0 hB0 hT0 hP0 hD0 HPB
  go_wp2_with fail
  rename_i K hK
  try rw [show ∀ a : Act, a.put none undef = a from fun _ => rfl]
  have hX1 : PB S L hp hl hr w.heap.size (w.heap.size + 1) (s.hnext a b) s 11 who a b w ({ v0 with drawn := v0.drawn + 1 } : World) := HP0.out.drew
  refine wp_region_mix (KC hp hl hr w.heap.size (w.heap.size + 1) 11 who a b) (fun i => i == 9 || i == 12) 12 (by kernel_rfl) rfl (by kernel_rfl) (by kernel_rfl) (by kernel_rfl) ?_
  generalize ({ v0 with drawn := v0.drawn + 1 } : World) = X1 at *
  have hC1 := hX1.kc
  refine withFrP (N := 158) rfl ?_
  intro f0 F0 hff
  have hs0 : f0 0 = Value.pointer (some ⟨hp, 0, none⟩) := hff 0
  have hs3 : f0 3 = Value.pointer (some ⟨w.heap.size, 0, none⟩) := hff 3
  have hs5 : f0 5 = Value.pointer (some ⟨w.heap.size + 1, 0, none⟩) := hff 5
  have hs12 : f0 12 = Value.bool (s.hcode a b) := hff 12
  clear hff
  refine lyp F0 rfl hC1 rfl (by omega) (wanted_none rfl) (v := Value.bool (s.hcode a b)) (fun wr hwr => by simp only [execOp, (F0.eval 12 (by omega)).trans (show _ = Value.bool (s.hcode a b) from by simp [upd, hs0, hs3, hs5, hs12])]; first | rfl | simp [go_sem]) fun Fr11 => ?_
  refine lyp Fr11 rfl hC1 rfl (by omega) (wanted_none rfl) (v := Value.pointer (some ⟨hp, 0, none⟩)) (fun wr hwr => by simp only [execOp, (Fr11.eval 0 (by omega)).trans (show _ = Value.pointer (some ⟨hp, 0, none⟩) from by simp [upd, hs0, hs3, hs5, hs12])]; first | rfl | simp [go_sem]) fun Fr12 => ?_
  refine lyp Fr12 rfl hC1 rfl (by omega) (wanted_none rfl) (v := Value.pointer (some ⟨hp, 0, none⟩)) (fun wr hwr => by simp only [execOp, (Fr12.eval 144 (by omega)).trans (show _ = Value.pointer (some ⟨hp, 0, none⟩) from by simp [upd, hs0, hs3, hs5, hs12])]; first | rfl | simp [go_sem]) fun Fr13 => ?_
  refine lyp Fr13 rfl hC1 rfl (by omega) (wanted_none rfl) (v := Value.pointer (some ⟨hp, 1, none⟩)) (fun wr hwr => by simp only [execOp, (Fr13.eval 145 (by omega)).trans (show _ = Value.pointer (some ⟨hp, 0, none⟩) from by simp [upd, hs0, hs3, hs5, hs12])]; first | rfl | simp [go_sem]) fun Fr14 => ?_
  refine lyp Fr14 rfl hC1 rfl (by omega) (wanted_none rfl) (v := Value.pointer (some ⟨hr, 0, none⟩)) (fun wr hwr => by simp only [execOp, (Fr14.eval 146 (by omega)).trans (show _ = Value.pointer (some ⟨hp, 1, none⟩) from by simp [upd, hs0, hs3, hs5, hs12])]; simp [go_sem, hwr.p1]) fun Fr15 => ?_
  refine lyp Fr15 rfl hC1 rfl (by omega) (wanted_none rfl) (v := Value.pointer (some ⟨w.heap.size, 2, none⟩)) (fun wr hwr => by simp only [execOp, (Fr15.eval 3 (by omega)).trans (show _ = Value.pointer (some ⟨w.heap.size, 0, none⟩) from by simp [upd, hs0, hs3, hs5, hs12])]; first | rfl | simp [go_sem]) fun Fr16 => ?_
  refine lyp Fr16 rfl hC1 rfl (by omega) (wanted_none rfl) (v := Value.int .i64 a) (fun wr hwr => by simp only [execOp, (Fr16.eval 148 (by omega)).trans (show _ = Value.pointer (some ⟨w.heap.size, 2, none⟩) from by simp [upd, hs0, hs3, hs5, hs12])]; simp [go_sem, hwr.o2]) fun Fr17 => ?_
  refine lyp Fr17 rfl hC1 rfl (by omega) (wanted_none rfl) (v := Value.pointer (some ⟨w.heap.size, 3, none⟩)) (fun wr hwr => by simp only [execOp, (Fr17.eval 3 (by omega)).trans (show _ = Value.pointer (some ⟨w.heap.size, 0, none⟩) from by simp [upd, hs0, hs3, hs5, hs12])]; first | rfl | simp [go_sem]) fun Fr18 => ?_
  refine lyp Fr18 rfl hC1 rfl (by omega) (wanted_none rfl) (v := Value.int .i64 b) (fun wr hwr => by simp only [execOp, (Fr18.eval 150 (by omega)).trans (show _ = Value.pointer (some ⟨w.heap.size, 3, none⟩) from by simp [upd, hs0, hs3, hs5, hs12])]; simp [go_sem, hwr.o3]) fun Fr19 => ?_
  refine lcp Fr19 rfl hC1 rfl (by omega) (wanted_none rfl) (g := 52) (args := #[Value.pointer (some ⟨hr, 0, none⟩), Value.int .i64 a, Value.int .i64 b]) (by simp only [execOp, resolve, invoke, List.map_toArray, List.map_cons, List.map_nil, (Fr19.eval 147 (by omega)).trans (show _ = Value.pointer (some ⟨hr, 0, none⟩) from by simp [upd, hs0, hs3, hs5, hs12]), (Fr19.eval 149 (by omega)).trans (show _ = Value.int .i64 a from by simp [upd, hs0, hs3, hs5, hs12]), (Fr19.eval 151 (by omega)).trans (show _ = Value.int .i64 b from by simp [upd, hs0, hs3, hs5, hs12])]; simp [go_sem, Act.eval]) (rhear_any _ hX1.r hok a b) ?_
  rintro e2 v1 ⟨rfl, hB1, hT1⟩
  refine ⟨_, rfl, fun Fr110 => ?_⟩
  have hP1 := hX1.right hB1 hT1
  have hD1 := hP1.kc
  refine lyp Fr110 rfl hD1 rfl (by omega) (wanted_none rfl) (v := Value.bool true) (fun wr hwr => by simp only [execOp, (Fr110.eval 143 (by omega)).trans (show _ = Value.bool (s.hcode a b) from by simp [upd, hs0, hs3, hs5, hs12]), (Fr110.eval 152 (by omega)).trans (show _ = Value.bool (s.hcode a b) from by simp [upd, hs0, hs3, hs5, hs12])]; simp [go_sem, Act.eval]) fun Fr111 => ?_
  refine lyp Fr111 rfl hD1 rfl (by omega) (wanted_none rfl) (v := Value.bool true) (fun wr hwr => by simp only [execOp, (Fr111.eval 153 (by omega)).trans (show _ = Value.bool true from by simp [upd, hs0, hs3, hs5, hs12])]; first | rfl | simp [go_sem]) fun Fr112 => ?_
  refine ⟨fun _ => hD1, ?_⟩
  refine hK _ _ ?_
  clear F0 Fr11 Fr12 Fr13 Fr14 Fr15 Fr16 Fr17 Fr18 Fr19 Fr110 Fr111 Fr112 hs0 hs3 hs5 hs12 hK 
  simp only [Act.put, List.setIfInBounds_toArray, List.set_cons_succ, List.set_cons_zero]
  have HP1 : Hid _ := hP1
  clear hX1 hC1 hB1 hT1 hP1 hD1 HP0
  go_wp2_with fail
  go_ret
  exact ⟨rfl, _, PB.pr HP1.out (s.hnext_ok hok a b), HP1.out.q⟩
end Go.Proofs.YtgnkkpcklljffaaDoor
