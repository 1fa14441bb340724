import Derived.Test.YtgnkkpcklljffaaDoorPair
namespace Go.Proofs.YtgnkkpcklljffaaDoor
open Go.RowKit Go.PlainAid
set_option linter.unusedVariables false
set_option linter.unusedSimpArgs false
set_option maxRecDepth 100000 in
set_option maxHeartbeats 3200000 in
theorem played_1 {S : Sens} {L hp hl hr : Nat} {s : LS} (w : World) (hS : Sen S L w) (h : Pr hp hl hr s w) (L1 : L ≤ hl) (L2 : L ≤ hr) (who a b : Int) (ha : IntKind.i64.wrap a = a) (hb2 : IntKind.i64.wrap b = b) :
    Calls Tryd.prog 40 #[.pointer (some ⟨hp, 0, none⟩), .agg #[.int .i64 1, .int .i64 who, .int .i64 a, .int .i64 b]] w fun r w' => r = .returned (.bool true) ∧ ∃ s', Pr hp hl hr s' w' ∧ Stq2 hl hr w w' := by
  have hgr : Below w.heap.size w ((w.alloc (.cells #[.int .i64 1, .int .i64 who, .int .i64 a, .int .i64 b] 45)).alloc (.cells #[.int .i64 a, .int .i64 b] 29)) := by go_grown
  have hPB : PB S L hp hl hr w.heap.size (w.heap.size + 1) s s 1 who a b w ((w.alloc (.cells #[.int .i64 1, .int .i64 who, .int .i64 a, .int .i64 b] 45)).alloc (.cells #[.int .i64 a, .int .i64 b] 29)) := by
    refine ⟨h.p.below hgr h.p.lt, h.l.below hgr h.l.lt, h.r.below hgr h.r.lt, ?_, ?_, hS.below (hgr.mono (Nat.le_of_lt (Nat.lt_of_le_of_lt L1 h.l.lt))), (Stq2.refl hl hr w).more hgr, L1, L2⟩
    · exact (Below.heap_alloc _ _ _ (by simp)).trans (heap_alloc_new w _)
    · have := heap_alloc_new (w.alloc (.cells #[.int .i64 1, .int .i64 who, .int .i64 a, .int .i64 b] 45)) (.cells #[.int .i64 a, .int .i64 b] 29)
      rw [World.size_alloc] at this
      exact this
  have hok := h.ok
  have HPB : Hid _ := hPB
  clear hgr hPB hS h
  go_enter Tryd.func40, Tryd.ntmps40
  go_wp2_with fail
  rename_i K hK
  try rw [show ∀ a : Act, a.put none undef = a from fun _ => rfl]
  have hX0 : PB S L hp hl hr w.heap.size (w.heap.size + 1) s s 1 who a b w ({ ((w.alloc (.cells #[.int .i64 1, .int .i64 who, .int .i64 a, .int .i64 b] 45)).alloc (.cells #[.int .i64 a, .int .i64 b] 29)) with drawn := ((w.alloc (.cells #[.int .i64 1, .int .i64 who, .int .i64 a, .int .i64 b] 45)).alloc (.cells #[.int .i64 a, .int .i64 b] 29)).drawn + 1 } : World) := HPB.out.drew
  refine wp_region_mix (KC hp hl hr w.heap.size (w.heap.size + 1) 1 who a b) (fun i => i == 8 || i == 10) 10 (by kernel_rfl) rfl (by kernel_rfl) (by kernel_rfl) (by kernel_rfl) ?_
  generalize ({ ((w.alloc (.cells #[.int .i64 1, .int .i64 who, .int .i64 a, .int .i64 b] 45)).alloc (.cells #[.int .i64 a, .int .i64 b] 29)) with drawn := ((w.alloc (.cells #[.int .i64 1, .int .i64 who, .int .i64 a, .int .i64 b] 45)).alloc (.cells #[.int .i64 a, .int .i64 b] 29)).drawn + 1 } : World) = X0 at *
  have hC0 := hX0.kc
  refine withFrP (N := 158) rfl ?_
  intro f0 F0 hff
  have hs0 : f0 0 = Value.pointer (some ⟨hp, 0, none⟩) := hff 0
  have hs3 : f0 3 = Value.pointer (some ⟨w.heap.size, 0, none⟩) := hff 3
  have hs5 : f0 5 = Value.pointer (some ⟨w.heap.size + 1, 0, none⟩) := hff 5
  clear hff
  refine lyp F0 rfl hC0 rfl (by omega) (wanted_none rfl) (v := Value.pointer (some ⟨hp, 0, none⟩)) (fun wr hwr => by simp only [execOp, (F0.eval 0 (by omega)).trans (show _ = Value.pointer (some ⟨hp, 0, none⟩) from by simp [upd, hs0, hs3, hs5])]; first | rfl | simp [go_sem]) fun Fr01 => ?_
  refine lyp Fr01 rfl hC0 rfl (by omega) (wanted_none rfl) (v := Value.pointer (some ⟨hp, 0, none⟩)) (fun wr hwr => by simp only [execOp, (Fr01.eval 26 (by omega)).trans (show _ = Value.pointer (some ⟨hp, 0, none⟩) from by simp [upd, hs0, hs3, hs5])]; first | rfl | simp [go_sem]) fun Fr02 => ?_
  refine lyp Fr02 rfl hC0 rfl (by omega) (wanted_none rfl) (v := Value.pointer (some ⟨hp, 0, none⟩)) (fun wr hwr => by simp only [execOp, (Fr02.eval 27 (by omega)).trans (show _ = Value.pointer (some ⟨hp, 0, none⟩) from by simp [upd, hs0, hs3, hs5])]; first | rfl | simp [go_sem]) fun Fr03 => ?_
  refine lyp Fr03 rfl hC0 rfl (by omega) (wanted_none rfl) (v := Value.pointer (some ⟨hl, 0, none⟩)) (fun wr hwr => by simp only [execOp, (Fr03.eval 28 (by omega)).trans (show _ = Value.pointer (some ⟨hp, 0, none⟩) from by simp [upd, hs0, hs3, hs5])]; simp [go_sem, hwr.p0]) fun Fr04 => ?_
  refine lyp Fr04 rfl hC0 rfl (by omega) (wanted_none rfl) (v := Value.pointer (some ⟨w.heap.size, 0, none⟩)) (fun wr hwr => by simp only [execOp, (Fr04.eval 3 (by omega)).trans (show _ = Value.pointer (some ⟨w.heap.size, 0, none⟩) from by simp [upd, hs0, hs3, hs5])]; first | rfl | simp [go_sem]) fun Fr05 => ?_
  refine lyp Fr05 rfl hC0 rfl (by omega) (wanted_none rfl) (v := Value.int .i64 1) (fun wr hwr => by simp only [execOp, (Fr05.eval 30 (by omega)).trans (show _ = Value.pointer (some ⟨w.heap.size, 0, none⟩) from by simp [upd, hs0, hs3, hs5])]; simp [go_sem, hwr.o0]) fun Fr06 => ?_
  refine lyp Fr06 rfl hC0 rfl (by omega) (wanted_none rfl) (v := Value.pointer (some ⟨w.heap.size, 2, none⟩)) (fun wr hwr => by simp only [execOp, (Fr06.eval 3 (by omega)).trans (show _ = Value.pointer (some ⟨w.heap.size, 0, none⟩) from by simp [upd, hs0, hs3, hs5])]; first | rfl | simp [go_sem]) fun Fr07 => ?_
  refine lyp Fr07 rfl hC0 rfl (by omega) (wanted_none rfl) (v := Value.int .i64 a) (fun wr hwr => by simp only [execOp, (Fr07.eval 32 (by omega)).trans (show _ = Value.pointer (some ⟨w.heap.size, 2, none⟩) from by simp [upd, hs0, hs3, hs5])]; simp [go_sem, hwr.o2]) fun Fr08 => ?_
  refine lcp Fr08 rfl hC0 rfl (by omega) (wanted_none rfl) (g := 23) (args := #[Value.pointer (some ⟨hl, 0, none⟩), Value.int .i64 1, Value.int .i64 a]) (by simp only [execOp, resolve, invoke, List.map_toArray, List.map_cons, List.map_nil, (Fr08.eval 29 (by omega)).trans (show _ = Value.pointer (some ⟨hl, 0, none⟩) from by simp [upd, hs0, hs3, hs5]), (Fr08.eval 31 (by omega)).trans (show _ = Value.int .i64 1 from by simp [upd, hs0, hs3, hs5]), (Fr08.eval 33 (by omega)).trans (show _ = Value.int .i64 a from by simp [upd, hs0, hs3, hs5])]; simp [go_sem, Act.eval]) (turned_any _ hX0.sen hX0.l hok hX0.L1 1 a) ?_
  rintro e1 v0 ⟨rfl, hB0, hT0⟩
  refine ⟨_, rfl, fun Fr09 => ?_⟩
  have hP0 := hX0.left hB0 hT0
  have hD0 := hP0.kc
  refine lyp Fr09 rfl hD0 rfl (by omega) (wanted_none rfl) (v := Value.int .i64 (s.tcode (fromOf 1) a)) (fun wr hwr => by simp only [execOp, (Fr09.eval 34 (by omega)).trans (show _ = Value.int .i64 (s.tcode (fromOf 1) a) from by simp [upd, hs0, hs3, hs5])]; first | rfl | simp [go_sem]) fun Fr010 => ?_
  refine ⟨fun _ => hD0, ?_⟩
  refine hK _ _ ?_
  clear F0 Fr01 Fr02 Fr03 Fr04 Fr05 Fr06 Fr07 Fr08 Fr09 Fr010 hs0 hs3 hs5 hK 
  simp only [Act.put, List.setIfInBounds_toArray, List.set_cons_succ, List.set_cons_zero]
  have HP0 : Hid _ := hP0
  clear hX0 hC0 hB0 hT0 hP0 hD0 HPB
  go_wp2_with fail
  rename_i K hK
  try rw [show ∀ a : Act, a.put none undef = a from fun _ => rfl]
  have hX1 : PB S L hp hl hr w.heap.size (w.heap.size + 1) (s.tnext (fromOf 1) (toOf 1) a) s 1 who a b w ({ v0 with drawn := v0.drawn + 1 } : World) := HP0.out.drew
  refine wp_region_mix (KC hp hl hr w.heap.size (w.heap.size + 1) 1 who a b) (fun i => i == 9 || i == 12) 12 (by kernel_rfl) rfl (by kernel_rfl) (by kernel_rfl) (by kernel_rfl) ?_
  generalize ({ v0 with drawn := v0.drawn + 1 } : World) = X1 at *
  have hC1 := hX1.kc
  refine withFrP (N := 158) rfl ?_
  intro f0 F0 hff
  have hs0 : f0 0 = Value.pointer (some ⟨hp, 0, none⟩) := hff 0
  have hs3 : f0 3 = Value.pointer (some ⟨w.heap.size, 0, none⟩) := hff 3
  have hs5 : f0 5 = Value.pointer (some ⟨w.heap.size + 1, 0, none⟩) := hff 5
  have hs6 : f0 6 = Value.int .i64 (s.tcode (fromOf 1) a) := hff 6
  clear hff
  refine lyp F0 rfl hC1 rfl (by omega) (wanted_none rfl) (v := Value.int .i64 (s.tcode (fromOf 1) a)) (fun wr hwr => by simp only [execOp, (F0.eval 6 (by omega)).trans (show _ = Value.int .i64 (s.tcode (fromOf 1) a) from by simp [upd, hs0, hs3, hs5, hs6])]; first | rfl | simp [go_sem]) fun Fr11 => ?_
  refine lyp Fr11 rfl hC1 rfl (by omega) (wanted_none rfl) (v := Value.pointer (some ⟨hp, 0, none⟩)) (fun wr hwr => by simp only [execOp, (Fr11.eval 0 (by omega)).trans (show _ = Value.pointer (some ⟨hp, 0, none⟩) from by simp [upd, hs0, hs3, hs5, hs6])]; first | rfl | simp [go_sem]) fun Fr12 => ?_
  refine lyp Fr12 rfl hC1 rfl (by omega) (wanted_none rfl) (v := Value.pointer (some ⟨hp, 0, none⟩)) (fun wr hwr => by simp only [execOp, (Fr12.eval 36 (by omega)).trans (show _ = Value.pointer (some ⟨hp, 0, none⟩) from by simp [upd, hs0, hs3, hs5, hs6])]; first | rfl | simp [go_sem]) fun Fr13 => ?_
  refine lyp Fr13 rfl hC1 rfl (by omega) (wanted_none rfl) (v := Value.pointer (some ⟨hp, 1, none⟩)) (fun wr hwr => by simp only [execOp, (Fr13.eval 37 (by omega)).trans (show _ = Value.pointer (some ⟨hp, 0, none⟩) from by simp [upd, hs0, hs3, hs5, hs6])]; first | rfl | simp [go_sem]) fun Fr14 => ?_
  refine lyp Fr14 rfl hC1 rfl (by omega) (wanted_none rfl) (v := Value.pointer (some ⟨hr, 0, none⟩)) (fun wr hwr => by simp only [execOp, (Fr14.eval 38 (by omega)).trans (show _ = Value.pointer (some ⟨hp, 1, none⟩) from by simp [upd, hs0, hs3, hs5, hs6])]; simp [go_sem, hwr.p1]) fun Fr15 => ?_
  refine lyp Fr15 rfl hC1 rfl (by omega) (wanted_none rfl) (v := Value.pointer (some ⟨w.heap.size, 0, none⟩)) (fun wr hwr => by simp only [execOp, (Fr15.eval 3 (by omega)).trans (show _ = Value.pointer (some ⟨w.heap.size, 0, none⟩) from by simp [upd, hs0, hs3, hs5, hs6])]; first | rfl | simp [go_sem]) fun Fr16 => ?_
  refine lyp Fr16 rfl hC1 rfl (by omega) (wanted_none rfl) (v := Value.int .i64 1) (fun wr hwr => by simp only [execOp, (Fr16.eval 40 (by omega)).trans (show _ = Value.pointer (some ⟨w.heap.size, 0, none⟩) from by simp [upd, hs0, hs3, hs5, hs6])]; simp [go_sem, hwr.o0]) fun Fr17 => ?_
  refine lyp Fr17 rfl hC1 rfl (by omega) (wanted_none rfl) (v := Value.pointer (some ⟨w.heap.size, 2, none⟩)) (fun wr hwr => by simp only [execOp, (Fr17.eval 3 (by omega)).trans (show _ = Value.pointer (some ⟨w.heap.size, 0, none⟩) from by simp [upd, hs0, hs3, hs5, hs6])]; first | rfl | simp [go_sem]) fun Fr18 => ?_
  refine lyp Fr18 rfl hC1 rfl (by omega) (wanted_none rfl) (v := Value.int .i64 a) (fun wr hwr => by simp only [execOp, (Fr18.eval 42 (by omega)).trans (show _ = Value.pointer (some ⟨w.heap.size, 2, none⟩) from by simp [upd, hs0, hs3, hs5, hs6])]; simp [go_sem, hwr.o2]) fun Fr19 => ?_
  refine lcp Fr19 rfl hC1 rfl (by omega) (wanted_none rfl) (g := 46) (args := #[Value.pointer (some ⟨hr, 0, none⟩), Value.int .i64 1, Value.int .i64 a]) (by simp only [execOp, resolve, invoke, List.map_toArray, List.map_cons, List.map_nil, (Fr19.eval 39 (by omega)).trans (show _ = Value.pointer (some ⟨hr, 0, none⟩) from by simp [upd, hs0, hs3, hs5, hs6]), (Fr19.eval 41 (by omega)).trans (show _ = Value.int .i64 1 from by simp [upd, hs0, hs3, hs5, hs6]), (Fr19.eval 43 (by omega)).trans (show _ = Value.int .i64 a from by simp [upd, hs0, hs3, hs5, hs6])]; simp [go_sem, Act.eval]) (rTurn_any _ hX1.r hok 1 a) ?_
  rintro e2 v1 ⟨rfl, hB1, hT1⟩
  refine ⟨_, rfl, fun Fr110 => ?_⟩
  have hP1 := hX1.right hB1 hT1
  have hD1 := hP1.kc
  refine lyp Fr110 rfl hD1 rfl (by omega) (wanted_none rfl) (v := Value.bool true) (fun wr hwr => by simp only [execOp, (Fr110.eval 35 (by omega)).trans (show _ = Value.int .i64 (s.tcode (fromOf 1) a) from by simp [upd, hs0, hs3, hs5, hs6]), (Fr110.eval 44 (by omega)).trans (show _ = Value.int .i64 (s.tcode (fromOf 1) a) from by simp [upd, hs0, hs3, hs5, hs6])]; simp [go_sem, Act.eval]) fun Fr111 => ?_
  refine lyp Fr111 rfl hD1 rfl (by omega) (wanted_none rfl) (v := Value.bool true) (fun wr hwr => by simp only [execOp, (Fr111.eval 45 (by omega)).trans (show _ = Value.bool true from by simp [upd, hs0, hs3, hs5, hs6])]; first | rfl | simp [go_sem]) fun Fr112 => ?_
  refine ⟨fun _ => hD1, ?_⟩
  refine hK _ _ ?_
  clear F0 Fr11 Fr12 Fr13 Fr14 Fr15 Fr16 Fr17 Fr18 Fr19 Fr110 Fr111 Fr112 hs0 hs3 hs5 hs6 hK 
  simp only [Act.put, List.setIfInBounds_toArray, List.set_cons_succ, List.set_cons_zero]
  have HP1 : Hid _ := hP1
  clear hX1 hC1 hB1 hT1 hP1 hD1 HP0
  go_wp2_with fail
  go_ret
  exact ⟨rfl, _, PB.pr HP1.out (s.tnext_ok hok _ _ (from_lt 1) (to_lt 1) (fromto 1) a), HP1.out.q⟩
set_option maxRecDepth 100000 in
set_option maxHeartbeats 3200000 in
theorem played_2 {S : Sens} {L hp hl hr : Nat} {s : LS} (w : World) (hS : Sen S L w) (h : Pr hp hl hr s w) (L1 : L ≤ hl) (L2 : L ≤ hr) (who a b : Int) (ha : IntKind.i64.wrap a = a) (hb2 : IntKind.i64.wrap b = b) :
    Calls Tryd.prog 40 #[.pointer (some ⟨hp, 0, none⟩), .agg #[.int .i64 2, .int .i64 who, .int .i64 a, .int .i64 b]] w fun r w' => r = .returned (.bool true) ∧ ∃ s', Pr hp hl hr s' w' ∧ Stq2 hl hr w w' := by
  have hgr : Below w.heap.size w ((w.alloc (.cells #[.int .i64 2, .int .i64 who, .int .i64 a, .int .i64 b] 45)).alloc (.cells #[.int .i64 a, .int .i64 b] 29)) := by go_grown
  have hPB : PB S L hp hl hr w.heap.size (w.heap.size + 1) s s 2 who a b w ((w.alloc (.cells #[.int .i64 2, .int .i64 who, .int .i64 a, .int .i64 b] 45)).alloc (.cells #[.int .i64 a, .int .i64 b] 29)) := by
    refine ⟨h.p.below hgr h.p.lt, h.l.below hgr h.l.lt, h.r.below hgr h.r.lt, ?_, ?_, hS.below (hgr.mono (Nat.le_of_lt (Nat.lt_of_le_of_lt L1 h.l.lt))), (Stq2.refl hl hr w).more hgr, L1, L2⟩
    · exact (Below.heap_alloc _ _ _ (by simp)).trans (heap_alloc_new w _)
    · have := heap_alloc_new (w.alloc (.cells #[.int .i64 2, .int .i64 who, .int .i64 a, .int .i64 b] 45)) (.cells #[.int .i64 a, .int .i64 b] 29)
      rw [World.size_alloc] at this
      exact this
  have hok := h.ok
  have HPB : Hid _ := hPB
  clear hgr hPB hS h
  go_enter Tryd.func40, Tryd.ntmps40
  go_wp2_with fail
  rename_i K hK
  try rw [show ∀ a : Act, a.put none undef = a from fun _ => rfl]
  have hX0 : PB S L hp hl hr w.heap.size (w.heap.size + 1) s s 2 who a b w ({ ((w.alloc (.cells #[.int .i64 2, .int .i64 who, .int .i64 a, .int .i64 b] 45)).alloc (.cells #[.int .i64 a, .int .i64 b] 29)) with drawn := ((w.alloc (.cells #[.int .i64 2, .int .i64 who, .int .i64 a, .int .i64 b] 45)).alloc (.cells #[.int .i64 a, .int .i64 b] 29)).drawn + 1 } : World) := HPB.out.drew
  refine wp_region_mix (KC hp hl hr w.heap.size (w.heap.size + 1) 2 who a b) (fun i => i == 8 || i == 10) 10 (by kernel_rfl) rfl (by kernel_rfl) (by kernel_rfl) (by kernel_rfl) ?_
  generalize ({ ((w.alloc (.cells #[.int .i64 2, .int .i64 who, .int .i64 a, .int .i64 b] 45)).alloc (.cells #[.int .i64 a, .int .i64 b] 29)) with drawn := ((w.alloc (.cells #[.int .i64 2, .int .i64 who, .int .i64 a, .int .i64 b] 45)).alloc (.cells #[.int .i64 a, .int .i64 b] 29)).drawn + 1 } : World) = X0 at *
  have hC0 := hX0.kc
  refine withFrP (N := 158) rfl ?_
  intro f0 F0 hff
  have hs0 : f0 0 = Value.pointer (some ⟨hp, 0, none⟩) := hff 0
  have hs3 : f0 3 = Value.pointer (some ⟨w.heap.size, 0, none⟩) := hff 3
  have hs5 : f0 5 = Value.pointer (some ⟨w.heap.size + 1, 0, none⟩) := hff 5
  clear hff
  refine lyp F0 rfl hC0 rfl (by omega) (wanted_none rfl) (v := Value.pointer (some ⟨hp, 0, none⟩)) (fun wr hwr => by simp only [execOp, (F0.eval 0 (by omega)).trans (show _ = Value.pointer (some ⟨hp, 0, none⟩) from by simp [upd, hs0, hs3, hs5])]; first | rfl | simp [go_sem]) fun Fr01 => ?_
  refine lyp Fr01 rfl hC0 rfl (by omega) (wanted_none rfl) (v := Value.pointer (some ⟨hp, 0, none⟩)) (fun wr hwr => by simp only [execOp, (Fr01.eval 26 (by omega)).trans (show _ = Value.pointer (some ⟨hp, 0, none⟩) from by simp [upd, hs0, hs3, hs5])]; first | rfl | simp [go_sem]) fun Fr02 => ?_
  refine lyp Fr02 rfl hC0 rfl (by omega) (wanted_none rfl) (v := Value.pointer (some ⟨hp, 0, none⟩)) (fun wr hwr => by simp only [execOp, (Fr02.eval 27 (by omega)).trans (show _ = Value.pointer (some ⟨hp, 0, none⟩) from by simp [upd, hs0, hs3, hs5])]; first | rfl | simp [go_sem]) fun Fr03 => ?_
  refine lyp Fr03 rfl hC0 rfl (by omega) (wanted_none rfl) (v := Value.pointer (some ⟨hl, 0, none⟩)) (fun wr hwr => by simp only [execOp, (Fr03.eval 28 (by omega)).trans (show _ = Value.pointer (some ⟨hp, 0, none⟩) from by simp [upd, hs0, hs3, hs5])]; simp [go_sem, hwr.p0]) fun Fr04 => ?_
  refine lyp Fr04 rfl hC0 rfl (by omega) (wanted_none rfl) (v := Value.pointer (some ⟨w.heap.size, 0, none⟩)) (fun wr hwr => by simp only [execOp, (Fr04.eval 3 (by omega)).trans (show _ = Value.pointer (some ⟨w.heap.size, 0, none⟩) from by simp [upd, hs0, hs3, hs5])]; first | rfl | simp [go_sem]) fun Fr05 => ?_
  refine lyp Fr05 rfl hC0 rfl (by omega) (wanted_none rfl) (v := Value.int .i64 2) (fun wr hwr => by simp only [execOp, (Fr05.eval 30 (by omega)).trans (show _ = Value.pointer (some ⟨w.heap.size, 0, none⟩) from by simp [upd, hs0, hs3, hs5])]; simp [go_sem, hwr.o0]) fun Fr06 => ?_
  refine lyp Fr06 rfl hC0 rfl (by omega) (wanted_none rfl) (v := Value.pointer (some ⟨w.heap.size, 2, none⟩)) (fun wr hwr => by simp only [execOp, (Fr06.eval 3 (by omega)).trans (show _ = Value.pointer (some ⟨w.heap.size, 0, none⟩) from by simp [upd, hs0, hs3, hs5])]; first | rfl | simp [go_sem]) fun Fr07 => ?_
  refine lyp Fr07 rfl hC0 rfl (by omega) (wanted_none rfl) (v := Value.int .i64 a) (fun wr hwr => by simp only [execOp, (Fr07.eval 32 (by omega)).trans (show _ = Value.pointer (some ⟨w.heap.size, 2, none⟩) from by simp [upd, hs0, hs3, hs5])]; simp [go_sem, hwr.o2]) fun Fr08 => ?_
  refine lcp Fr08 rfl hC0 rfl (by omega) (wanted_none rfl) (g := 23) (args := #[Value.pointer (some ⟨hl, 0, none⟩), Value.int .i64 2, Value.int .i64 a]) (by simp only [execOp, resolve, invoke, List.map_toArray, List.map_cons, List.map_nil, (Fr08.eval 29 (by omega)).trans (show _ = Value.pointer (some ⟨hl, 0, none⟩) from by simp [upd, hs0, hs3, hs5]), (Fr08.eval 31 (by omega)).trans (show _ = Value.int .i64 2 from by simp [upd, hs0, hs3, hs5]), (Fr08.eval 33 (by omega)).trans (show _ = Value.int .i64 a from by simp [upd, hs0, hs3, hs5])]; simp [go_sem, Act.eval]) (turned_any _ hX0.sen hX0.l hok hX0.L1 2 a) ?_
  rintro e1 v0 ⟨rfl, hB0, hT0⟩
  refine ⟨_, rfl, fun Fr09 => ?_⟩
  have hP0 := hX0.left hB0 hT0
  have hD0 := hP0.kc
  refine lyp Fr09 rfl hD0 rfl (by omega) (wanted_none rfl) (v := Value.int .i64 (s.tcode (fromOf 2) a)) (fun wr hwr => by simp only [execOp, (Fr09.eval 34 (by omega)).trans (show _ = Value.int .i64 (s.tcode (fromOf 2) a) from by simp [upd, hs0, hs3, hs5])]; first | rfl | simp [go_sem]) fun Fr010 => ?_
  refine ⟨fun _ => hD0, ?_⟩
  refine hK _ _ ?_
  clear F0 Fr01 Fr02 Fr03 Fr04 Fr05 Fr06 Fr07 Fr08 Fr09 Fr010 hs0 hs3 hs5 hK 
  simp only [Act.put, List.setIfInBounds_toArray, List.set_cons_succ, List.set_cons_zero]
  have HP0 : Hid _ := hP0
  clear hX0 hC0 hB0 hT0 hP0 hD0 HPB
  go_wp2_with fail
  rename_i K hK
  try rw [show ∀ a : Act, a.put none undef = a from fun _ => rfl]
  have hX1 : PB S L hp hl hr w.heap.size (w.heap.size + 1) (s.tnext (fromOf 2) (toOf 2) a) s 2 who a b w ({ v0 with drawn := v0.drawn + 1 } : World) := HP0.out.drew
  refine wp_region_mix (KC hp hl hr w.heap.size (w.heap.size + 1) 2 who a b) (fun i => i == 9 || i == 12) 12 (by kernel_rfl) rfl (by kernel_rfl) (by kernel_rfl) (by kernel_rfl) ?_
  generalize ({ v0 with drawn := v0.drawn + 1 } : World) = X1 at *
  have hC1 := hX1.kc
  refine withFrP (N := 158) rfl ?_
  intro f0 F0 hff
  have hs0 : f0 0 = Value.pointer (some ⟨hp, 0, none⟩) := hff 0
  have hs3 : f0 3 = Value.pointer (some ⟨w.heap.size, 0, none⟩) := hff 3
  have hs5 : f0 5 = Value.pointer (some ⟨w.heap.size + 1, 0, none⟩) := hff 5
  have hs6 : f0 6 = Value.int .i64 (s.tcode (fromOf 2) a) := hff 6
  clear hff
  refine lyp F0 rfl hC1 rfl (by omega) (wanted_none rfl) (v := Value.int .i64 (s.tcode (fromOf 2) a)) (fun wr hwr => by simp only [execOp, (F0.eval 6 (by omega)).trans (show _ = Value.int .i64 (s.tcode (fromOf 2) a) from by simp [upd, hs0, hs3, hs5, hs6])]; first | rfl | simp [go_sem]) fun Fr11 => ?_
  refine lyp Fr11 rfl hC1 rfl (by omega) (wanted_none rfl) (v := Value.pointer (some ⟨hp, 0, none⟩)) (fun wr hwr => by simp only [execOp, (Fr11.eval 0 (by omega)).trans (show _ = Value.pointer (some ⟨hp, 0, none⟩) from by simp [upd, hs0, hs3, hs5, hs6])]; first | rfl | simp [go_sem]) fun Fr12 => ?_
  refine lyp Fr12 rfl hC1 rfl (by omega) (wanted_none rfl) (v := Value.pointer (some ⟨hp, 0, none⟩)) (fun wr hwr => by simp only [execOp, (Fr12.eval 36 (by omega)).trans (show _ = Value.pointer (some ⟨hp, 0, none⟩) from by simp [upd, hs0, hs3, hs5, hs6])]; first | rfl | simp [go_sem]) fun Fr13 => ?_
  refine lyp Fr13 rfl hC1 rfl (by omega) (wanted_none rfl) (v := Value.pointer (some ⟨hp, 1, none⟩)) (fun wr hwr => by simp only [execOp, (Fr13.eval 37 (by omega)).trans (show _ = Value.pointer (some ⟨hp, 0, none⟩) from by simp [upd, hs0, hs3, hs5, hs6])]; first | rfl | simp [go_sem]) fun Fr14 => ?_
  refine lyp Fr14 rfl hC1 rfl (by omega) (wanted_none rfl) (v := Value.pointer (some ⟨hr, 0, none⟩)) (fun wr hwr => by simp only [execOp, (Fr14.eval 38 (by omega)).trans (show _ = Value.pointer (some ⟨hp, 1, none⟩) from by simp [upd, hs0, hs3, hs5, hs6])]; simp [go_sem, hwr.p1]) fun Fr15 => ?_
  refine lyp Fr15 rfl hC1 rfl (by omega) (wanted_none rfl) (v := Value.pointer (some ⟨w.heap.size, 0, none⟩)) (fun wr hwr => by simp only [execOp, (Fr15.eval 3 (by omega)).trans (show _ = Value.pointer (some ⟨w.heap.size, 0, none⟩) from by simp [upd, hs0, hs3, hs5, hs6])]; first | rfl | simp [go_sem]) fun Fr16 => ?_
  refine lyp Fr16 rfl hC1 rfl (by omega) (wanted_none rfl) (v := Value.int .i64 2) (fun wr hwr => by simp only [execOp, (Fr16.eval 40 (by omega)).trans (show _ = Value.pointer (some ⟨w.heap.size, 0, none⟩) from by simp [upd, hs0, hs3, hs5, hs6])]; simp [go_sem, hwr.o0]) fun Fr17 => ?_
  refine lyp Fr17 rfl hC1 rfl (by omega) (wanted_none rfl) (v := Value.pointer (some ⟨w.heap.size, 2, none⟩)) (fun wr hwr => by simp only [execOp, (Fr17.eval 3 (by omega)).trans (show _ = Value.pointer (some ⟨w.heap.size, 0, none⟩) from by simp [upd, hs0, hs3, hs5, hs6])]; first | rfl | simp [go_sem]) fun Fr18 => ?_
  refine lyp Fr18 rfl hC1 rfl (by omega) (wanted_none rfl) (v := Value.int .i64 a) (fun wr hwr => by simp only [execOp, (Fr18.eval 42 (by omega)).trans (show _ = Value.pointer (some ⟨w.heap.size, 2, none⟩) from by simp [upd, hs0, hs3, hs5, hs6])]; simp [go_sem, hwr.o2]) fun Fr19 => ?_
  refine lcp Fr19 rfl hC1 rfl (by omega) (wanted_none rfl) (g := 46) (args := #[Value.pointer (some ⟨hr, 0, none⟩), Value.int .i64 2, Value.int .i64 a]) (by simp only [execOp, resolve, invoke, List.map_toArray, List.map_cons, List.map_nil, (Fr19.eval 39 (by omega)).trans (show _ = Value.pointer (some ⟨hr, 0, none⟩) from by simp [upd, hs0, hs3, hs5, hs6]), (Fr19.eval 41 (by omega)).trans (show _ = Value.int .i64 2 from by simp [upd, hs0, hs3, hs5, hs6]), (Fr19.eval 43 (by omega)).trans (show _ = Value.int .i64 a from by simp [upd, hs0, hs3, hs5, hs6])]; simp [go_sem, Act.eval]) (rTurn_any _ hX1.r hok 2 a) ?_
  rintro e2 v1 ⟨rfl, hB1, hT1⟩
  refine ⟨_, rfl, fun Fr110 => ?_⟩
  have hP1 := hX1.right hB1 hT1
  have hD1 := hP1.kc
  refine lyp Fr110 rfl hD1 rfl (by omega) (wanted_none rfl) (v := Value.bool true) (fun wr hwr => by simp only [execOp, (Fr110.eval 35 (by omega)).trans (show _ = Value.int .i64 (s.tcode (fromOf 2) a) from by simp [upd, hs0, hs3, hs5, hs6]), (Fr110.eval 44 (by omega)).trans (show _ = Value.int .i64 (s.tcode (fromOf 2) a) from by simp [upd, hs0, hs3, hs5, hs6])]; simp [go_sem, Act.eval]) fun Fr111 => ?_
  refine lyp Fr111 rfl hD1 rfl (by omega) (wanted_none rfl) (v := Value.bool true) (fun wr hwr => by simp only [execOp, (Fr111.eval 45 (by omega)).trans (show _ = Value.bool true from by simp [upd, hs0, hs3, hs5, hs6])]; first | rfl | simp [go_sem]) fun Fr112 => ?_
  refine ⟨fun _ => hD1, ?_⟩
  refine hK _ _ ?_
  clear F0 Fr11 Fr12 Fr13 Fr14 Fr15 Fr16 Fr17 Fr18 Fr19 Fr110 Fr111 Fr112 hs0 hs3 hs5 hs6 hK 
  simp only [Act.put, List.setIfInBounds_toArray, List.set_cons_succ, List.set_cons_zero]
  have HP1 : Hid _ := hP1
  clear hX1 hC1 hB1 hT1 hP1 hD1 HP0
  go_wp2_with fail
  go_ret
  exact ⟨rfl, _, PB.pr HP1.out (s.tnext_ok hok _ _ (from_lt 2) (to_lt 2) (fromto 2) a), HP1.out.q⟩
set_option maxRecDepth 100000 in
set_option maxHeartbeats 3200000 in
theorem played_3 {S : Sens} {L hp hl hr : Nat} {s : LS} (w : World) (hS : Sen S L w) (h : Pr hp hl hr s w) (L1 : L ≤ hl) (L2 : L ≤ hr) (who a b : Int) (ha : IntKind.i64.wrap a = a) (hb2 : IntKind.i64.wrap b = b) :
    Calls Tryd.prog 40 #[.pointer (some ⟨hp, 0, none⟩), .agg #[.int .i64 3, .int .i64 who, .int .i64 a, .int .i64 b]] w fun r w' => r = .returned (.bool true) ∧ ∃ s', Pr hp hl hr s' w' ∧ Stq2 hl hr w w' := by
  have hgr : Below w.heap.size w ((w.alloc (.cells #[.int .i64 3, .int .i64 who, .int .i64 a, .int .i64 b] 45)).alloc (.cells #[.int .i64 a, .int .i64 b] 29)) := by go_grown
  have hPB : PB S L hp hl hr w.heap.size (w.heap.size + 1) s s 3 who a b w ((w.alloc (.cells #[.int .i64 3, .int .i64 who, .int .i64 a, .int .i64 b] 45)).alloc (.cells #[.int .i64 a, .int .i64 b] 29)) := by
    refine ⟨h.p.below hgr h.p.lt, h.l.below hgr h.l.lt, h.r.below hgr h.r.lt, ?_, ?_, hS.below (hgr.mono (Nat.le_of_lt (Nat.lt_of_le_of_lt L1 h.l.lt))), (Stq2.refl hl hr w).more hgr, L1, L2⟩
    · exact (Below.heap_alloc _ _ _ (by simp)).trans (heap_alloc_new w _)
    · have := heap_alloc_new (w.alloc (.cells #[.int .i64 3, .int .i64 who, .int .i64 a, .int .i64 b] 45)) (.cells #[.int .i64 a, .int .i64 b] 29)
      rw [World.size_alloc] at this
      exact this
  have hok := h.ok
  have HPB : Hid _ := hPB
  clear hgr hPB hS h
  go_enter Tryd.func40, Tryd.ntmps40
  go_wp2_with fail
  rename_i K hK
  try rw [show ∀ a : Act, a.put none undef = a from fun _ => rfl]
  have hX0 : PB S L hp hl hr w.heap.size (w.heap.size + 1) s s 3 who a b w ({ ((w.alloc (.cells #[.int .i64 3, .int .i64 who, .int .i64 a, .int .i64 b] 45)).alloc (.cells #[.int .i64 a, .int .i64 b] 29)) with drawn := ((w.alloc (.cells #[.int .i64 3, .int .i64 who, .int .i64 a, .int .i64 b] 45)).alloc (.cells #[.int .i64 a, .int .i64 b] 29)).drawn + 1 } : World) := HPB.out.drew
  refine wp_region_mix (KC hp hl hr w.heap.size (w.heap.size + 1) 3 who a b) (fun i => i == 8 || i == 10) 10 (by kernel_rfl) rfl (by kernel_rfl) (by kernel_rfl) (by kernel_rfl) ?_
  generalize ({ ((w.alloc (.cells #[.int .i64 3, .int .i64 who, .int .i64 a, .int .i64 b] 45)).alloc (.cells #[.int .i64 a, .int .i64 b] 29)) with drawn := ((w.alloc (.cells #[.int .i64 3, .int .i64 who, .int .i64 a, .int .i64 b] 45)).alloc (.cells #[.int .i64 a, .int .i64 b] 29)).drawn + 1 } : World) = X0 at *
  have hC0 := hX0.kc
  refine withFrP (N := 158) rfl ?_
  intro f0 F0 hff
  have hs0 : f0 0 = Value.pointer (some ⟨hp, 0, none⟩) := hff 0
  have hs3 : f0 3 = Value.pointer (some ⟨w.heap.size, 0, none⟩) := hff 3
  have hs5 : f0 5 = Value.pointer (some ⟨w.heap.size + 1, 0, none⟩) := hff 5
  clear hff
  refine lyp F0 rfl hC0 rfl (by omega) (wanted_none rfl) (v := Value.pointer (some ⟨hp, 0, none⟩)) (fun wr hwr => by simp only [execOp, (F0.eval 0 (by omega)).trans (show _ = Value.pointer (some ⟨hp, 0, none⟩) from by simp [upd, hs0, hs3, hs5])]; first | rfl | simp [go_sem]) fun Fr01 => ?_
  refine lyp Fr01 rfl hC0 rfl (by omega) (wanted_none rfl) (v := Value.pointer (some ⟨hp, 0, none⟩)) (fun wr hwr => by simp only [execOp, (Fr01.eval 26 (by omega)).trans (show _ = Value.pointer (some ⟨hp, 0, none⟩) from by simp [upd, hs0, hs3, hs5])]; first | rfl | simp [go_sem]) fun Fr02 => ?_
  refine lyp Fr02 rfl hC0 rfl (by omega) (wanted_none rfl) (v := Value.pointer (some ⟨hp, 0, none⟩)) (fun wr hwr => by simp only [execOp, (Fr02.eval 27 (by omega)).trans (show _ = Value.pointer (some ⟨hp, 0, none⟩) from by simp [upd, hs0, hs3, hs5])]; first | rfl | simp [go_sem]) fun Fr03 => ?_
  refine lyp Fr03 rfl hC0 rfl (by omega) (wanted_none rfl) (v := Value.pointer (some ⟨hl, 0, none⟩)) (fun wr hwr => by simp only [execOp, (Fr03.eval 28 (by omega)).trans (show _ = Value.pointer (some ⟨hp, 0, none⟩) from by simp [upd, hs0, hs3, hs5])]; simp [go_sem, hwr.p0]) fun Fr04 => ?_
  refine lyp Fr04 rfl hC0 rfl (by omega) (wanted_none rfl) (v := Value.pointer (some ⟨w.heap.size, 0, none⟩)) (fun wr hwr => by simp only [execOp, (Fr04.eval 3 (by omega)).trans (show _ = Value.pointer (some ⟨w.heap.size, 0, none⟩) from by simp [upd, hs0, hs3, hs5])]; first | rfl | simp [go_sem]) fun Fr05 => ?_
  refine lyp Fr05 rfl hC0 rfl (by omega) (wanted_none rfl) (v := Value.int .i64 3) (fun wr hwr => by simp only [execOp, (Fr05.eval 30 (by omega)).trans (show _ = Value.pointer (some ⟨w.heap.size, 0, none⟩) from by simp [upd, hs0, hs3, hs5])]; simp [go_sem, hwr.o0]) fun Fr06 => ?_
  refine lyp Fr06 rfl hC0 rfl (by omega) (wanted_none rfl) (v := Value.pointer (some ⟨w.heap.size, 2, none⟩)) (fun wr hwr => by simp only [execOp, (Fr06.eval 3 (by omega)).trans (show _ = Value.pointer (some ⟨w.heap.size, 0, none⟩) from by simp [upd, hs0, hs3, hs5])]; first | rfl | simp [go_sem]) fun Fr07 => ?_
  refine lyp Fr07 rfl hC0 rfl (by omega) (wanted_none rfl) (v := Value.int .i64 a) (fun wr hwr => by simp only [execOp, (Fr07.eval 32 (by omega)).trans (show _ = Value.pointer (some ⟨w.heap.size, 2, none⟩) from by simp [upd, hs0, hs3, hs5])]; simp [go_sem, hwr.o2]) fun Fr08 => ?_
  refine lcp Fr08 rfl hC0 rfl (by omega) (wanted_none rfl) (g := 23) (args := #[Value.pointer (some ⟨hl, 0, none⟩), Value.int .i64 3, Value.int .i64 a]) (by simp only [execOp, resolve, invoke, List.map_toArray, List.map_cons, List.map_nil, (Fr08.eval 29 (by omega)).trans (show _ = Value.pointer (some ⟨hl, 0, none⟩) from by simp [upd, hs0, hs3, hs5]), (Fr08.eval 31 (by omega)).trans (show _ = Value.int .i64 3 from by simp [upd, hs0, hs3, hs5]), (Fr08.eval 33 (by omega)).trans (show _ = Value.int .i64 a from by simp [upd, hs0, hs3, hs5])]; simp [go_sem, Act.eval]) (turned_any _ hX0.sen hX0.l hok hX0.L1 3 a) ?_
  rintro e1 v0 ⟨rfl, hB0, hT0⟩
  refine ⟨_, rfl, fun Fr09 => ?_⟩
  have hP0 := hX0.left hB0 hT0
  have hD0 := hP0.kc
  refine lyp Fr09 rfl hD0 rfl (by omega) (wanted_none rfl) (v := Value.int .i64 (s.tcode (fromOf 3) a)) (fun wr hwr => by simp only [execOp, (Fr09.eval 34 (by omega)).trans (show _ = Value.int .i64 (s.tcode (fromOf 3) a) from by simp [upd, hs0, hs3, hs5])]; first | rfl | simp [go_sem]) fun Fr010 => ?_
  refine ⟨fun _ => hD0, ?_⟩
  refine hK _ _ ?_
  clear F0 Fr01 Fr02 Fr03 Fr04 Fr05 Fr06 Fr07 Fr08 Fr09 Fr010 hs0 hs3 hs5 hK 
  simp only [Act.put, List.setIfInBounds_toArray, List.set_cons_succ, List.set_cons_zero]
  have HP0 : Hid _ := hP0
  clear hX0 hC0 hB0 hT0 hP0 hD0 HPB
  go_wp2_with fail
  rename_i K hK
  try rw [show ∀ a : Act, a.put none undef = a from fun _ => rfl]
  have hX1 : PB S L hp hl hr w.heap.size (w.heap.size + 1) (s.tnext (fromOf 3) (toOf 3) a) s 3 who a b w ({ v0 with drawn := v0.drawn + 1 } : World) := HP0.out.drew
  refine wp_region_mix (KC hp hl hr w.heap.size (w.heap.size + 1) 3 who a b) (fun i => i == 9 || i == 12) 12 (by kernel_rfl) rfl (by kernel_rfl) (by kernel_rfl) (by kernel_rfl) ?_
  generalize ({ v0 with drawn := v0.drawn + 1 } : World) = X1 at *
  have hC1 := hX1.kc
  refine withFrP (N := 158) rfl ?_
  intro f0 F0 hff
  have hs0 : f0 0 = Value.pointer (some ⟨hp, 0, none⟩) := hff 0
  have hs3 : f0 3 = Value.pointer (some ⟨w.heap.size, 0, none⟩) := hff 3
  have hs5 : f0 5 = Value.pointer (some ⟨w.heap.size + 1, 0, none⟩) := hff 5
  have hs6 : f0 6 = Value.int .i64 (s.tcode (fromOf 3) a) := hff 6
  clear hff
  refine lyp F0 rfl hC1 rfl (by omega) (wanted_none rfl) (v := Value.int .i64 (s.tcode (fromOf 3) a)) (fun wr hwr => by simp only [execOp, (F0.eval 6 (by omega)).trans (show _ = Value.int .i64 (s.tcode (fromOf 3) a) from by simp [upd, hs0, hs3, hs5, hs6])]; first | rfl | simp [go_sem]) fun Fr11 => ?_
  refine lyp Fr11 rfl hC1 rfl (by omega) (wanted_none rfl) (v := Value.pointer (some ⟨hp, 0, none⟩)) (fun wr hwr => by simp only [execOp, (Fr11.eval 0 (by omega)).trans (show _ = Value.pointer (some ⟨hp, 0, none⟩) from by simp [upd, hs0, hs3, hs5, hs6])]; first | rfl | simp [go_sem]) fun Fr12 => ?_
  refine lyp Fr12 rfl hC1 rfl (by omega) (wanted_none rfl) (v := Value.pointer (some ⟨hp, 0, none⟩)) (fun wr hwr => by simp only [execOp, (Fr12.eval 36 (by omega)).trans (show _ = Value.pointer (some ⟨hp, 0, none⟩) from by simp [upd, hs0, hs3, hs5, hs6])]; first | rfl | simp [go_sem]) fun Fr13 => ?_
  refine lyp Fr13 rfl hC1 rfl (by omega) (wanted_none rfl) (v := Value.pointer (some ⟨hp, 1, none⟩)) (fun wr hwr => by simp only [execOp, (Fr13.eval 37 (by omega)).trans (show _ = Value.pointer (some ⟨hp, 0, none⟩) from by simp [upd, hs0, hs3, hs5, hs6])]; first | rfl | simp [go_sem]) fun Fr14 => ?_
  refine lyp Fr14 rfl hC1 rfl (by omega) (wanted_none rfl) (v := Value.pointer (some ⟨hr, 0, none⟩)) (fun wr hwr => by simp only [execOp, (Fr14.eval 38 (by omega)).trans (show _ = Value.pointer (some ⟨hp, 1, none⟩) from by simp [upd, hs0, hs3, hs5, hs6])]; simp [go_sem, hwr.p1]) fun Fr15 => ?_
  refine lyp Fr15 rfl hC1 rfl (by omega) (wanted_none rfl) (v := Value.pointer (some ⟨w.heap.size, 0, none⟩)) (fun wr hwr => by simp only [execOp, (Fr15.eval 3 (by omega)).trans (show _ = Value.pointer (some ⟨w.heap.size, 0, none⟩) from by simp [upd, hs0, hs3, hs5, hs6])]; first | rfl | simp [go_sem]) fun Fr16 => ?_
  refine lyp Fr16 rfl hC1 rfl (by omega) (wanted_none rfl) (v := Value.int .i64 3) (fun wr hwr => by simp only [execOp, (Fr16.eval 40 (by omega)).trans (show _ = Value.pointer (some ⟨w.heap.size, 0, none⟩) from by simp [upd, hs0, hs3, hs5, hs6])]; simp [go_sem, hwr.o0]) fun Fr17 => ?_
  refine lyp Fr17 rfl hC1 rfl (by omega) (wanted_none rfl) (v := Value.pointer (some ⟨w.heap.size, 2, none⟩)) (fun wr hwr => by simp only [execOp, (Fr17.eval 3 (by omega)).trans (show _ = Value.pointer (some ⟨w.heap.size, 0, none⟩) from by simp [upd, hs0, hs3, hs5, hs6])]; first | rfl | simp [go_sem]) fun Fr18 => ?_
  refine lyp Fr18 rfl hC1 rfl (by omega) (wanted_none rfl) (v := Value.int .i64 a) (fun wr hwr => by simp only [execOp, (Fr18.eval 42 (by omega)).trans (show _ = Value.pointer (some ⟨w.heap.size, 2, none⟩) from by simp [upd, hs0, hs3, hs5, hs6])]; simp [go_sem, hwr.o2]) fun Fr19 => ?_
  refine lcp Fr19 rfl hC1 rfl (by omega) (wanted_none rfl) (g := 46) (args := #[Value.pointer (some ⟨hr, 0, none⟩), Value.int .i64 3, Value.int .i64 a]) (by simp only [execOp, resolve, invoke, List.map_toArray, List.map_cons, List.map_nil, (Fr19.eval 39 (by omega)).trans (show _ = Value.pointer (some ⟨hr, 0, none⟩) from by simp [upd, hs0, hs3, hs5, hs6]), (Fr19.eval 41 (by omega)).trans (show _ = Value.int .i64 3 from by simp [upd, hs0, hs3, hs5, hs6]), (Fr19.eval 43 (by omega)).trans (show _ = Value.int .i64 a from by simp [upd, hs0, hs3, hs5, hs6])]; simp [go_sem, Act.eval]) (rTurn_any _ hX1.r hok 3 a) ?_
  rintro e2 v1 ⟨rfl, hB1, hT1⟩
  refine ⟨_, rfl, fun Fr110 => ?_⟩
  have hP1 := hX1.right hB1 hT1
  have hD1 := hP1.kc
  refine lyp Fr110 rfl hD1 rfl (by omega) (wanted_none rfl) (v := Value.bool true) (fun wr hwr => by simp only [execOp, (Fr110.eval 35 (by omega)).trans (show _ = Value.int .i64 (s.tcode (fromOf 3) a) from by simp [upd, hs0, hs3, hs5, hs6]), (Fr110.eval 44 (by omega)).trans (show _ = Value.int .i64 (s.tcode (fromOf 3) a) from by simp [upd, hs0, hs3, hs5, hs6])]; simp [go_sem, Act.eval]) fun Fr111 => ?_
  refine lyp Fr111 rfl hD1 rfl (by omega) (wanted_none rfl) (v := Value.bool true) (fun wr hwr => by simp only [execOp, (Fr111.eval 45 (by omega)).trans (show _ = Value.bool true from by simp [upd, hs0, hs3, hs5, hs6])]; first | rfl | simp [go_sem]) fun Fr112 => ?_
  refine ⟨fun _ => hD1, ?_⟩
  refine hK _ _ ?_
  clear F0 Fr11 Fr12 Fr13 Fr14 Fr15 Fr16 Fr17 Fr18 Fr19 Fr110 Fr111 Fr112 hs0 hs3 hs5 hs6 hK 
  simp only [Act.put, List.setIfInBounds_toArray, List.set_cons_succ, List.set_cons_zero]
  have HP1 : Hid _ := hP1
  clear hX1 hC1 hB1 hT1 hP1 hD1 HP0
  go_wp2_with fail
  go_ret
  exact ⟨rfl, _, PB.pr HP1.out (s.tnext_ok hok _ _ (from_lt 3) (to_lt 3) (fromto 3) a), HP1.out.q⟩
set_option maxRecDepth 100000 in
set_option maxHeartbeats 3200000 in
theorem played_4 {S : Sens} {L hp hl hr : Nat} {s : LS} (w : World) (hS : Sen S L w) (h : Pr hp hl hr s w) (L1 : L ≤ hl) (L2 : L ≤ hr) (who a b : Int) (ha : IntKind.i64.wrap a = a) (hb2 : IntKind.i64.wrap b = b) :
    Calls Tryd.prog 40 #[.pointer (some ⟨hp, 0, none⟩), .agg #[.int .i64 4, .int .i64 who, .int .i64 a, .int .i64 b]] w fun r w' => r = .returned (.bool true) ∧ ∃ s', Pr hp hl hr s' w' ∧ Stq2 hl hr w w' := by
  have hgr : Below w.heap.size w ((w.alloc (.cells #[.int .i64 4, .int .i64 who, .int .i64 a, .int .i64 b] 45)).alloc (.cells #[.int .i64 a, .int .i64 b] 29)) := by go_grown
  have hPB : PB S L hp hl hr w.heap.size (w.heap.size + 1) s s 4 who a b w ((w.alloc (.cells #[.int .i64 4, .int .i64 who, .int .i64 a, .int .i64 b] 45)).alloc (.cells #[.int .i64 a, .int .i64 b] 29)) := by
    refine ⟨h.p.below hgr h.p.lt, h.l.below hgr h.l.lt, h.r.below hgr h.r.lt, ?_, ?_, hS.below (hgr.mono (Nat.le_of_lt (Nat.lt_of_le_of_lt L1 h.l.lt))), (Stq2.refl hl hr w).more hgr, L1, L2⟩
    · exact (Below.heap_alloc _ _ _ (by simp)).trans (heap_alloc_new w _)
    · have := heap_alloc_new (w.alloc (.cells #[.int .i64 4, .int .i64 who, .int .i64 a, .int .i64 b] 45)) (.cells #[.int .i64 a, .int .i64 b] 29)
      rw [World.size_alloc] at this
      exact this
  have hok := h.ok
  have HPB : Hid _ := hPB
  clear hgr hPB hS h
  go_enter Tryd.func40, Tryd.ntmps40
  go_wp2_with fail
  rename_i K hK
  try rw [show ∀ a : Act, a.put none undef = a from fun _ => rfl]
  have hX0 : PB S L hp hl hr w.heap.size (w.heap.size + 1) s s 4 who a b w ({ ((w.alloc (.cells #[.int .i64 4, .int .i64 who, .int .i64 a, .int .i64 b] 45)).alloc (.cells #[.int .i64 a, .int .i64 b] 29)) with drawn := ((w.alloc (.cells #[.int .i64 4, .int .i64 who, .int .i64 a, .int .i64 b] 45)).alloc (.cells #[.int .i64 a, .int .i64 b] 29)).drawn + 1 } : World) := HPB.out.drew
  refine wp_region_mix (KC hp hl hr w.heap.size (w.heap.size + 1) 4 who a b) (fun i => i == 8 || i == 10) 10 (by kernel_rfl) rfl (by kernel_rfl) (by kernel_rfl) (by kernel_rfl) ?_
  generalize ({ ((w.alloc (.cells #[.int .i64 4, .int .i64 who, .int .i64 a, .int .i64 b] 45)).alloc (.cells #[.int .i64 a, .int .i64 b] 29)) with drawn := ((w.alloc (.cells #[.int .i64 4, .int .i64 who, .int .i64 a, .int .i64 b] 45)).alloc (.cells #[.int .i64 a, .int .i64 b] 29)).drawn + 1 } : World) = X0 at *
  have hC0 := hX0.kc
  refine withFrP (N := 158) rfl ?_
  intro f0 F0 hff
  have hs0 : f0 0 = Value.pointer (some ⟨hp, 0, none⟩) := hff 0
  have hs3 : f0 3 = Value.pointer (some ⟨w.heap.size, 0, none⟩) := hff 3
  have hs5 : f0 5 = Value.pointer (some ⟨w.heap.size + 1, 0, none⟩) := hff 5
  clear hff
  refine lyp F0 rfl hC0 rfl (by omega) (wanted_none rfl) (v := Value.pointer (some ⟨hp, 0, none⟩)) (fun wr hwr => by simp only [execOp, (F0.eval 0 (by omega)).trans (show _ = Value.pointer (some ⟨hp, 0, none⟩) from by simp [upd, hs0, hs3, hs5])]; first | rfl | simp [go_sem]) fun Fr01 => ?_
  refine lyp Fr01 rfl hC0 rfl (by omega) (wanted_none rfl) (v := Value.pointer (some ⟨hp, 0, none⟩)) (fun wr hwr => by simp only [execOp, (Fr01.eval 26 (by omega)).trans (show _ = Value.pointer (some ⟨hp, 0, none⟩) from by simp [upd, hs0, hs3, hs5])]; first | rfl | simp [go_sem]) fun Fr02 => ?_
  refine lyp Fr02 rfl hC0 rfl (by omega) (wanted_none rfl) (v := Value.pointer (some ⟨hp, 0, none⟩)) (fun wr hwr => by simp only [execOp, (Fr02.eval 27 (by omega)).trans (show _ = Value.pointer (some ⟨hp, 0, none⟩) from by simp [upd, hs0, hs3, hs5])]; first | rfl | simp [go_sem]) fun Fr03 => ?_
  refine lyp Fr03 rfl hC0 rfl (by omega) (wanted_none rfl) (v := Value.pointer (some ⟨hl, 0, none⟩)) (fun wr hwr => by simp only [execOp, (Fr03.eval 28 (by omega)).trans (show _ = Value.pointer (some ⟨hp, 0, none⟩) from by simp [upd, hs0, hs3, hs5])]; simp [go_sem, hwr.p0]) fun Fr04 => ?_
  refine lyp Fr04 rfl hC0 rfl (by omega) (wanted_none rfl) (v := Value.pointer (some ⟨w.heap.size, 0, none⟩)) (fun wr hwr => by simp only [execOp, (Fr04.eval 3 (by omega)).trans (show _ = Value.pointer (some ⟨w.heap.size, 0, none⟩) from by simp [upd, hs0, hs3, hs5])]; first | rfl | simp [go_sem]) fun Fr05 => ?_
  refine lyp Fr05 rfl hC0 rfl (by omega) (wanted_none rfl) (v := Value.int .i64 4) (fun wr hwr => by simp only [execOp, (Fr05.eval 30 (by omega)).trans (show _ = Value.pointer (some ⟨w.heap.size, 0, none⟩) from by simp [upd, hs0, hs3, hs5])]; simp [go_sem, hwr.o0]) fun Fr06 => ?_
  refine lyp Fr06 rfl hC0 rfl (by omega) (wanted_none rfl) (v := Value.pointer (some ⟨w.heap.size, 2, none⟩)) (fun wr hwr => by simp only [execOp, (Fr06.eval 3 (by omega)).trans (show _ = Value.pointer (some ⟨w.heap.size, 0, none⟩) from by simp [upd, hs0, hs3, hs5])]; first | rfl | simp [go_sem]) fun Fr07 => ?_
  refine lyp Fr07 rfl hC0 rfl (by omega) (wanted_none rfl) (v := Value.int .i64 a) (fun wr hwr => by simp only [execOp, (Fr07.eval 32 (by omega)).trans (show _ = Value.pointer (some ⟨w.heap.size, 2, none⟩) from by simp [upd, hs0, hs3, hs5])]; simp [go_sem, hwr.o2]) fun Fr08 => ?_
  refine lcp Fr08 rfl hC0 rfl (by omega) (wanted_none rfl) (g := 23) (args := #[Value.pointer (some ⟨hl, 0, none⟩), Value.int .i64 4, Value.int .i64 a]) (by simp only [execOp, resolve, invoke, List.map_toArray, List.map_cons, List.map_nil, (Fr08.eval 29 (by omega)).trans (show _ = Value.pointer (some ⟨hl, 0, none⟩) from by simp [upd, hs0, hs3, hs5]), (Fr08.eval 31 (by omega)).trans (show _ = Value.int .i64 4 from by simp [upd, hs0, hs3, hs5]), (Fr08.eval 33 (by omega)).trans (show _ = Value.int .i64 a from by simp [upd, hs0, hs3, hs5])]; simp [go_sem, Act.eval]) (turned_any _ hX0.sen hX0.l hok hX0.L1 4 a) ?_
  rintro e1 v0 ⟨rfl, hB0, hT0⟩
  refine ⟨_, rfl, fun Fr09 => ?_⟩
  have hP0 := hX0.left hB0 hT0
  have hD0 := hP0.kc
  refine lyp Fr09 rfl hD0 rfl (by omega) (wanted_none rfl) (v := Value.int .i64 (s.tcode (fromOf 4) a)) (fun wr hwr => by simp only [execOp, (Fr09.eval 34 (by omega)).trans (show _ = Value.int .i64 (s.tcode (fromOf 4) a) from by simp [upd, hs0, hs3, hs5])]; first | rfl | simp [go_sem]) fun Fr010 => ?_
  refine ⟨fun _ => hD0, ?_⟩
  refine hK _ _ ?_
  clear F0 Fr01 Fr02 Fr03 Fr04 Fr05 Fr06 Fr07 Fr08 Fr09 Fr010 hs0 hs3 hs5 hK 
  simp only [Act.put, List.setIfInBounds_toArray, List.set_cons_succ, List.set_cons_zero]
  have HP0 : Hid _ := hP0
  clear hX0 hC0 hB0 hT0 hP0 hD0 HPB
  go_wp2_with fail
  rename_i K hK
  try rw [show ∀ a : Act, a.put none undef = a from fun _ => rfl]
  have hX1 : PB S L hp hl hr w.heap.size (w.heap.size + 1) (s.tnext (fromOf 4) (toOf 4) a) s 4 who a b w ({ v0 with drawn := v0.drawn + 1 } : World) := HP0.out.drew
  refine wp_region_mix (KC hp hl hr w.heap.size (w.heap.size + 1) 4 who a b) (fun i => i == 9 || i == 12) 12 (by kernel_rfl) rfl (by kernel_rfl) (by kernel_rfl) (by kernel_rfl) ?_
  generalize ({ v0 with drawn := v0.drawn + 1 } : World) = X1 at *
  have hC1 := hX1.kc
  refine withFrP (N := 158) rfl ?_
  intro f0 F0 hff
  have hs0 : f0 0 = Value.pointer (some ⟨hp, 0, none⟩) := hff 0
  have hs3 : f0 3 = Value.pointer (some ⟨w.heap.size, 0, none⟩) := hff 3
  have hs5 : f0 5 = Value.pointer (some ⟨w.heap.size + 1, 0, none⟩) := hff 5
  have hs6 : f0 6 = Value.int .i64 (s.tcode (fromOf 4) a) := hff 6
  clear hff
  refine lyp F0 rfl hC1 rfl (by omega) (wanted_none rfl) (v := Value.int .i64 (s.tcode (fromOf 4) a)) (fun wr hwr => by simp only [execOp, (F0.eval 6 (by omega)).trans (show _ = Value.int .i64 (s.tcode (fromOf 4) a) from by simp [upd, hs0, hs3, hs5, hs6])]; first | rfl | simp [go_sem]) fun Fr11 => ?_
  refine lyp Fr11 rfl hC1 rfl (by omega) (wanted_none rfl) (v := Value.pointer (some ⟨hp, 0, none⟩)) (fun wr hwr => by simp only [execOp, (Fr11.eval 0 (by omega)).trans (show _ = Value.pointer (some ⟨hp, 0, none⟩) from by simp [upd, hs0, hs3, hs5, hs6])]; first | rfl | simp [go_sem]) fun Fr12 => ?_
  refine lyp Fr12 rfl hC1 rfl (by omega) (wanted_none rfl) (v := Value.pointer (some ⟨hp, 0, none⟩)) (fun wr hwr => by simp only [execOp, (Fr12.eval 36 (by omega)).trans (show _ = Value.pointer (some ⟨hp, 0, none⟩) from by simp [upd, hs0, hs3, hs5, hs6])]; first | rfl | simp [go_sem]) fun Fr13 => ?_
  refine lyp Fr13 rfl hC1 rfl (by omega) (wanted_none rfl) (v := Value.pointer (some ⟨hp, 1, none⟩)) (fun wr hwr => by simp only [execOp, (Fr13.eval 37 (by omega)).trans (show _ = Value.pointer (some ⟨hp, 0, none⟩) from by simp [upd, hs0, hs3, hs5, hs6])]; first | rfl | simp [go_sem]) fun Fr14 => ?_
  refine lyp Fr14 rfl hC1 rfl (by omega) (wanted_none rfl) (v := Value.pointer (some ⟨hr, 0, none⟩)) (fun wr hwr => by simp only [execOp, (Fr14.eval 38 (by omega)).trans (show _ = Value.pointer (some ⟨hp, 1, none⟩) from by simp [upd, hs0, hs3, hs5, hs6])]; simp [go_sem, hwr.p1]) fun Fr15 => ?_
  refine lyp Fr15 rfl hC1 rfl (by omega) (wanted_none rfl) (v := Value.pointer (some ⟨w.heap.size, 0, none⟩)) (fun wr hwr => by simp only [execOp, (Fr15.eval 3 (by omega)).trans (show _ = Value.pointer (some ⟨w.heap.size, 0, none⟩) from by simp [upd, hs0, hs3, hs5, hs6])]; first | rfl | simp [go_sem]) fun Fr16 => ?_
  refine lyp Fr16 rfl hC1 rfl (by omega) (wanted_none rfl) (v := Value.int .i64 4) (fun wr hwr => by simp only [execOp, (Fr16.eval 40 (by omega)).trans (show _ = Value.pointer (some ⟨w.heap.size, 0, none⟩) from by simp [upd, hs0, hs3, hs5, hs6])]; simp [go_sem, hwr.o0]) fun Fr17 => ?_
  refine lyp Fr17 rfl hC1 rfl (by omega) (wanted_none rfl) (v := Value.pointer (some ⟨w.heap.size, 2, none⟩)) (fun wr hwr => by simp only [execOp, (Fr17.eval 3 (by omega)).trans (show _ = Value.pointer (some ⟨w.heap.size, 0, none⟩) from by simp [upd, hs0, hs3, hs5, hs6])]; first | rfl | simp [go_sem]) fun Fr18 => ?_
  refine lyp Fr18 rfl hC1 rfl (by omega) (wanted_none rfl) (v := Value.int .i64 a) (fun wr hwr => by simp only [execOp, (Fr18.eval 42 (by omega)).trans (show _ = Value.pointer (some ⟨w.heap.size, 2, none⟩) from by simp [upd, hs0, hs3, hs5, hs6])]; simp [go_sem, hwr.o2]) fun Fr19 => ?_
  refine lcp Fr19 rfl hC1 rfl (by omega) (wanted_none rfl) (g := 46) (args := #[Value.pointer (some ⟨hr, 0, none⟩), Value.int .i64 4, Value.int .i64 a]) (by simp only [execOp, resolve, invoke, List.map_toArray, List.map_cons, List.map_nil, (Fr19.eval 39 (by omega)).trans (show _ = Value.pointer (some ⟨hr, 0, none⟩) from by simp [upd, hs0, hs3, hs5, hs6]), (Fr19.eval 41 (by omega)).trans (show _ = Value.int .i64 4 from by simp [upd, hs0, hs3, hs5, hs6]), (Fr19.eval 43 (by omega)).trans (show _ = Value.int .i64 a from by simp [upd, hs0, hs3, hs5, hs6])]; simp [go_sem, Act.eval]) (rTurn_any _ hX1.r hok 4 a) ?_
  rintro e2 v1 ⟨rfl, hB1, hT1⟩
  refine ⟨_, rfl, fun Fr110 => ?_⟩
  have hP1 := hX1.right hB1 hT1
  have hD1 := hP1.kc
  refine lyp Fr110 rfl hD1 rfl (by omega) (wanted_none rfl) (v := Value.bool true) (fun wr hwr => by simp only [execOp, (Fr110.eval 35 (by omega)).trans (show _ = Value.int .i64 (s.tcode (fromOf 4) a) from by simp [upd, hs0, hs3, hs5, hs6]), (Fr110.eval 44 (by omega)).trans (show _ = Value.int .i64 (s.tcode (fromOf 4) a) from by simp [upd, hs0, hs3, hs5, hs6])]; simp [go_sem, Act.eval]) fun Fr111 => ?_
  refine lyp Fr111 rfl hD1 rfl (by omega) (wanted_none rfl) (v := Value.bool true) (fun wr hwr => by simp only [execOp, (Fr111.eval 45 (by omega)).trans (show _ = Value.bool true from by simp [upd, hs0, hs3, hs5, hs6])]; first | rfl | simp [go_sem]) fun Fr112 => ?_
  refine ⟨fun _ => hD1, ?_⟩
  refine hK _ _ ?_
  clear F0 Fr11 Fr12 Fr13 Fr14 Fr15 Fr16 Fr17 Fr18 Fr19 Fr110 Fr111 Fr112 hs0 hs3 hs5 hs6 hK 
  simp only [Act.put, List.setIfInBounds_toArray, List.set_cons_succ, List.set_cons_zero]
  have HP1 : Hid _ := hP1
  clear hX1 hC1 hB1 hT1 hP1 hD1 HP0
  go_wp2_with fail
  go_ret
  exact ⟨rfl, _, PB.pr HP1.out (s.tnext_ok hok _ _ (from_lt 4) (to_lt 4) (fromto 4) a), HP1.out.q⟩
set_option maxRecDepth 100000 in
set_option maxHeartbeats 3200000 in
theorem played_5 {S : Sens} {L hp hl hr : Nat} {s : LS} (w : World) (hS : Sen S L w) (h : Pr hp hl hr s w) (L1 : L ≤ hl) (L2 : L ≤ hr) (who a b : Int) (ha : IntKind.i64.wrap a = a) (hb2 : IntKind.i64.wrap b = b) :
    Calls Tryd.prog 40 #[.pointer (some ⟨hp, 0, none⟩), .agg #[.int .i64 5, .int .i64 who, .int .i64 a, .int .i64 b]] w fun r w' => r = .returned (.bool true) ∧ ∃ s', Pr hp hl hr s' w' ∧ Stq2 hl hr w w' := by
  have hgr : Below w.heap.size w ((w.alloc (.cells #[.int .i64 5, .int .i64 who, .int .i64 a, .int .i64 b] 45)).alloc (.cells #[.int .i64 a, .int .i64 b] 29)) := by go_grown
  have hPB : PB S L hp hl hr w.heap.size (w.heap.size + 1) s s 5 who a b w ((w.alloc (.cells #[.int .i64 5, .int .i64 who, .int .i64 a, .int .i64 b] 45)).alloc (.cells #[.int .i64 a, .int .i64 b] 29)) := by
    refine ⟨h.p.below hgr h.p.lt, h.l.below hgr h.l.lt, h.r.below hgr h.r.lt, ?_, ?_, hS.below (hgr.mono (Nat.le_of_lt (Nat.lt_of_le_of_lt L1 h.l.lt))), (Stq2.refl hl hr w).more hgr, L1, L2⟩
    · exact (Below.heap_alloc _ _ _ (by simp)).trans (heap_alloc_new w _)
    · have := heap_alloc_new (w.alloc (.cells #[.int .i64 5, .int .i64 who, .int .i64 a, .int .i64 b] 45)) (.cells #[.int .i64 a, .int .i64 b] 29)
      rw [World.size_alloc] at this
      exact this
  have hok := h.ok
  have HPB : Hid _ := hPB
  clear hgr hPB hS h
  go_enter Tryd.func40, Tryd.ntmps40
  go_wp2_with fail
  rename_i K hK
  try rw [show ∀ a : Act, a.put none undef = a from fun _ => rfl]
  have hX0 : PB S L hp hl hr w.heap.size (w.heap.size + 1) s s 5 who a b w ({ ((w.alloc (.cells #[.int .i64 5, .int .i64 who, .int .i64 a, .int .i64 b] 45)).alloc (.cells #[.int .i64 a, .int .i64 b] 29)) with drawn := ((w.alloc (.cells #[.int .i64 5, .int .i64 who, .int .i64 a, .int .i64 b] 45)).alloc (.cells #[.int .i64 a, .int .i64 b] 29)).drawn + 1 } : World) := HPB.out.drew
  refine wp_region_mix (KC hp hl hr w.heap.size (w.heap.size + 1) 5 who a b) (fun i => i == 8 || i == 10) 10 (by kernel_rfl) rfl (by kernel_rfl) (by kernel_rfl) (by kernel_rfl) ?_
  generalize ({ ((w.alloc (.cells #[.int .i64 5, .int .i64 who, .int .i64 a, .int .i64 b] 45)).alloc (.cells #[.int .i64 a, .int .i64 b] 29)) with drawn := ((w.alloc (.cells #[.int .i64 5, .int .i64 who, .int .i64 a, .int .i64 b] 45)).alloc (.cells #[.int .i64 a, .int .i64 b] 29)).drawn + 1 } : World) = X0 at *
  have hC0 := hX0.kc
  refine withFrP (N := 158) rfl ?_
  intro f0 F0 hff
  have hs0 : f0 0 = Value.pointer (some ⟨hp, 0, none⟩) := hff 0
  have hs3 : f0 3 = Value.pointer (some ⟨w.heap.size, 0, none⟩) := hff 3
  have hs5 : f0 5 = Value.pointer (some ⟨w.heap.size + 1, 0, none⟩) := hff 5
  clear hff
  refine lyp F0 rfl hC0 rfl (by omega) (wanted_none rfl) (v := Value.pointer (some ⟨hp, 0, none⟩)) (fun wr hwr => by simp only [execOp, (F0.eval 0 (by omega)).trans (show _ = Value.pointer (some ⟨hp, 0, none⟩) from by simp [upd, hs0, hs3, hs5])]; first | rfl | simp [go_sem]) fun Fr01 => ?_
  refine lyp Fr01 rfl hC0 rfl (by omega) (wanted_none rfl) (v := Value.pointer (some ⟨hp, 0, none⟩)) (fun wr hwr => by simp only [execOp, (Fr01.eval 26 (by omega)).trans (show _ = Value.pointer (some ⟨hp, 0, none⟩) from by simp [upd, hs0, hs3, hs5])]; first | rfl | simp [go_sem]) fun Fr02 => ?_
  refine lyp Fr02 rfl hC0 rfl (by omega) (wanted_none rfl) (v := Value.pointer (some ⟨hp, 0, none⟩)) (fun wr hwr => by simp only [execOp, (Fr02.eval 27 (by omega)).trans (show _ = Value.pointer (some ⟨hp, 0, none⟩) from by simp [upd, hs0, hs3, hs5])]; first | rfl | simp [go_sem]) fun Fr03 => ?_
  refine lyp Fr03 rfl hC0 rfl (by omega) (wanted_none rfl) (v := Value.pointer (some ⟨hl, 0, none⟩)) (fun wr hwr => by simp only [execOp, (Fr03.eval 28 (by omega)).trans (show _ = Value.pointer (some ⟨hp, 0, none⟩) from by simp [upd, hs0, hs3, hs5])]; simp [go_sem, hwr.p0]) fun Fr04 => ?_
  refine lyp Fr04 rfl hC0 rfl (by omega) (wanted_none rfl) (v := Value.pointer (some ⟨w.heap.size, 0, none⟩)) (fun wr hwr => by simp only [execOp, (Fr04.eval 3 (by omega)).trans (show _ = Value.pointer (some ⟨w.heap.size, 0, none⟩) from by simp [upd, hs0, hs3, hs5])]; first | rfl | simp [go_sem]) fun Fr05 => ?_
  refine lyp Fr05 rfl hC0 rfl (by omega) (wanted_none rfl) (v := Value.int .i64 5) (fun wr hwr => by simp only [execOp, (Fr05.eval 30 (by omega)).trans (show _ = Value.pointer (some ⟨w.heap.size, 0, none⟩) from by simp [upd, hs0, hs3, hs5])]; simp [go_sem, hwr.o0]) fun Fr06 => ?_
  refine lyp Fr06 rfl hC0 rfl (by omega) (wanted_none rfl) (v := Value.pointer (some ⟨w.heap.size, 2, none⟩)) (fun wr hwr => by simp only [execOp, (Fr06.eval 3 (by omega)).trans (show _ = Value.pointer (some ⟨w.heap.size, 0, none⟩) from by simp [upd, hs0, hs3, hs5])]; first | rfl | simp [go_sem]) fun Fr07 => ?_
  refine lyp Fr07 rfl hC0 rfl (by omega) (wanted_none rfl) (v := Value.int .i64 a) (fun wr hwr => by simp only [execOp, (Fr07.eval 32 (by omega)).trans (show _ = Value.pointer (some ⟨w.heap.size, 2, none⟩) from by simp [upd, hs0, hs3, hs5])]; simp [go_sem, hwr.o2]) fun Fr08 => ?_
  refine lcp Fr08 rfl hC0 rfl (by omega) (wanted_none rfl) (g := 23) (args := #[Value.pointer (some ⟨hl, 0, none⟩), Value.int .i64 5, Value.int .i64 a]) (by simp only [execOp, resolve, invoke, List.map_toArray, List.map_cons, List.map_nil, (Fr08.eval 29 (by omega)).trans (show _ = Value.pointer (some ⟨hl, 0, none⟩) from by simp [upd, hs0, hs3, hs5]), (Fr08.eval 31 (by omega)).trans (show _ = Value.int .i64 5 from by simp [upd, hs0, hs3, hs5]), (Fr08.eval 33 (by omega)).trans (show _ = Value.int .i64 a from by simp [upd, hs0, hs3, hs5])]; simp [go_sem, Act.eval]) (turned_any _ hX0.sen hX0.l hok hX0.L1 5 a) ?_
  rintro e1 v0 ⟨rfl, hB0, hT0⟩
  refine ⟨_, rfl, fun Fr09 => ?_⟩
  have hP0 := hX0.left hB0 hT0
  have hD0 := hP0.kc
  refine lyp Fr09 rfl hD0 rfl (by omega) (wanted_none rfl) (v := Value.int .i64 (s.tcode (fromOf 5) a)) (fun wr hwr => by simp only [execOp, (Fr09.eval 34 (by omega)).trans (show _ = Value.int .i64 (s.tcode (fromOf 5) a) from by simp [upd, hs0, hs3, hs5])]; first | rfl | simp [go_sem]) fun Fr010 => ?_
  refine ⟨fun _ => hD0, ?_⟩
  refine hK _ _ ?_
  clear F0 Fr01 Fr02 Fr03 Fr04 Fr05 Fr06 Fr07 Fr08 Fr09 Fr010 hs0 hs3 hs5 hK 
  simp only [Act.put, List.setIfInBounds_toArray, List.set_cons_succ, List.set_cons_zero]
  have HP0 : Hid _ := hP0
  clear hX0 hC0 hB0 hT0 hP0 hD0 HPB
  go_wp2_with fail
  rename_i K hK
  try rw [show ∀ a : Act, a.put none undef = a from fun _ => rfl]
  have hX1 : PB S L hp hl hr w.heap.size (w.heap.size + 1) (s.tnext (fromOf 5) (toOf 5) a) s 5 who a b w ({ v0 with drawn := v0.drawn + 1 } : World) := HP0.out.drew
  refine wp_region_mix (KC hp hl hr w.heap.size (w.heap.size + 1) 5 who a b) (fun i => i == 9 || i == 12) 12 (by kernel_rfl) rfl (by kernel_rfl) (by kernel_rfl) (by kernel_rfl) ?_
  generalize ({ v0 with drawn := v0.drawn + 1 } : World) = X1 at *
  have hC1 := hX1.kc
  refine withFrP (N := 158) rfl ?_
  intro f0 F0 hff
  have hs0 : f0 0 = Value.pointer (some ⟨hp, 0, none⟩) := hff 0
  have hs3 : f0 3 = Value.pointer (some ⟨w.heap.size, 0, none⟩) := hff 3
  have hs5 : f0 5 = Value.pointer (some ⟨w.heap.size + 1, 0, none⟩) := hff 5
  have hs6 : f0 6 = Value.int .i64 (s.tcode (fromOf 5) a) := hff 6
  clear hff
  refine lyp F0 rfl hC1 rfl (by omega) (wanted_none rfl) (v := Value.int .i64 (s.tcode (fromOf 5) a)) (fun wr hwr => by simp only [execOp, (F0.eval 6 (by omega)).trans (show _ = Value.int .i64 (s.tcode (fromOf 5) a) from by simp [upd, hs0, hs3, hs5, hs6])]; first | rfl | simp [go_sem]) fun Fr11 => ?_
  refine lyp Fr11 rfl hC1 rfl (by omega) (wanted_none rfl) (v := Value.pointer (some ⟨hp, 0, none⟩)) (fun wr hwr => by simp only [execOp, (Fr11.eval 0 (by omega)).trans (show _ = Value.pointer (some ⟨hp, 0, none⟩) from by simp [upd, hs0, hs3, hs5, hs6])]; first | rfl | simp [go_sem]) fun Fr12 => ?_
  refine lyp Fr12 rfl hC1 rfl (by omega) (wanted_none rfl) (v := Value.pointer (some ⟨hp, 0, none⟩)) (fun wr hwr => by simp only [execOp, (Fr12.eval 36 (by omega)).trans (show _ = Value.pointer (some ⟨hp, 0, none⟩) from by simp [upd, hs0, hs3, hs5, hs6])]; first | rfl | simp [go_sem]) fun Fr13 => ?_
  refine lyp Fr13 rfl hC1 rfl (by omega) (wanted_none rfl) (v := Value.pointer (some ⟨hp, 1, none⟩)) (fun wr hwr => by simp only [execOp, (Fr13.eval 37 (by omega)).trans (show _ = Value.pointer (some ⟨hp, 0, none⟩) from by simp [upd, hs0, hs3, hs5, hs6])]; first | rfl | simp [go_sem]) fun Fr14 => ?_
  refine lyp Fr14 rfl hC1 rfl (by omega) (wanted_none rfl) (v := Value.pointer (some ⟨hr, 0, none⟩)) (fun wr hwr => by simp only [execOp, (Fr14.eval 38 (by omega)).trans (show _ = Value.pointer (some ⟨hp, 1, none⟩) from by simp [upd, hs0, hs3, hs5, hs6])]; simp [go_sem, hwr.p1]) fun Fr15 => ?_
  refine lyp Fr15 rfl hC1 rfl (by omega) (wanted_none rfl) (v := Value.pointer (some ⟨w.heap.size, 0, none⟩)) (fun wr hwr => by simp only [execOp, (Fr15.eval 3 (by omega)).trans (show _ = Value.pointer (some ⟨w.heap.size, 0, none⟩) from by simp [upd, hs0, hs3, hs5, hs6])]; first | rfl | simp [go_sem]) fun Fr16 => ?_
  refine lyp Fr16 rfl hC1 rfl (by omega) (wanted_none rfl) (v := Value.int .i64 5) (fun wr hwr => by simp only [execOp, (Fr16.eval 40 (by omega)).trans (show _ = Value.pointer (some ⟨w.heap.size, 0, none⟩) from by simp [upd, hs0, hs3, hs5, hs6])]; simp [go_sem, hwr.o0]) fun Fr17 => ?_
  refine lyp Fr17 rfl hC1 rfl (by omega) (wanted_none rfl) (v := Value.pointer (some ⟨w.heap.size, 2, none⟩)) (fun wr hwr => by simp only [execOp, (Fr17.eval 3 (by omega)).trans (show _ = Value.pointer (some ⟨w.heap.size, 0, none⟩) from by simp [upd, hs0, hs3, hs5, hs6])]; first | rfl | simp [go_sem]) fun Fr18 => ?_
  refine lyp Fr18 rfl hC1 rfl (by omega) (wanted_none rfl) (v := Value.int .i64 a) (fun wr hwr => by simp only [execOp, (Fr18.eval 42 (by omega)).trans (show _ = Value.pointer (some ⟨w.heap.size, 2, none⟩) from by simp [upd, hs0, hs3, hs5, hs6])]; simp [go_sem, hwr.o2]) fun Fr19 => ?_
  refine lcp Fr19 rfl hC1 rfl (by omega) (wanted_none rfl) (g := 46) (args := #[Value.pointer (some ⟨hr, 0, none⟩), Value.int .i64 5, Value.int .i64 a]) (by simp only [execOp, resolve, invoke, List.map_toArray, List.map_cons, List.map_nil, (Fr19.eval 39 (by omega)).trans (show _ = Value.pointer (some ⟨hr, 0, none⟩) from by simp [upd, hs0, hs3, hs5, hs6]), (Fr19.eval 41 (by omega)).trans (show _ = Value.int .i64 5 from by simp [upd, hs0, hs3, hs5, hs6]), (Fr19.eval 43 (by omega)).trans (show _ = Value.int .i64 a from by simp [upd, hs0, hs3, hs5, hs6])]; simp [go_sem, Act.eval]) (rTurn_any _ hX1.r hok 5 a) ?_
  rintro e2 v1 ⟨rfl, hB1, hT1⟩
  refine ⟨_, rfl, fun Fr110 => ?_⟩
  have hP1 := hX1.right hB1 hT1
  have hD1 := hP1.kc
  refine lyp Fr110 rfl hD1 rfl (by omega) (wanted_none rfl) (v := Value.bool true) (fun wr hwr => by simp only [execOp, (Fr110.eval 35 (by omega)).trans (show _ = Value.int .i64 (s.tcode (fromOf 5) a) from by simp [upd, hs0, hs3, hs5, hs6]), (Fr110.eval 44 (by omega)).trans (show _ = Value.int .i64 (s.tcode (fromOf 5) a) from by simp [upd, hs0, hs3, hs5, hs6])]; simp [go_sem, Act.eval]) fun Fr111 => ?_
  refine lyp Fr111 rfl hD1 rfl (by omega) (wanted_none rfl) (v := Value.bool true) (fun wr hwr => by simp only [execOp, (Fr111.eval 45 (by omega)).trans (show _ = Value.bool true from by simp [upd, hs0, hs3, hs5, hs6])]; first | rfl | simp [go_sem]) fun Fr112 => ?_
  refine ⟨fun _ => hD1, ?_⟩
  refine hK _ _ ?_
  clear F0 Fr11 Fr12 Fr13 Fr14 Fr15 Fr16 Fr17 Fr18 Fr19 Fr110 Fr111 Fr112 hs0 hs3 hs5 hs6 hK 
  simp only [Act.put, List.setIfInBounds_toArray, List.set_cons_succ, List.set_cons_zero]
  have HP1 : Hid _ := hP1
  clear hX1 hC1 hB1 hT1 hP1 hD1 HP0
  go_wp2_with fail
  go_ret
  exact ⟨rfl, _, PB.pr HP1.out (s.tnext_ok hok _ _ (from_lt 5) (to_lt 5) (fromto 5) a), HP1.out.q⟩
end Go.Proofs.YtgnkkpcklljffaaDoor
