import Derived.Test.YtgnkkpcklljffaaDoorPlayT
import Derived.Test.YtgnkkpcklljffaaDoorPlayA
import Derived.Test.YtgnkkpcklljffaaDoorPlayB
namespace Go.Proofs.YtgnkkpcklljffaaDoor
open Go.RowKit Go.PlainAid
set_option linter.unusedVariables false
set_option linter.unusedSimpArgs false
set_option maxRecDepth 100000 in
set_option maxHeartbeats 3200000 in
theorem played_8 {S : Sens} {L hp hl hr : Nat} {s : LS} (w : World) (hS : Sen S L w) (h : Pr hp hl hr s w) (L1 : L ≤ hl) (L2 : L ≤ hr) (who a b : Int) (ha : IntKind.i64.wrap a = a) (hb2 : IntKind.i64.wrap b = b) :
    Calls Tryd.prog 40 #[.pointer (some ⟨hp, 0, none⟩), .agg #[.int .i64 8, .int .i64 who, .int .i64 a, .int .i64 b]] w fun r w' => r = .returned (.bool true) ∧ ∃ s', Pr hp hl hr s' w' ∧ Stq2 hl hr w w' := by
  have hgr : Below w.heap.size w ((w.alloc (.cells #[.int .i64 8, .int .i64 who, .int .i64 a, .int .i64 b] 45)).alloc (.cells #[.int .i64 a, .int .i64 b] 29)) := by go_grown
  have hPB : PB S L hp hl hr w.heap.size (w.heap.size + 1) s s 8 who a b w ((w.alloc (.cells #[.int .i64 8, .int .i64 who, .int .i64 a, .int .i64 b] 45)).alloc (.cells #[.int .i64 a, .int .i64 b] 29)) := by
    refine ⟨h.p.below hgr h.p.lt, h.l.below hgr h.l.lt, h.r.below hgr h.r.lt, ?_, ?_, hS.below (hgr.mono (Nat.le_of_lt (Nat.lt_of_le_of_lt L1 h.l.lt))), (Stq2.refl hl hr w).more hgr, L1, L2⟩
    · exact (Below.heap_alloc _ _ _ (by simp)).trans (heap_alloc_new w _)
    · have := heap_alloc_new (w.alloc (.cells #[.int .i64 8, .int .i64 who, .int .i64 a, .int .i64 b] 45)) (.cells #[.int .i64 a, .int .i64 b] 29)
      rw [World.size_alloc] at this
      exact this
  have hok := h.ok
  have HPB : Hid _ := hPB
  clear hgr hPB hS h
  have hcl := allOut_any _ HPB.out.l
  have c0 : ((w.alloc (.cells #[.int .i64 8, .int .i64 who, .int .i64 a, .int .i64 b] 45)).alloc (.cells #[.int .i64 a, .int .i64 b] 29)).cell? ⟨hp, 0, none⟩ = some (.pointer (some ⟨hl, 0, none⟩)) := HPB.out.p.cell 0
  obtain ⟨d, u, x, c, n⟩ := s
  go_enter Tryd.func40, Tryd.ntmps40
  go_wp2_with fail
  refine hcl.mono ?_
  rintro e1 v0 ⟨rfl, hB0, hT0⟩
  have hP0 := HPB.out.left hB0 hT0
  clear hcl c0 HPB hB0 hT0
  have hP1 : PB S L hp hl hr w.heap.size (w.heap.size + 1) (LS.mk d u x c n).bare (LS.mk d u x c n) 8 who a b w (v0.alloc (.cells #[.int .i64 d, .int .i64 u] 29)) := hP0.more (by go_grown)
  have hN : Blk (v0.alloc (.cells #[.int .i64 d, .int .i64 u] 29)) v0.heap.size #[.int .i64 d, .int .i64 u] 29 := heap_alloc_new v0 _
  have HP1 : Hid _ := hP1
  have HN : Hid _ := hN
  clear hP0 hP1 hN
  go_wp2_with fail
  rename_i K hK
  try rw [show ∀ a : Act, a.put none undef = a from fun _ => rfl]
  have hX : PB S L hp hl hr w.heap.size (w.heap.size + 1) (LS.mk d u x c n).bare (LS.mk d u x c n) 8 who a b w ({ (v0.alloc (.cells #[.int .i64 d, .int .i64 u] 29)) with drawn := (v0.alloc (.cells #[.int .i64 d, .int .i64 u] 29)).drawn + 1 } : World) := HP1.out.drew
  have hM : Blk ({ (v0.alloc (.cells #[.int .i64 d, .int .i64 u] 29)) with drawn := (v0.alloc (.cells #[.int .i64 d, .int .i64 u] 29)).drawn + 1 } : World) v0.heap.size #[.int .i64 d, .int .i64 u] 29 := HN.out
  refine wp_region_mix (fun wr => KC hp hl hr w.heap.size (w.heap.size + 1) 8 who a b wr ∧ Blk wr v0.heap.size #[.int .i64 d, .int .i64 u] 29) (fun i => i == 5 || i == 6 || i == 8) 8 (by kernel_rfl) rfl (by kernel_rfl) (by kernel_rfl) (by kernel_rfl) ?_
  generalize ({ (v0.alloc (.cells #[.int .i64 d, .int .i64 u] 29)) with drawn := (v0.alloc (.cells #[.int .i64 d, .int .i64 u] 29)).drawn + 1 } : World) = X at *
  have hC0 : KC hp hl hr w.heap.size (w.heap.size + 1) 8 who a b X ∧ Blk X v0.heap.size #[.int .i64 d, .int .i64 u] 29 := ⟨hX.kc, hM⟩
  refine withFrP (N := 158) rfl ?_
  intro f0 F0 hff
  have hs0 : f0 0 = Value.pointer (some ⟨hp, 0, none⟩) := hff 0
  have hs9 : f0 9 = Value.pointer (some ⟨v0.heap.size, 0, none⟩) := hff 9
  clear hff
  refine lyp F0 rfl hC0 rfl (by omega) (wanted_none rfl) (v := Value.agg #[.int .i64 d, .int .i64 u]) (fun wr hwr => by simp only [execOp, (F0.eval 9 (by omega)).trans (show _ = Value.pointer (some ⟨v0.heap.size, 0, none⟩) from by simp [upd, hs0, hs9])]; simp [go_sem, show wr.cell? ⟨v0.heap.size, 0, none⟩ = some (Value.int .i64 d) from hwr.2.cell 0, show wr.cell? ⟨v0.heap.size, 1, none⟩ = some (Value.int .i64 u) from hwr.2.cell 1]) fun F1 => ?_
  refine lyp F1 rfl hC0 rfl (by omega) (wanted_none rfl) (v := Value.pointer (some ⟨hp, 0, none⟩)) (fun wr hwr => by simp only [execOp, (F1.eval 0 (by omega)).trans (show _ = Value.pointer (some ⟨hp, 0, none⟩) from by simp [upd, hs0, hs9])]; first | rfl | simp [go_sem]) fun F2 => ?_
  refine lyp F2 rfl hC0 rfl (by omega) (wanted_none rfl) (v := Value.pointer (some ⟨hp, 0, none⟩)) (fun wr hwr => by simp only [execOp, (F2.eval 86 (by omega)).trans (show _ = Value.pointer (some ⟨hp, 0, none⟩) from by simp [upd, hs0, hs9])]; first | rfl | simp [go_sem]) fun F3 => ?_
  refine lyp F3 rfl hC0 rfl (by omega) (wanted_none rfl) (v := Value.pointer (some ⟨hp, 1, none⟩)) (fun wr hwr => by simp only [execOp, (F3.eval 87 (by omega)).trans (show _ = Value.pointer (some ⟨hp, 0, none⟩) from by simp [upd, hs0, hs9])]; first | rfl | simp [go_sem]) fun F4 => ?_
  refine lyp F4 rfl hC0 rfl (by omega) (wanted_none rfl) (v := Value.pointer (some ⟨hr, 0, none⟩)) (fun wr hwr => by simp only [execOp, (F4.eval 88 (by omega)).trans (show _ = Value.pointer (some ⟨hp, 1, none⟩) from by simp [upd, hs0, hs9])]; simp [go_sem, hwr.1.p1]) fun F5 => ?_
  refine lcp F5 rfl hC0 rfl (by omega) (wanted_none rfl) (g := 49) (args := #[Value.pointer (some ⟨hr, 0, none⟩)]) (by simp only [execOp, resolve, invoke, List.map_toArray, List.map_cons, List.map_nil, (F5.eval 89 (by omega)).trans (show _ = Value.pointer (some ⟨hr, 0, none⟩) from by simp [upd, hs0, hs9])]; simp [go_sem, Act.eval]) (rallOut_any _ hX.r) ?_
  rintro e2 v2 ⟨rfl, hB2, hT2⟩
  refine ⟨_, rfl, fun F6 => ?_⟩
  have hP2 := hX.right hB2 hT2
  have hM2 := hT2.blk hM (blk_ne hM hX.r (by decide))
  have hC2 : KC hp hl hr w.heap.size (w.heap.size + 1) 8 who a b v2 ∧ Blk v2 v0.heap.size #[.int .i64 d, .int .i64 u] 29 := ⟨hP2.kc, hM2⟩
  refine lcp F6 rfl hC2 rfl (by omega) (wanted_none rfl) (g := 15) (args := #[Value.agg #[.int .i64 d, .int .i64 u], Value.agg #[.int .i64 d, .int .i64 u]]) (by simp only [execOp, resolve, invoke, List.map_toArray, List.map_cons, List.map_nil, (F6.eval 85 (by omega)).trans (show _ = Value.agg #[.int .i64 d, .int .i64 u] from by simp [upd, hs0, hs9]), (F6.eval 90 (by omega)).trans (show _ = Value.agg #[.int .i64 d, .int .i64 u] from by simp [upd, hs0, hs9])]; simp [go_sem, Act.eval]) (same_any d u d u _) ?_
  rintro e3 v3 ⟨rfl, hb3⟩
  refine ⟨_, rfl, fun F7 => ?_⟩
  have hP3 := hP2.more hb3
  have hM3 := hM2.below hb3 hM2.lt
  have hC3 : KC hp hl hr w.heap.size (w.heap.size + 1) 8 who a b v3 ∧ Blk v3 v0.heap.size #[.int .i64 d, .int .i64 u] 29 := ⟨hP3.kc, hM3⟩
  refine lyp F7 rfl hC3 rfl (by omega) (wanted_none rfl) (v := Value.bool (d == d && u == u)) (fun wr hwr => by simp only [execOp, (F7.eval 91 (by omega)).trans (show _ = Value.bool (d == d && u == u) from by simp [upd, hs0, hs9])]; first | rfl | simp [go_sem]) fun F8 => ?_
  refine ⟨fun _ => hC3, ?_⟩
  refine hK _ _ ?_
  clear F0 F1 F2 F3 F4 F5 F6 F7 F8 hs0 hs9 hK
  simp only [Act.put, List.setIfInBounds_toArray, List.set_cons_succ, List.set_cons_zero]
  have HP3 : Hid _ := hP3
  clear hX hM hC0 hB2 hT2 hP2 hM2 hC2 hb3 hP3 hM3 hC3 HP1 HN
  go_wp2_with fail
  go_ret
  exact ⟨ret_bool (by simp), _, PB.pr HP3.out (LS.bare_ok _ hok), HP3.out.q⟩
set_option maxRecDepth 100000 in
set_option maxHeartbeats 3200000 in
theorem played_12 {S : Sens} {L hp hl hr : Nat} {s : LS} (w : World) (hS : Sen S L w) (h : Pr hp hl hr s w) (L1 : L ≤ hl) (L2 : L ≤ hr) (who a b : Int) (ha : IntKind.i64.wrap a = a) (hb2 : IntKind.i64.wrap b = b) :
    Calls Tryd.prog 40 #[.pointer (some ⟨hp, 0, none⟩), .agg #[.int .i64 12, .int .i64 who, .int .i64 a, .int .i64 b]] w fun r w' => r = .returned (.bool true) ∧ ∃ s', Pr hp hl hr s' w' ∧ Stq2 hl hr w w' := by
  have hgr : Below w.heap.size w ((w.alloc (.cells #[.int .i64 12, .int .i64 who, .int .i64 a, .int .i64 b] 45)).alloc (.cells #[.int .i64 a, .int .i64 b] 29)) := by go_grown
  have hPB : PB S L hp hl hr w.heap.size (w.heap.size + 1) s s 12 who a b w ((w.alloc (.cells #[.int .i64 12, .int .i64 who, .int .i64 a, .int .i64 b] 45)).alloc (.cells #[.int .i64 a, .int .i64 b] 29)) := by
    refine ⟨h.p.below hgr h.p.lt, h.l.below hgr h.l.lt, h.r.below hgr h.r.lt, ?_, ?_, hS.below (hgr.mono (Nat.le_of_lt (Nat.lt_of_le_of_lt L1 h.l.lt))), (Stq2.refl hl hr w).more hgr, L1, L2⟩
    · exact (Below.heap_alloc _ _ _ (by simp)).trans (heap_alloc_new w _)
    · have := heap_alloc_new (w.alloc (.cells #[.int .i64 12, .int .i64 who, .int .i64 a, .int .i64 b] 45)) (.cells #[.int .i64 a, .int .i64 b] 29)
      rw [World.size_alloc] at this
      exact this
  have hok := h.ok
  have HPB : Hid _ := hPB
  clear hgr hPB hS h
  have hcl := shows_any _ (PB.pr HPB.out hok)
  go_enter Tryd.func40, Tryd.ntmps40
  go_wp2_with fail
  refine hcl.mono ?_
  rintro e1 v0 ⟨rfl, hb0⟩
  have HP0 : Hid _ := HPB.out.more hb0
  clear hcl hb0 HPB
  go_wp2_with fail
  go_ret
  exact ⟨rfl, _, PB.pr HP0.out hok, HP0.out.q⟩
set_option maxRecDepth 100000 in
set_option maxHeartbeats 3200000 in
theorem played_no {S : Sens} {L hp hl hr : Nat} {s : LS} (w : World) (hS : Sen S L w) (h : Pr hp hl hr s w) (L1 : L ≤ hl) (L2 : L ≤ hr) (kind : Int) (who a b : Int) (ha : IntKind.i64.wrap a = a) (hb2 : IntKind.i64.wrap b = b) (hk : kind < 1 ∨ 12 < kind) :
    Calls Tryd.prog 40 #[.pointer (some ⟨hp, 0, none⟩), .agg #[.int .i64 kind, .int .i64 who, .int .i64 a, .int .i64 b]] w fun r w' => r = .returned (.bool true) ∧ ∃ s', Pr hp hl hr s' w' ∧ Stq2 hl hr w w' := by
  have hgr : Below w.heap.size w ((w.alloc (.cells #[.int .i64 kind, .int .i64 who, .int .i64 a, .int .i64 b] 45)).alloc (.cells #[.int .i64 a, .int .i64 b] 29)) := by go_grown
  have hPB : PB S L hp hl hr w.heap.size (w.heap.size + 1) s s kind who a b w ((w.alloc (.cells #[.int .i64 kind, .int .i64 who, .int .i64 a, .int .i64 b] 45)).alloc (.cells #[.int .i64 a, .int .i64 b] 29)) := by
    refine ⟨h.p.below hgr h.p.lt, h.l.below hgr h.l.lt, h.r.below hgr h.r.lt, ?_, ?_, hS.below (hgr.mono (Nat.le_of_lt (Nat.lt_of_le_of_lt L1 h.l.lt))), (Stq2.refl hl hr w).more hgr, L1, L2⟩
    · exact (Below.heap_alloc _ _ _ (by simp)).trans (heap_alloc_new w _)
    · have := heap_alloc_new (w.alloc (.cells #[.int .i64 kind, .int .i64 who, .int .i64 a, .int .i64 b] 45)) (.cells #[.int .i64 a, .int .i64 b] 29)
      rw [World.size_alloc] at this
      exact this
  have hok := h.ok
  have HPB : Hid _ := hPB
  clear hgr hPB hS h
  by_cases h0 : kind < 1
  · go_enter Tryd.func40, Tryd.ntmps40
    go_wp2_with fail
    go_ret
    exact ⟨rfl, _, PB.pr HPB.out hok, HPB.out.q⟩
  · have h12 : 12 < kind := by omega
    clear hk h0
    go_enter Tryd.func40, Tryd.ntmps40
    go_wp2_with fail
    go_ret
    exact ⟨rfl, _, PB.pr HPB.out hok, HPB.out.q⟩
theorem played_any {S : Sens} {L hp hl hr : Nat} {s : LS} (w : World) (hS : Sen S L w) (h : Pr hp hl hr s w) (L1 : L ≤ hl) (L2 : L ≤ hr) (kind who a b : Int) (ha : IntKind.i64.wrap a = a) (hb2 : IntKind.i64.wrap b = b) :
    Calls Tryd.prog 40 #[.pointer (some ⟨hp, 0, none⟩), .agg #[.int .i64 kind, .int .i64 who, .int .i64 a, .int .i64 b]] w fun r w' => r = .returned (.bool true) ∧ ∃ s', Pr hp hl hr s' w' ∧ Stq2 hl hr w w' := by
  by_cases hk : kind < 1 ∨ 12 < kind
  · exact played_no w hS h L1 L2 kind who a b ha hb2 hk
  · have : kind = 1 ∨ kind = 2 ∨ kind = 3 ∨ kind = 4 ∨ kind = 5 ∨ kind = 6 ∨ kind = 7 ∨ kind = 8 ∨ kind = 9 ∨ kind = 10 ∨ kind = 11 ∨ kind = 12 := by omega
    rcases this with rfl | rfl | rfl | rfl | rfl | rfl | rfl | rfl | rfl | rfl | rfl | rfl
    · exact played_1 w hS h L1 L2 who a b ha hb2
    · exact played_2 w hS h L1 L2 who a b ha hb2
    · exact played_3 w hS h L1 L2 who a b ha hb2
    · exact played_4 w hS h L1 L2 who a b ha hb2
    · exact played_5 w hS h L1 L2 who a b ha hb2
    · exact played_6 w hS h L1 L2 who a b ha hb2
    · exact played_7 w hS h L1 L2 who a b ha hb2
    · exact played_8 w hS h L1 L2 who a b ha hb2
    · exact played_9 w hS h L1 L2 who a b ha hb2
    · exact played_10 w hS h L1 L2 who a b ha hb2
    · exact played_11 w hS h L1 L2 who a b ha hb2
    · exact played_12 w hS h L1 L2 who a b ha hb2
end Go.Proofs.YtgnkkpcklljffaaDoor
