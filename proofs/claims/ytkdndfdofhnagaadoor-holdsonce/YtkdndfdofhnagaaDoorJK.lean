import Derived.Test.YtkdndfdofhnagaaDoorJJ
namespace Go.Proofs.YtkdndfdofhnagaaDoor
open Go.RowKit Go.PlainAid
set_option linter.unusedVariables false
set_option linter.unusedSimpArgs false
set_option maxRecDepth 100000 in
set_option maxHeartbeats 3200000 in
theorem call7f {S : Sens} {L : Nat} {a : PA} {p : PS} {n : Nat} (w : World) (h : PInv S L a p p.c w) (hG : Gd n p) (hn : n ≤ 2000) (A B : Int) (hA : IntKind.i64.wrap A = A) (hB : IntKind.i64.wrap B = B) :
    Calls Tryd.prog 30 #[.pointer (some ⟨a.pb, 0, none⟩), .agg #[.int .i64 7, .int .i64 A, .int .i64 B, .bool false]] w fun r w' => r = .returned (.bool true) ∧ CPost S L a p n (p.c.play 7 A B false) w w' := by
  have hok := CS.play_ok hG.ok 7 A B false
  have hmd := CS.play_made (c := p.c) 7 A B false
  have epl : p.c.play 7 A B false = p.c := rfl
  rw [epl] at hok hmd ⊢
  clear epl
  have hma : p.c.b.made ≤ 1000000 := by have := hG.made; omega
  have hgr : Below w.heap.size w (w.alloc (.cells (opC 7 A B false) 29)) := (Below.refl _ _).alloc (Nat.le_refl _) _
  have HY0 : Hid _ := (⟨h.below hgr, heap_alloc_new w _, PStp.ofBelow hgr⟩ : YSt S L a p p p.c (opC 7 A B false) w.heap.size w (w.alloc (.cells (opC 7 A B false) 29)))
  have HW : Hid _ := (⟨hA, hB⟩ : IntKind.i64.wrap A = A ∧ IntKind.i64.wrap B = B)
  have HG : Hid _ := hG
  have HOK : Hid _ := hok
  have HMD : Hid _ := hmd
  clear h hgr hG hok hmd hA hB
  go_enter Tryd.func30, Tryd.ntmps30
  go_wp2_with fail
  have eW : w.alloc (.cells #[.int .i64 7, .int .i64 A, .int .i64 B, .bool false] 29) = w.alloc (.cells (opC 7 A B false) 29) := rfl
  rw [eW]
  clear eW
  generalize w.alloc (.cells (opC 7 A B false) 29) = W0 at *
  rename_i K hK
  try rw [show ∀ a : Act, a.put none undef = a from fun _ => rfl]
  refine wp_region_mix (fun wr' => Blk wr' a.pb (pairC a p) 61 ∧ Blk wr' (w.heap.size) (opC 7 A B false) 29) (fun i => i == 4 || i == 9 || i == 12) 12 (by kernel_rfl) rfl (by kernel_rfl) (by kernel_rfl) (by kernel_rfl) ?_
  have hY0 : YSt S L a p (p) (p.c) (opC 7 A B false) (w.heap.size) w ({ W0 with drawn := W0.drawn + 1 } : World) := HY0.out.below ⟨rfl, rfl, rfl, Nat.le_refl _, fun _ _ => rfl⟩
  generalize ({ W0 with drawn := W0.drawn + 1 } : World) = X at *
  have hC : Blk X a.pb (pairC a p) 61 ∧ Blk X (w.heap.size) (opC 7 A B false) 29 := hY0.cls
  refine withFrP (N := 210) rfl ?_
  intro f0 F0 hff
  have hs0 : f0 0 = Value.pointer (some ⟨a.pb, 0, none⟩) := hff 0
  have hs3 : f0 3 = Value.pointer (some ⟨w.heap.size, 0, none⟩) := hff 3
  have hs5 : f0 5 = Value.int .i64 0 := hff 5
  clear hff
  refine lyp F0 rfl hC rfl (by omega) (wanted_none rfl) (v := Value.pointer (some ⟨a.pb, 0, none⟩)) (fun wr hwr => by simp only [execOp, (F0.eval 0 (by omega)).trans (show _ = Value.pointer (some ⟨a.pb, 0, none⟩) from by simp [upd, hs0, hs3, hs5])]; first | rfl | simp [go_sem]) fun F1 => ?_
  refine lyp F1 rfl hC rfl (by omega) (wanted_none rfl) (v := Value.pointer (some ⟨a.pb, 0, none⟩)) (fun wr hwr => by simp only [execOp, (F1.eval 117 (by omega)).trans (show _ = Value.pointer (some ⟨a.pb, 0, none⟩) from by simp [upd, hs0, hs3, hs5])]; simp [go_sem]) fun F2 => ?_
  refine lyp F2 rfl hC rfl (by omega) (wanted_none rfl) (v := Value.pointer (some ⟨a.pb, 0, none⟩)) (fun wr hwr => by simp only [execOp, (F2.eval 118 (by omega)).trans (show _ = Value.pointer (some ⟨a.pb, 0, none⟩) from by simp [upd, hs0, hs3, hs5])]; simp [go_sem]) fun F3 => ?_
  refine lyp F3 rfl hC rfl (by omega) (wanted_none rfl) (v := Value.pointer (some ⟨a.hb, 0, none⟩)) (fun wr hwr => by simp only [execOp, (F3.eval 119 (by omega)).trans (show _ = Value.pointer (some ⟨a.pb, 0, none⟩) from by simp [upd, hs0, hs3, hs5])]; simp [go_sem, (show wr.cell? ⟨a.pb, 0, none⟩ = some (.pointer (some ⟨a.hb, 0, none⟩)) from hwr.1.cell 0)]) fun F4 => ?_
  refine lcp F4 rfl hC rfl (by omega) (wanted_none rfl) (g := 24) (args := #[Value.pointer (some ⟨a.hb, 0, none⟩)]) (by simp only [execOp, resolve, invoke, List.map_toArray, List.map_cons, List.map_nil, (F4.eval 120 (by omega)).trans (show _ = Value.pointer (some ⟨a.hb, 0, none⟩) from by simp [upd, hs0, hs3, hs5])]; simp [go_sem, Act.eval]) (sum_any X hY0.inv.core.bk HG.out.ok.b) ?_
  rintro e1 w1 ⟨rfl, hb1⟩
  have hY1 := hY0.below hb1
  have hC1 : Blk w1 a.pb (pairC a p) 61 ∧ Blk w1 w.heap.size (opC 7 A B false) 29 := hY1.cls
  refine ⟨_, rfl, fun F5 => ?_⟩
  refine lyp F5 rfl hC1 rfl (by omega) (wanted_none rfl) (v := Value.pointer (some ⟨a.pb, 0, none⟩)) (fun wr hwr => by simp only [execOp, (F5.eval 0 (by omega)).trans (show _ = Value.pointer (some ⟨a.pb, 0, none⟩) from by simp [upd, hs0, hs3, hs5])]; first | rfl | simp [go_sem]) fun F6 => ?_
  refine lyp F6 rfl hC1 rfl (by omega) (wanted_none rfl) (v := Value.pointer (some ⟨a.pb, 0, none⟩)) (fun wr hwr => by simp only [execOp, (F6.eval 122 (by omega)).trans (show _ = Value.pointer (some ⟨a.pb, 0, none⟩) from by simp [upd, hs0, hs3, hs5])]; simp [go_sem]) fun F7 => ?_
  refine lyp F7 rfl hC1 rfl (by omega) (wanted_none rfl) (v := Value.pointer (some ⟨a.pb, 1, none⟩)) (fun wr hwr => by simp only [execOp, (F7.eval 123 (by omega)).trans (show _ = Value.pointer (some ⟨a.pb, 0, none⟩) from by simp [upd, hs0, hs3, hs5])]; simp [go_sem]) fun F8 => ?_
  refine lyp F8 rfl hC1 rfl (by omega) (wanted_none rfl) (v := Value.pointer (some ⟨a.rb, 0, none⟩)) (fun wr hwr => by simp only [execOp, (F8.eval 124 (by omega)).trans (show _ = Value.pointer (some ⟨a.pb, 1, none⟩) from by simp [upd, hs0, hs3, hs5])]; simp [go_sem, (show wr.cell? ⟨a.pb, 1, none⟩ = some (.pointer (some ⟨a.rb, 0, none⟩)) from hwr.1.cell 1)]) fun F9 => ?_
  refine lcp F9 rfl hC1 rfl (by omega) (wanted_none rfl) (g := 47) (args := #[Value.pointer (some ⟨a.rb, 0, none⟩)]) (by simp only [execOp, resolve, invoke, List.map_toArray, List.map_cons, List.map_nil, (F9.eval 125 (by omega)).trans (show _ = Value.pointer (some ⟨a.rb, 0, none⟩) from by simp [upd, hs0, hs3, hs5])]; simp [go_sem, Act.eval]) (rsum_any w1 hY1.inv.core.rk HG.out.ok.b) ?_
  rintro e2 w2 ⟨rfl, hw2⟩
  subst hw2
  refine ⟨_, rfl, fun F10 => ?_⟩
  refine lyp F10 rfl hC1 rfl (by omega) (wanted_none rfl) (v := Value.bool true) (fun wr hwr => by simp only [execOp, (F10.eval 121 (by omega)).trans (show _ = Value.int .i64 (sumH p.c.b.L) from by simp [upd, hs0, hs3, hs5]), (F10.eval 126 (by omega)).trans (show _ = Value.int .i64 (sumH p.c.b.L) from by simp [upd, hs0, hs3, hs5])]; simp [go_sem, Act.eval]) fun F11 => ?_
  refine lyp F11 rfl hC1 rfl (by omega) (wanted_none rfl) (v := Value.bool true) (fun wr hwr => by simp only [execOp, (F11.eval 127 (by omega)).trans (show _ = Value.bool true from by simp [upd, hs0, hs3, hs5])]; first | rfl | simp [go_sem]) fun F12 => ?_
  refine ⟨fun _ => hC1, ?_⟩
  refine hK _ _ ?_
  clear F0 F1 F2 F3 F4 F5 F6 F7 F8 F9 F10 F11 F12 hs0 hs3 hs5
  simp only [Act.put, List.setIfInBounds_toArray, List.set_cons_succ, List.set_cons_zero]
  have HY2 : Hid _ := hY1
  clear hK hC hC1 hY0 hb1 hY1
  go_wp2_with fail
  go_ret
  exact ⟨rfl, cpost_of HG.out HY2.out HOK.out HMD.out⟩
set_option maxRecDepth 100000 in
set_option maxHeartbeats 3200000 in
theorem call7t {S : Sens} {L : Nat} {a : PA} {p : PS} {n : Nat} (w : World) (h : PInv S L a p p.c w) (hG : Gd n p) (hn : n ≤ 2000) (A B : Int) (hA : IntKind.i64.wrap A = A) (hB : IntKind.i64.wrap B = B) :
    Calls Tryd.prog 30 #[.pointer (some ⟨a.pb, 0, none⟩), .agg #[.int .i64 7, .int .i64 A, .int .i64 B, .bool true]] w fun r w' => r = .returned (.bool true) ∧ CPost S L a p n (p.c.play 7 A B true) w w' := by
  have hok := CS.play_ok hG.ok 7 A B true
  have hmd := CS.play_made (c := p.c) 7 A B true
  have epl : p.c.play 7 A B true = p.c := rfl
  rw [epl] at hok hmd ⊢
  clear epl
  have hma : p.c.b.made ≤ 1000000 := by have := hG.made; omega
  have hgr : Below w.heap.size w (w.alloc (.cells (opC 7 A B true) 29)) := (Below.refl _ _).alloc (Nat.le_refl _) _
  have HY0 : Hid _ := (⟨h.below hgr, heap_alloc_new w _, PStp.ofBelow hgr⟩ : YSt S L a p p p.c (opC 7 A B true) w.heap.size w (w.alloc (.cells (opC 7 A B true) 29)))
  have HW : Hid _ := (⟨hA, hB⟩ : IntKind.i64.wrap A = A ∧ IntKind.i64.wrap B = B)
  have HG : Hid _ := hG
  have HOK : Hid _ := hok
  have HMD : Hid _ := hmd
  clear h hgr hG hok hmd hA hB
  go_enter Tryd.func30, Tryd.ntmps30
  go_wp2_with fail
  have eW : w.alloc (.cells #[.int .i64 7, .int .i64 A, .int .i64 B, .bool true] 29) = w.alloc (.cells (opC 7 A B true) 29) := rfl
  rw [eW]
  clear eW
  generalize w.alloc (.cells (opC 7 A B true) 29) = W0 at *
  rename_i K hK
  try rw [show ∀ a : Act, a.put none undef = a from fun _ => rfl]
  refine wp_region_mix (fun wr' => Blk wr' a.pb (pairC a p) 61 ∧ Blk wr' (w.heap.size) (opC 7 A B true) 29) (fun i => i == 4 || i == 9 || i == 12) 12 (by kernel_rfl) rfl (by kernel_rfl) (by kernel_rfl) (by kernel_rfl) ?_
  have hY0 : YSt S L a p (p) (p.c) (opC 7 A B true) (w.heap.size) w ({ W0 with drawn := W0.drawn + 1 } : World) := HY0.out.below ⟨rfl, rfl, rfl, Nat.le_refl _, fun _ _ => rfl⟩
  generalize ({ W0 with drawn := W0.drawn + 1 } : World) = X at *
  have hC : Blk X a.pb (pairC a p) 61 ∧ Blk X (w.heap.size) (opC 7 A B true) 29 := hY0.cls
  refine withFrP (N := 210) rfl ?_
  intro f0 F0 hff
  have hs0 : f0 0 = Value.pointer (some ⟨a.pb, 0, none⟩) := hff 0
  have hs3 : f0 3 = Value.pointer (some ⟨w.heap.size, 0, none⟩) := hff 3
  have hs5 : f0 5 = Value.int .i64 1 := hff 5
  clear hff
  refine lyp F0 rfl hC rfl (by omega) (wanted_none rfl) (v := Value.pointer (some ⟨a.pb, 0, none⟩)) (fun wr hwr => by simp only [execOp, (F0.eval 0 (by omega)).trans (show _ = Value.pointer (some ⟨a.pb, 0, none⟩) from by simp [upd, hs0, hs3, hs5])]; first | rfl | simp [go_sem]) fun F1 => ?_
  refine lyp F1 rfl hC rfl (by omega) (wanted_none rfl) (v := Value.pointer (some ⟨a.pb, 0, none⟩)) (fun wr hwr => by simp only [execOp, (F1.eval 117 (by omega)).trans (show _ = Value.pointer (some ⟨a.pb, 0, none⟩) from by simp [upd, hs0, hs3, hs5])]; simp [go_sem]) fun F2 => ?_
  refine lyp F2 rfl hC rfl (by omega) (wanted_none rfl) (v := Value.pointer (some ⟨a.pb, 0, none⟩)) (fun wr hwr => by simp only [execOp, (F2.eval 118 (by omega)).trans (show _ = Value.pointer (some ⟨a.pb, 0, none⟩) from by simp [upd, hs0, hs3, hs5])]; simp [go_sem]) fun F3 => ?_
  refine lyp F3 rfl hC rfl (by omega) (wanted_none rfl) (v := Value.pointer (some ⟨a.hb, 0, none⟩)) (fun wr hwr => by simp only [execOp, (F3.eval 119 (by omega)).trans (show _ = Value.pointer (some ⟨a.pb, 0, none⟩) from by simp [upd, hs0, hs3, hs5])]; simp [go_sem, (show wr.cell? ⟨a.pb, 0, none⟩ = some (.pointer (some ⟨a.hb, 0, none⟩)) from hwr.1.cell 0)]) fun F4 => ?_
  refine lcp F4 rfl hC rfl (by omega) (wanted_none rfl) (g := 24) (args := #[Value.pointer (some ⟨a.hb, 0, none⟩)]) (by simp only [execOp, resolve, invoke, List.map_toArray, List.map_cons, List.map_nil, (F4.eval 120 (by omega)).trans (show _ = Value.pointer (some ⟨a.hb, 0, none⟩) from by simp [upd, hs0, hs3, hs5])]; simp [go_sem, Act.eval]) (sum_any X hY0.inv.core.bk HG.out.ok.b) ?_
  rintro e1 w1 ⟨rfl, hb1⟩
  have hY1 := hY0.below hb1
  have hC1 : Blk w1 a.pb (pairC a p) 61 ∧ Blk w1 w.heap.size (opC 7 A B true) 29 := hY1.cls
  refine ⟨_, rfl, fun F5 => ?_⟩
  refine lyp F5 rfl hC1 rfl (by omega) (wanted_none rfl) (v := Value.pointer (some ⟨a.pb, 0, none⟩)) (fun wr hwr => by simp only [execOp, (F5.eval 0 (by omega)).trans (show _ = Value.pointer (some ⟨a.pb, 0, none⟩) from by simp [upd, hs0, hs3, hs5])]; first | rfl | simp [go_sem]) fun F6 => ?_
  refine lyp F6 rfl hC1 rfl (by omega) (wanted_none rfl) (v := Value.pointer (some ⟨a.pb, 0, none⟩)) (fun wr hwr => by simp only [execOp, (F6.eval 122 (by omega)).trans (show _ = Value.pointer (some ⟨a.pb, 0, none⟩) from by simp [upd, hs0, hs3, hs5])]; simp [go_sem]) fun F7 => ?_
  refine lyp F7 rfl hC1 rfl (by omega) (wanted_none rfl) (v := Value.pointer (some ⟨a.pb, 1, none⟩)) (fun wr hwr => by simp only [execOp, (F7.eval 123 (by omega)).trans (show _ = Value.pointer (some ⟨a.pb, 0, none⟩) from by simp [upd, hs0, hs3, hs5])]; simp [go_sem]) fun F8 => ?_
  refine lyp F8 rfl hC1 rfl (by omega) (wanted_none rfl) (v := Value.pointer (some ⟨a.rb, 0, none⟩)) (fun wr hwr => by simp only [execOp, (F8.eval 124 (by omega)).trans (show _ = Value.pointer (some ⟨a.pb, 1, none⟩) from by simp [upd, hs0, hs3, hs5])]; simp [go_sem, (show wr.cell? ⟨a.pb, 1, none⟩ = some (.pointer (some ⟨a.rb, 0, none⟩)) from hwr.1.cell 1)]) fun F9 => ?_
  refine lcp F9 rfl hC1 rfl (by omega) (wanted_none rfl) (g := 47) (args := #[Value.pointer (some ⟨a.rb, 0, none⟩)]) (by simp only [execOp, resolve, invoke, List.map_toArray, List.map_cons, List.map_nil, (F9.eval 125 (by omega)).trans (show _ = Value.pointer (some ⟨a.rb, 0, none⟩) from by simp [upd, hs0, hs3, hs5])]; simp [go_sem, Act.eval]) (rsum_any w1 hY1.inv.core.rk HG.out.ok.b) ?_
  rintro e2 w2 ⟨rfl, hw2⟩
  subst hw2
  refine ⟨_, rfl, fun F10 => ?_⟩
  refine lyp F10 rfl hC1 rfl (by omega) (wanted_none rfl) (v := Value.bool true) (fun wr hwr => by simp only [execOp, (F10.eval 121 (by omega)).trans (show _ = Value.int .i64 (sumH p.c.b.L) from by simp [upd, hs0, hs3, hs5]), (F10.eval 126 (by omega)).trans (show _ = Value.int .i64 (sumH p.c.b.L) from by simp [upd, hs0, hs3, hs5])]; simp [go_sem, Act.eval]) fun F11 => ?_
  refine lyp F11 rfl hC1 rfl (by omega) (wanted_none rfl) (v := Value.bool true) (fun wr hwr => by simp only [execOp, (F11.eval 127 (by omega)).trans (show _ = Value.bool true from by simp [upd, hs0, hs3, hs5])]; first | rfl | simp [go_sem]) fun F12 => ?_
  refine ⟨fun _ => hC1, ?_⟩
  refine hK _ _ ?_
  clear F0 F1 F2 F3 F4 F5 F6 F7 F8 F9 F10 F11 F12 hs0 hs3 hs5
  simp only [Act.put, List.setIfInBounds_toArray, List.set_cons_succ, List.set_cons_zero]
  have HY2 : Hid _ := hY1
  clear hK hC hC1 hY0 hb1 hY1
  go_wp2_with fail
  go_ret
  exact ⟨rfl, cpost_of HG.out HY2.out HOK.out HMD.out⟩
end Go.Proofs.YtkdndfdofhnagaaDoor
namespace Go.Proofs.YtkdndfdofhnagaaDoor
open Go.RowKit Go.PlainAid
set_option linter.unusedVariables false
set_option linter.unusedSimpArgs false
set_option maxRecDepth 100000 in
set_option maxHeartbeats 3200000 in
theorem call9f {S : Sens} {L : Nat} {a : PA} {p : PS} {n : Nat} (w : World) (h : PInv S L a p p.c w) (hG : Gd n p) (hn : n ≤ 2000) (A B : Int) (hA : IntKind.i64.wrap A = A) (hB : IntKind.i64.wrap B = B) :
    Calls Tryd.prog 30 #[.pointer (some ⟨a.pb, 0, none⟩), .agg #[.int .i64 9, .int .i64 A, .int .i64 B, .bool false]] w fun r w' => r = .returned (.bool true) ∧ CPost S L a p n (p.c.play 9 A B false) w w' := by
  have hok := CS.play_ok hG.ok 9 A B false
  have hmd := CS.play_made (c := p.c) 9 A B false
  have epl : p.c.play 9 A B false = p.c := rfl
  rw [epl] at hok hmd ⊢
  clear epl
  have hma : p.c.b.made ≤ 1000000 := by have := hG.made; omega
  have hgr : Below w.heap.size w (w.alloc (.cells (opC 9 A B false) 29)) := (Below.refl _ _).alloc (Nat.le_refl _) _
  have HY0 : Hid _ := (⟨h.below hgr, heap_alloc_new w _, PStp.ofBelow hgr⟩ : YSt S L a p p p.c (opC 9 A B false) w.heap.size w (w.alloc (.cells (opC 9 A B false) 29)))
  have HW : Hid _ := (⟨hA, hB⟩ : IntKind.i64.wrap A = A ∧ IntKind.i64.wrap B = B)
  have HG : Hid _ := hG
  have HOK : Hid _ := hok
  have HMD : Hid _ := hmd
  clear h hgr hG hok hmd hA hB
  go_enter Tryd.func30, Tryd.ntmps30
  go_wp2_with fail
  have eW : w.alloc (.cells #[.int .i64 9, .int .i64 A, .int .i64 B, .bool false] 29) = w.alloc (.cells (opC 9 A B false) 29) := rfl
  rw [eW]
  clear eW
  generalize w.alloc (.cells (opC 9 A B false) 29) = W0 at *
  have d1 : W0.cell? ⟨w.heap.size, 1, none⟩ = some (.int .i64 A) := HY0.out.op.cell 1
  have hof := of_any A
  have hrof := rof_any A
  go_quiet (first | (go_at_call 19; exact Calls.quiet_of_same (hof _)) | (go_at_call 49; exact Calls.quiet_of_same (hrof _)) | fail)
  have HY2 : Hid _ := (fun q => HY0.out.below (below_drewN q (Below.refl _ _)))
  go_wp2_with fail
  go_ret
  refine ⟨?_, cpost_of HG.out (HY2.out _) HOK.out HMD.out⟩
  simp
set_option maxRecDepth 100000 in
set_option maxHeartbeats 3200000 in
theorem call9t {S : Sens} {L : Nat} {a : PA} {p : PS} {n : Nat} (w : World) (h : PInv S L a p p.c w) (hG : Gd n p) (hn : n ≤ 2000) (A B : Int) (hA : IntKind.i64.wrap A = A) (hB : IntKind.i64.wrap B = B) :
    Calls Tryd.prog 30 #[.pointer (some ⟨a.pb, 0, none⟩), .agg #[.int .i64 9, .int .i64 A, .int .i64 B, .bool true]] w fun r w' => r = .returned (.bool true) ∧ CPost S L a p n (p.c.play 9 A B true) w w' := by
  have hok := CS.play_ok hG.ok 9 A B true
  have hmd := CS.play_made (c := p.c) 9 A B true
  have epl : p.c.play 9 A B true = p.c := rfl
  rw [epl] at hok hmd ⊢
  clear epl
  have hma : p.c.b.made ≤ 1000000 := by have := hG.made; omega
  have hgr : Below w.heap.size w (w.alloc (.cells (opC 9 A B true) 29)) := (Below.refl _ _).alloc (Nat.le_refl _) _
  have HY0 : Hid _ := (⟨h.below hgr, heap_alloc_new w _, PStp.ofBelow hgr⟩ : YSt S L a p p p.c (opC 9 A B true) w.heap.size w (w.alloc (.cells (opC 9 A B true) 29)))
  have HW : Hid _ := (⟨hA, hB⟩ : IntKind.i64.wrap A = A ∧ IntKind.i64.wrap B = B)
  have HG : Hid _ := hG
  have HOK : Hid _ := hok
  have HMD : Hid _ := hmd
  clear h hgr hG hok hmd hA hB
  go_enter Tryd.func30, Tryd.ntmps30
  go_wp2_with fail
  have eW : w.alloc (.cells #[.int .i64 9, .int .i64 A, .int .i64 B, .bool true] 29) = w.alloc (.cells (opC 9 A B true) 29) := rfl
  rw [eW]
  clear eW
  generalize w.alloc (.cells (opC 9 A B true) 29) = W0 at *
  have d1 : W0.cell? ⟨w.heap.size, 1, none⟩ = some (.int .i64 A) := HY0.out.op.cell 1
  have hof := of_any A
  have hrof := rof_any A
  go_quiet (first | (go_at_call 19; exact Calls.quiet_of_same (hof _)) | (go_at_call 49; exact Calls.quiet_of_same (hrof _)) | fail)
  have HY2 : Hid _ := (fun q => HY0.out.below (below_drewN q (Below.refl _ _)))
  go_wp2_with fail
  go_ret
  refine ⟨?_, cpost_of HG.out (HY2.out _) HOK.out HMD.out⟩
  simp
end Go.Proofs.YtkdndfdofhnagaaDoor
namespace Go.Proofs.YtkdndfdofhnagaaDoor
open Go.RowKit Go.PlainAid
set_option linter.unusedVariables false
set_option linter.unusedSimpArgs false
set_option maxRecDepth 100000 in
set_option maxHeartbeats 3200000 in
theorem call0f {S : Sens} {L : Nat} {a : PA} {p : PS} {n : Nat} (w : World) (h : PInv S L a p p.c w) (hG : Gd n p) (K A B : Int) (hk : ¬ (1 ≤ K ∧ K ≤ 11)) :
    Calls Tryd.prog 30 #[.pointer (some ⟨a.pb, 0, none⟩), .agg #[.int .i64 K, .int .i64 A, .int .i64 B, .bool false]] w fun r w' => r = .returned (.bool true) ∧ CPost S L a p n (p.c.play K A B false) w w' := by
  have k1 : (K == 1) = false := by simp; omega
  have k2 : (K == 2) = false := by simp; omega
  have k3 : (K == 3) = false := by simp; omega
  have k4 : (K == 4) = false := by simp; omega
  have k5 : (K == 5) = false := by simp; omega
  have k6 : (K == 6) = false := by simp; omega
  have k7 : (K == 7) = false := by simp; omega
  have k8 : (K == 8) = false := by simp; omega
  have k9 : (K == 9) = false := by simp; omega
  have k10 : (K == 10) = false := by simp; omega
  have k11 : (K == 11) = false := by simp; omega
  have epl : p.c.play K A B false = p.c := by
    unfold CS.play
    simp only [show ¬ K = 1 by omega, show ¬ K = 2 by omega, show ¬ K = 3 by omega, show ¬ K = 4 by omega, show ¬ K = 5 by omega, show ¬ K = 6 by omega, show ¬ K = 10 by omega, show ¬ K = 11 by omega, if_false]
  rw [epl]
  have hgr : Below w.heap.size w (w.alloc (.cells (opC K A B false) 29)) := (Below.refl _ _).alloc (Nat.le_refl _) _
  have HF : Hid _ := (cpost_of hG (⟨h.below hgr, heap_alloc_new w _, PStp.ofBelow hgr⟩ : YSt S L a p p p.c (opC K A B false) w.heap.size w (w.alloc (.cells (opC K A B false) 29))) hG.ok (by omega))
  clear h hG hgr epl hk
  go_enter Tryd.func30, Tryd.ntmps30
  go_wp2_with fail
  go_ret
  exact ⟨rfl, HF.out⟩
set_option maxRecDepth 100000 in
set_option maxHeartbeats 3200000 in
theorem call0t {S : Sens} {L : Nat} {a : PA} {p : PS} {n : Nat} (w : World) (h : PInv S L a p p.c w) (hG : Gd n p) (K A B : Int) (hk : ¬ (1 ≤ K ∧ K ≤ 11)) :
    Calls Tryd.prog 30 #[.pointer (some ⟨a.pb, 0, none⟩), .agg #[.int .i64 K, .int .i64 A, .int .i64 B, .bool true]] w fun r w' => r = .returned (.bool true) ∧ CPost S L a p n (p.c.play K A B true) w w' := by
  have k1 : (K == 1) = false := by simp; omega
  have k2 : (K == 2) = false := by simp; omega
  have k3 : (K == 3) = false := by simp; omega
  have k4 : (K == 4) = false := by simp; omega
  have k5 : (K == 5) = false := by simp; omega
  have k6 : (K == 6) = false := by simp; omega
  have k7 : (K == 7) = false := by simp; omega
  have k8 : (K == 8) = false := by simp; omega
  have k9 : (K == 9) = false := by simp; omega
  have k10 : (K == 10) = false := by simp; omega
  have k11 : (K == 11) = false := by simp; omega
  have epl : p.c.play K A B true = p.c := by
    unfold CS.play
    simp only [show ¬ K = 1 by omega, show ¬ K = 2 by omega, show ¬ K = 3 by omega, show ¬ K = 4 by omega, show ¬ K = 5 by omega, show ¬ K = 6 by omega, show ¬ K = 10 by omega, show ¬ K = 11 by omega, if_false]
  rw [epl]
  have hgr : Below w.heap.size w (w.alloc (.cells (opC K A B true) 29)) := (Below.refl _ _).alloc (Nat.le_refl _) _
  have HF : Hid _ := (cpost_of hG (⟨h.below hgr, heap_alloc_new w _, PStp.ofBelow hgr⟩ : YSt S L a p p p.c (opC K A B true) w.heap.size w (w.alloc (.cells (opC K A B true) 29))) hG.ok (by omega))
  clear h hG hgr epl hk
  go_enter Tryd.func30, Tryd.ntmps30
  go_wp2_with fail
  go_ret
  exact ⟨rfl, HF.out⟩
end Go.Proofs.YtkdndfdofhnagaaDoor
