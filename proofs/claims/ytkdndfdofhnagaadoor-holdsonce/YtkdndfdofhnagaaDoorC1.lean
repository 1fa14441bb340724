import Derived.Test.YtkdndfdofhnagaaDoorJJ
namespace Go.Proofs.YtkdndfdofhnagaaDoor
open Go.RowKit Go.PlainAid
set_option linter.unusedVariables false
set_option linter.unusedSimpArgs false
set_option maxRecDepth 100000 in
set_option maxHeartbeats 3200000 in
theorem call1f {S : Sens} {L : Nat} {a : PA} {p : PS} {n : Nat} (w : World) (h : PInv S L a p p.c w) (hG : Gd n p) (hn : n ≤ 2000) (A B : Int) (hA : IntKind.i64.wrap A = A) (hB : IntKind.i64.wrap B = B) :
    Calls Tryd.prog 30 #[.pointer (some ⟨a.pb, 0, none⟩), .agg #[.int .i64 1, .int .i64 A, .int .i64 B, .bool false]] w fun r w' => r = .returned (.bool true) ∧ CPost S L a p n (p.c.play 1 A B false) w w' := by
  have hok := CS.play_ok hG.ok 1 A B false
  have hmd := CS.play_made (c := p.c) 1 A B false
  have epl : p.c.play 1 A B false = p.c.put false (p.c.b.hnext p.c.s0 A B) (p.c.b.hlnext p.c.s0 A) := rfl
  rw [epl] at hok hmd ⊢
  clear epl
  have hma : p.c.b.made ≤ 1000000 := by have := hG.made; omega
  have hgr : Below w.heap.size w (w.alloc (.cells (opC 1 A B false) 29)) := (Below.refl _ _).alloc (Nat.le_refl _) _
  have HY0 : Hid _ := (⟨h.below hgr, heap_alloc_new w _, PStp.ofBelow hgr⟩ : YSt S L a p p p.c (opC 1 A B false) w.heap.size w (w.alloc (.cells (opC 1 A B false) 29)))
  have HW : Hid _ := (⟨hA, hB⟩ : IntKind.i64.wrap A = A ∧ IntKind.i64.wrap B = B)
  have HG : Hid _ := hG
  have HOK : Hid _ := hok
  have HMD : Hid _ := hmd
  clear h hgr hG hok hmd hA hB
  go_enter Tryd.func30, Tryd.ntmps30
  go_wp2_with fail
  have eW : w.alloc (.cells #[.int .i64 1, .int .i64 A, .int .i64 B, .bool false] 29) = w.alloc (.cells (opC 1 A B false) 29) := rfl
  rw [eW]
  clear eW
  generalize w.alloc (.cells (opC 1 A B false) 29) = W0 at *
  rename_i K hK
  try rw [show ∀ a : Act, a.put none undef = a from fun _ => rfl]
  refine wp_region_mix (fun wr' => Blk wr' a.pb (pairC a p) 61 ∧ Blk wr' (w.heap.size) (opC 1 A B false) 29) (fun i => i == 14 || i == 20) 20 (by kernel_rfl) rfl (by kernel_rfl) (by kernel_rfl) (by kernel_rfl) ?_
  have hY0 : YSt S L a p (p) (p.c) (opC 1 A B false) (w.heap.size) w ({ W0 with drawn := W0.drawn + 1 } : World) := HY0.out.below ⟨rfl, rfl, rfl, Nat.le_refl _, fun _ _ => rfl⟩
  generalize ({ W0 with drawn := W0.drawn + 1 } : World) = X at *
  have hC : Blk X a.pb (pairC a p) 61 ∧ Blk X (w.heap.size) (opC 1 A B false) 29 := hY0.cls
  refine withFrP (N := 210) rfl ?_
  intro f0 F0 hff
  have hs0 : f0 0 = Value.pointer (some ⟨a.pb, 0, none⟩) := hff 0
  have hs3 : f0 3 = Value.pointer (some ⟨w.heap.size, 0, none⟩) := hff 3
  have hs5 : f0 5 = Value.int .i64 0 := hff 5
  clear hff
  refine lyp F0 rfl hC rfl (by omega) (wanted_none rfl) (v := Value.pointer (some ⟨a.pb, 0, none⟩)) (fun wr hwr => by simp only [execOp, (F0.eval 0 (by omega)).trans (show _ = Value.pointer (some ⟨a.pb, 0, none⟩) from by simp [upd, hs0, hs3, hs5])]; first | rfl | simp [go_sem]) fun F1 => ?_
  refine lyp F1 rfl hC rfl (by omega) (wanted_none rfl) (v := Value.pointer (some ⟨a.pb, 0, none⟩)) (fun wr hwr => by simp only [execOp, (F1.eval 25 (by omega)).trans (show _ = Value.pointer (some ⟨a.pb, 0, none⟩) from by simp [upd, hs0, hs3, hs5])]; simp [go_sem]) fun F2 => ?_
  refine lyp F2 rfl hC rfl (by omega) (wanted_none rfl) (v := Value.pointer (some ⟨a.pb, 0, none⟩)) (fun wr hwr => by simp only [execOp, (F2.eval 26 (by omega)).trans (show _ = Value.pointer (some ⟨a.pb, 0, none⟩) from by simp [upd, hs0, hs3, hs5])]; simp [go_sem]) fun F3 => ?_
  refine lyp F3 rfl hC rfl (by omega) (wanted_none rfl) (v := Value.pointer (some ⟨a.hb, 0, none⟩)) (fun wr hwr => by simp only [execOp, (F3.eval 27 (by omega)).trans (show _ = Value.pointer (some ⟨a.pb, 0, none⟩) from by simp [upd, hs0, hs3, hs5])]; simp [go_sem, (show wr.cell? ⟨a.pb, 0, none⟩ = some (.pointer (some ⟨a.hb, 0, none⟩)) from hwr.1.cell 0)]) fun F4 => ?_
  refine lyp F4 rfl hC rfl (by omega) (wanted_none rfl) (v := Value.pointer (some ⟨a.pb, 0, none⟩)) (fun wr hwr => by simp only [execOp, (F4.eval 0 (by omega)).trans (show _ = Value.pointer (some ⟨a.pb, 0, none⟩) from by simp [upd, hs0, hs3, hs5])]; first | rfl | simp [go_sem]) fun F5 => ?_
  refine lyp F5 rfl hC rfl (by omega) (wanted_none rfl) (v := Value.int .i64 0) (fun wr hwr => by simp only [execOp, (F5.eval 5 (by omega)).trans (show _ = Value.int .i64 0 from by simp [upd, hs0, hs3, hs5])]; first | rfl | simp [go_sem]) fun F6 => ?_
  refine lyp F6 rfl hC rfl (by omega) (wanted_none rfl) (v := Value.pointer (some ⟨a.pb, 0, none⟩)) (fun wr hwr => by simp only [execOp, (F6.eval 29 (by omega)).trans (show _ = Value.pointer (some ⟨a.pb, 0, none⟩) from by simp [upd, hs0, hs3, hs5])]; simp [go_sem]) fun F7 => ?_
  refine lyp F7 rfl hC rfl (by omega) (wanted_none rfl) (v := Value.pointer (some ⟨a.pb, 2, none⟩)) (fun wr hwr => by simp only [execOp, (F7.eval 31 (by omega)).trans (show _ = Value.pointer (some ⟨a.pb, 0, none⟩) from by simp [upd, hs0, hs3, hs5])]; simp [go_sem]) fun F8 => ?_
  refine lyp F8 rfl hC rfl (by omega) (wanted_none rfl) (v := Value.pointer (some ⟨a.pb, 2, none⟩)) (fun wr hwr => by simp only [execOp, (F8.eval 32 (by omega)).trans (show _ = Value.pointer (some ⟨a.pb, 2, none⟩) from by simp [upd, hs0, hs3, hs5]), (F8.eval 30 (by omega)).trans (show _ = Value.int .i64 0 from by simp [upd, hs0, hs3, hs5])]; simp [go_sem, Act.eval]) fun F9 => ?_
  refine lyp F9 rfl hC rfl (by omega) (wanted_none rfl) (v := Value.pointer (some ⟨a.l0, 0, none⟩)) (fun wr hwr => by simp only [execOp, (F9.eval 33 (by omega)).trans (show _ = Value.pointer (some ⟨a.pb, 2, none⟩) from by simp [upd, hs0, hs3, hs5])]; simp [go_sem, (show wr.cell? ⟨a.pb, 2, none⟩ = some (.pointer (some ⟨a.l0, 0, none⟩)) from hwr.1.cell 2)]) fun F10 => ?_
  refine lyp F10 rfl hC rfl (by omega) (wanted_none rfl) (v := Value.pointer (some ⟨w.heap.size, 1, none⟩)) (fun wr hwr => by simp only [execOp, (F10.eval 3 (by omega)).trans (show _ = Value.pointer (some ⟨w.heap.size, 0, none⟩) from by simp [upd, hs0, hs3, hs5])]; simp [go_sem]) fun F11 => ?_
  refine lyp F11 rfl hC rfl (by omega) (wanted_none rfl) (v := Value.int .i64 A) (fun wr hwr => by simp only [execOp, (F11.eval 35 (by omega)).trans (show _ = Value.pointer (some ⟨w.heap.size, 1, none⟩) from by simp [upd, hs0, hs3, hs5])]; simp [go_sem, (show wr.cell? ⟨w.heap.size, 1, none⟩ = some (Value.int .i64 A) from hwr.2.cell 1)]) fun F12 => ?_
  refine lyp F12 rfl hC rfl (by omega) (wanted_none rfl) (v := Value.pointer (some ⟨w.heap.size, 2, none⟩)) (fun wr hwr => by simp only [execOp, (F12.eval 3 (by omega)).trans (show _ = Value.pointer (some ⟨w.heap.size, 0, none⟩) from by simp [upd, hs0, hs3, hs5])]; simp [go_sem]) fun F13 => ?_
  refine lyp F13 rfl hC rfl (by omega) (wanted_none rfl) (v := Value.int .i64 B) (fun wr hwr => by simp only [execOp, (F13.eval 37 (by omega)).trans (show _ = Value.pointer (some ⟨w.heap.size, 2, none⟩) from by simp [upd, hs0, hs3, hs5])]; simp [go_sem, (show wr.cell? ⟨w.heap.size, 2, none⟩ = some (Value.int .i64 B) from hwr.2.cell 2)]) fun F14 => ?_
  refine lcp F14 rfl hC rfl (by omega) (wanted_none rfl) (g := 18) (args := #[Value.pointer (some ⟨a.hb, 0, none⟩), Value.pointer (some ⟨a.l0, 0, none⟩), Value.int .i64 A, Value.int .i64 B]) (by simp only [execOp, resolve, invoke, List.map_toArray, List.map_cons, List.map_nil, (F14.eval 28 (by omega)).trans (show _ = Value.pointer (some ⟨a.hb, 0, none⟩) from by simp [upd, hs0, hs3, hs5]), (F14.eval 34 (by omega)).trans (show _ = Value.pointer (some ⟨a.l0, 0, none⟩) from by simp [upd, hs0, hs3, hs5]), (F14.eval 36 (by omega)).trans (show _ = Value.int .i64 A from by simp [upd, hs0, hs3, hs5]), (F14.eval 38 (by omega)).trans (show _ = Value.int .i64 B from by simp [upd, hs0, hs3, hs5])]; simp [go_sem, Act.eval]) (hold_any (lb := a.l0) (s := p.c.s0) X hY0.inv.core.sen hY0.inv.core.bk HG.out.ok.b hY0.inv.core.l0 HG.out.ok.s0 (hY0.inv.core.lol false) hma A B) ?_
  rintro e1 w1 ⟨rfl, hB1, hl1, hc1⟩
  have hs1 := hY0.inv.codeStep false hc1 hB1 hl1
  have hY1 := hY0.step hs1.1 hs1.2
  have hC1 : Blk w1 a.pb (pairC a p) 61 ∧ Blk w1 w.heap.size (opC 1 A B false) 29 := hY1.cls
  refine ⟨_, rfl, fun F15 => ?_⟩
  refine lyp F15 rfl hC1 rfl (by omega) (wanted_none rfl) (v := Value.tuple #[.int .i64 (p.c.b.hnum p.c.s0 A), .int .i64 (p.c.b.hcode p.c.s0 A)]) (fun wr hwr => by simp only [execOp, (F15.eval 39 (by omega)).trans (show _ = Value.tuple #[.int .i64 (p.c.b.hnum p.c.s0 A), .int .i64 (p.c.b.hcode p.c.s0 A)] from by simp [upd, hs0, hs3, hs5])]; first | rfl | simp [go_sem]) fun F16 => ?_
  refine lyp F16 rfl hC1 rfl (by omega) (wanted_none rfl) (v := Value.int .i64 (p.c.b.hnum p.c.s0 A)) (fun wr hwr => by simp only [execOp, (F16.eval 24 (by omega)).trans (show _ = Value.tuple #[.int .i64 (p.c.b.hnum p.c.s0 A), .int .i64 (p.c.b.hcode p.c.s0 A)] from by simp [upd, hs0, hs3, hs5])]; simp [go_sem]) fun F17 => ?_
  refine lyp F17 rfl hC1 rfl (by omega) (wanted_none rfl) (v := Value.int .i64 (p.c.b.hcode p.c.s0 A)) (fun wr hwr => by simp only [execOp, (F17.eval 24 (by omega)).trans (show _ = Value.tuple #[.int .i64 (p.c.b.hnum p.c.s0 A), .int .i64 (p.c.b.hcode p.c.s0 A)] from by simp [upd, hs0, hs3, hs5])]; simp [go_sem]) fun F18 => ?_
  refine lyp F18 rfl hC1 rfl (by omega) (wanted_none rfl) (v := Value.int .i64 (p.c.b.hnum p.c.s0 A)) (fun wr hwr => by simp only [execOp, (F18.eval 40 (by omega)).trans (show _ = Value.int .i64 (p.c.b.hnum p.c.s0 A) from by simp [upd, hs0, hs3, hs5])]; first | rfl | simp [go_sem]) fun F19 => ?_
  refine lyp F19 rfl hC1 rfl (by omega) (wanted_none rfl) (v := Value.int .i64 (p.c.b.hcode p.c.s0 A)) (fun wr hwr => by simp only [execOp, (F19.eval 41 (by omega)).trans (show _ = Value.int .i64 (p.c.b.hcode p.c.s0 A) from by simp [upd, hs0, hs3, hs5])]; first | rfl | simp [go_sem]) fun F20 => ?_
  refine ⟨fun _ => hC1, ?_⟩
  refine hK _ _ ?_
  clear F0 F1 F2 F3 F4 F5 F6 F7 F8 F9 F10 F11 F12 F13 F14 F15 F16 F17 F18 F19 F20 hs0 hs3 hs5
  simp only [Act.put, List.setIfInBounds_toArray, List.set_cons_succ, List.set_cons_zero]
  have HY1 : Hid _ := hY1
  clear hK hC hC1 hY0 hB1 hl1 hc1 hs1 hY1
  go_wp2_with fail
  rename_i K hK
  try rw [show ∀ a : Act, a.put none undef = a from fun _ => rfl]
  refine wp_region_mix (fun wr' => Blk wr' a.pb (pairC a p) 61 ∧ Blk wr' (w.heap.size) (opC 1 A B false) 29) (fun i => i == 14 || i == 20) 20 (by kernel_rfl) rfl (by kernel_rfl) (by kernel_rfl) (by kernel_rfl) ?_
  have hY0 : YSt S L a p ({ p with c := p.c.put false (p.c.b.hnext p.c.s0 A B) (p.c.b.hlnext p.c.s0 A) }) (p.c) (opC 1 A B false) (w.heap.size) w ({ w1 with drawn := w1.drawn + 1 } : World) := HY1.out.below ⟨rfl, rfl, rfl, Nat.le_refl _, fun _ _ => rfl⟩
  generalize ({ w1 with drawn := w1.drawn + 1 } : World) = X at *
  have hC : Blk X a.pb (pairC a p) 61 ∧ Blk X (w.heap.size) (opC 1 A B false) 29 := hY0.cls
  refine withFrP (N := 210) rfl ?_
  intro f0 F0 hff
  have hs0 : f0 0 = Value.pointer (some ⟨a.pb, 0, none⟩) := hff 0
  have hs3 : f0 3 = Value.pointer (some ⟨w.heap.size, 0, none⟩) := hff 3
  have hs5 : f0 5 = Value.int .i64 0 := hff 5
  clear hff
  refine lyp F0 rfl hC rfl (by omega) (wanted_none rfl) (v := Value.pointer (some ⟨a.pb, 0, none⟩)) (fun wr hwr => by simp only [execOp, (F0.eval 0 (by omega)).trans (show _ = Value.pointer (some ⟨a.pb, 0, none⟩) from by simp [upd, hs0, hs3, hs5])]; first | rfl | simp [go_sem]) fun F1 => ?_
  refine lyp F1 rfl hC rfl (by omega) (wanted_none rfl) (v := Value.pointer (some ⟨a.pb, 0, none⟩)) (fun wr hwr => by simp only [execOp, (F1.eval 43 (by omega)).trans (show _ = Value.pointer (some ⟨a.pb, 0, none⟩) from by simp [upd, hs0, hs3, hs5])]; simp [go_sem]) fun F2 => ?_
  refine lyp F2 rfl hC rfl (by omega) (wanted_none rfl) (v := Value.pointer (some ⟨a.pb, 1, none⟩)) (fun wr hwr => by simp only [execOp, (F2.eval 44 (by omega)).trans (show _ = Value.pointer (some ⟨a.pb, 0, none⟩) from by simp [upd, hs0, hs3, hs5])]; simp [go_sem]) fun F3 => ?_
  refine lyp F3 rfl hC rfl (by omega) (wanted_none rfl) (v := Value.pointer (some ⟨a.rb, 0, none⟩)) (fun wr hwr => by simp only [execOp, (F3.eval 45 (by omega)).trans (show _ = Value.pointer (some ⟨a.pb, 1, none⟩) from by simp [upd, hs0, hs3, hs5])]; simp [go_sem, (show wr.cell? ⟨a.pb, 1, none⟩ = some (.pointer (some ⟨a.rb, 0, none⟩)) from hwr.1.cell 1)]) fun F4 => ?_
  refine lyp F4 rfl hC rfl (by omega) (wanted_none rfl) (v := Value.pointer (some ⟨a.pb, 0, none⟩)) (fun wr hwr => by simp only [execOp, (F4.eval 0 (by omega)).trans (show _ = Value.pointer (some ⟨a.pb, 0, none⟩) from by simp [upd, hs0, hs3, hs5])]; first | rfl | simp [go_sem]) fun F5 => ?_
  refine lyp F5 rfl hC rfl (by omega) (wanted_none rfl) (v := Value.int .i64 0) (fun wr hwr => by simp only [execOp, (F5.eval 5 (by omega)).trans (show _ = Value.int .i64 0 from by simp [upd, hs0, hs3, hs5])]; first | rfl | simp [go_sem]) fun F6 => ?_
  refine lyp F6 rfl hC rfl (by omega) (wanted_none rfl) (v := Value.pointer (some ⟨a.pb, 0, none⟩)) (fun wr hwr => by simp only [execOp, (F6.eval 47 (by omega)).trans (show _ = Value.pointer (some ⟨a.pb, 0, none⟩) from by simp [upd, hs0, hs3, hs5])]; simp [go_sem]) fun F7 => ?_
  refine lyp F7 rfl hC rfl (by omega) (wanted_none rfl) (v := Value.pointer (some ⟨a.pb, 4, none⟩)) (fun wr hwr => by simp only [execOp, (F7.eval 49 (by omega)).trans (show _ = Value.pointer (some ⟨a.pb, 0, none⟩) from by simp [upd, hs0, hs3, hs5])]; simp [go_sem]) fun F8 => ?_
  refine lyp F8 rfl hC rfl (by omega) (wanted_none rfl) (v := Value.pointer (some ⟨a.pb, 4, none⟩)) (fun wr hwr => by simp only [execOp, (F8.eval 50 (by omega)).trans (show _ = Value.pointer (some ⟨a.pb, 4, none⟩) from by simp [upd, hs0, hs3, hs5]), (F8.eval 48 (by omega)).trans (show _ = Value.int .i64 0 from by simp [upd, hs0, hs3, hs5])]; simp [go_sem, Act.eval]) fun F9 => ?_
  refine lyp F9 rfl hC rfl (by omega) (wanted_none rfl) (v := Value.pointer (some ⟨a.q0, 0, none⟩)) (fun wr hwr => by simp only [execOp, (F9.eval 51 (by omega)).trans (show _ = Value.pointer (some ⟨a.pb, 4, none⟩) from by simp [upd, hs0, hs3, hs5])]; simp [go_sem, (show wr.cell? ⟨a.pb, 4, none⟩ = some (.pointer (some ⟨a.q0, 0, none⟩)) from hwr.1.cell 4)]) fun F10 => ?_
  refine lyp F10 rfl hC rfl (by omega) (wanted_none rfl) (v := Value.pointer (some ⟨w.heap.size, 1, none⟩)) (fun wr hwr => by simp only [execOp, (F10.eval 3 (by omega)).trans (show _ = Value.pointer (some ⟨w.heap.size, 0, none⟩) from by simp [upd, hs0, hs3, hs5])]; simp [go_sem]) fun F11 => ?_
  refine lyp F11 rfl hC rfl (by omega) (wanted_none rfl) (v := Value.int .i64 A) (fun wr hwr => by simp only [execOp, (F11.eval 53 (by omega)).trans (show _ = Value.pointer (some ⟨w.heap.size, 1, none⟩) from by simp [upd, hs0, hs3, hs5])]; simp [go_sem, (show wr.cell? ⟨w.heap.size, 1, none⟩ = some (Value.int .i64 A) from hwr.2.cell 1)]) fun F12 => ?_
  refine lyp F12 rfl hC rfl (by omega) (wanted_none rfl) (v := Value.pointer (some ⟨w.heap.size, 2, none⟩)) (fun wr hwr => by simp only [execOp, (F12.eval 3 (by omega)).trans (show _ = Value.pointer (some ⟨w.heap.size, 0, none⟩) from by simp [upd, hs0, hs3, hs5])]; simp [go_sem]) fun F13 => ?_
  refine lyp F13 rfl hC rfl (by omega) (wanted_none rfl) (v := Value.int .i64 B) (fun wr hwr => by simp only [execOp, (F13.eval 55 (by omega)).trans (show _ = Value.pointer (some ⟨w.heap.size, 2, none⟩) from by simp [upd, hs0, hs3, hs5])]; simp [go_sem, (show wr.cell? ⟨w.heap.size, 2, none⟩ = some (Value.int .i64 B) from hwr.2.cell 2)]) fun F14 => ?_
  refine lcp F14 rfl hC rfl (by omega) (wanted_none rfl) (g := 43) (args := #[Value.pointer (some ⟨a.rb, 0, none⟩), Value.pointer (some ⟨a.q0, 0, none⟩), Value.int .i64 A, Value.int .i64 B]) (by simp only [execOp, resolve, invoke, List.map_toArray, List.map_cons, List.map_nil, (F14.eval 46 (by omega)).trans (show _ = Value.pointer (some ⟨a.rb, 0, none⟩) from by simp [upd, hs0, hs3, hs5]), (F14.eval 52 (by omega)).trans (show _ = Value.pointer (some ⟨a.q0, 0, none⟩) from by simp [upd, hs0, hs3, hs5]), (F14.eval 54 (by omega)).trans (show _ = Value.int .i64 A from by simp [upd, hs0, hs3, hs5]), (F14.eval 56 (by omega)).trans (show _ = Value.int .i64 B from by simp [upd, hs0, hs3, hs5])]; simp [go_sem, Act.eval]) (rhold_any (qb := a.q0) (s := p.c.s0) X hY0.inv.core.rk HG.out.ok.b hY0.inv.core.q0 HG.out.ok.s0 hY0.inv.core.low hma A B) ?_
  rintro e2 w2 ⟨rfl, hp2⟩
  obtain ⟨v2, hI2, hs2⟩ := hY0.inv.refStep false hp2
  have hY2 := hY0.step hI2 hs2
  have hC2 : Blk w2 a.pb (pairC a p) 61 ∧ Blk w2 w.heap.size (opC 1 A B false) 29 := hY2.cls
  refine ⟨_, rfl, fun F15 => ?_⟩
  refine lyp F15 rfl hC2 rfl (by omega) (wanted_none rfl) (v := Value.tuple #[.int .i64 (p.c.b.hnum p.c.s0 A), .int .i64 (p.c.b.hcode p.c.s0 A)]) (fun wr hwr => by simp only [execOp, (F15.eval 57 (by omega)).trans (show _ = Value.tuple #[.int .i64 (p.c.b.hnum p.c.s0 A), .int .i64 (p.c.b.hcode p.c.s0 A)] from by simp [upd, hs0, hs3, hs5])]; first | rfl | simp [go_sem]) fun F16 => ?_
  refine lyp F16 rfl hC2 rfl (by omega) (wanted_none rfl) (v := Value.int .i64 (p.c.b.hnum p.c.s0 A)) (fun wr hwr => by simp only [execOp, (F16.eval 42 (by omega)).trans (show _ = Value.tuple #[.int .i64 (p.c.b.hnum p.c.s0 A), .int .i64 (p.c.b.hcode p.c.s0 A)] from by simp [upd, hs0, hs3, hs5])]; simp [go_sem]) fun F17 => ?_
  refine lyp F17 rfl hC2 rfl (by omega) (wanted_none rfl) (v := Value.int .i64 (p.c.b.hcode p.c.s0 A)) (fun wr hwr => by simp only [execOp, (F17.eval 42 (by omega)).trans (show _ = Value.tuple #[.int .i64 (p.c.b.hnum p.c.s0 A), .int .i64 (p.c.b.hcode p.c.s0 A)] from by simp [upd, hs0, hs3, hs5])]; simp [go_sem]) fun F18 => ?_
  refine lyp F18 rfl hC2 rfl (by omega) (wanted_none rfl) (v := Value.int .i64 (p.c.b.hnum p.c.s0 A)) (fun wr hwr => by simp only [execOp, (F18.eval 58 (by omega)).trans (show _ = Value.int .i64 (p.c.b.hnum p.c.s0 A) from by simp [upd, hs0, hs3, hs5])]; first | rfl | simp [go_sem]) fun F19 => ?_
  refine lyp F19 rfl hC2 rfl (by omega) (wanted_none rfl) (v := Value.int .i64 (p.c.b.hcode p.c.s0 A)) (fun wr hwr => by simp only [execOp, (F19.eval 59 (by omega)).trans (show _ = Value.int .i64 (p.c.b.hcode p.c.s0 A) from by simp [upd, hs0, hs3, hs5])]; first | rfl | simp [go_sem]) fun F20 => ?_
  refine ⟨fun _ => hC2, ?_⟩
  refine hK _ _ ?_
  clear F0 F1 F2 F3 F4 F5 F6 F7 F8 F9 F10 F11 F12 F13 F14 F15 F16 F17 F18 F19 F20 hs0 hs3 hs5
  simp only [Act.put, List.setIfInBounds_toArray, List.set_cons_succ, List.set_cons_zero]
  have HY2 : Hid _ := hY2
  clear hK hC hC2 hY0 hp2 hI2 hs2 hY2
  have hnm := num_any
  go_wp2_with (first | (go_at_call 16; refine (hnm _ _).mono ?_; rintro e w' ⟨rfl, rfl⟩))
  go_ret
  refine ⟨?_, cpost_of HG.out HY2.out HOK.out HMD.out⟩
  simp
set_option maxRecDepth 100000 in
set_option maxHeartbeats 3200000 in
theorem call1t {S : Sens} {L : Nat} {a : PA} {p : PS} {n : Nat} (w : World) (h : PInv S L a p p.c w) (hG : Gd n p) (hn : n ≤ 2000) (A B : Int) (hA : IntKind.i64.wrap A = A) (hB : IntKind.i64.wrap B = B) :
    Calls Tryd.prog 30 #[.pointer (some ⟨a.pb, 0, none⟩), .agg #[.int .i64 1, .int .i64 A, .int .i64 B, .bool true]] w fun r w' => r = .returned (.bool true) ∧ CPost S L a p n (p.c.play 1 A B true) w w' := by
  have hok := CS.play_ok hG.ok 1 A B true
  have hmd := CS.play_made (c := p.c) 1 A B true
  have epl : p.c.play 1 A B true = p.c.put true (p.c.b.hnext p.c.s1 A B) (p.c.b.hlnext p.c.s1 A) := rfl
  rw [epl] at hok hmd ⊢
  clear epl
  have hma : p.c.b.made ≤ 1000000 := by have := hG.made; omega
  have hgr : Below w.heap.size w (w.alloc (.cells (opC 1 A B true) 29)) := (Below.refl _ _).alloc (Nat.le_refl _) _
  have HY0 : Hid _ := (⟨h.below hgr, heap_alloc_new w _, PStp.ofBelow hgr⟩ : YSt S L a p p p.c (opC 1 A B true) w.heap.size w (w.alloc (.cells (opC 1 A B true) 29)))
  have HW : Hid _ := (⟨hA, hB⟩ : IntKind.i64.wrap A = A ∧ IntKind.i64.wrap B = B)
  have HG : Hid _ := hG
  have HOK : Hid _ := hok
  have HMD : Hid _ := hmd
  clear h hgr hG hok hmd hA hB
  go_enter Tryd.func30, Tryd.ntmps30
  go_wp2_with fail
  have eW : w.alloc (.cells #[.int .i64 1, .int .i64 A, .int .i64 B, .bool true] 29) = w.alloc (.cells (opC 1 A B true) 29) := rfl
  rw [eW]
  clear eW
  generalize w.alloc (.cells (opC 1 A B true) 29) = W0 at *
  rename_i K hK
  try rw [show ∀ a : Act, a.put none undef = a from fun _ => rfl]
  refine wp_region_mix (fun wr' => Blk wr' a.pb (pairC a p) 61 ∧ Blk wr' (w.heap.size) (opC 1 A B true) 29) (fun i => i == 14 || i == 20) 20 (by kernel_rfl) rfl (by kernel_rfl) (by kernel_rfl) (by kernel_rfl) ?_
  have hY0 : YSt S L a p (p) (p.c) (opC 1 A B true) (w.heap.size) w ({ W0 with drawn := W0.drawn + 1 } : World) := HY0.out.below ⟨rfl, rfl, rfl, Nat.le_refl _, fun _ _ => rfl⟩
  generalize ({ W0 with drawn := W0.drawn + 1 } : World) = X at *
  have hC : Blk X a.pb (pairC a p) 61 ∧ Blk X (w.heap.size) (opC 1 A B true) 29 := hY0.cls
  refine withFrP (N := 210) rfl ?_
  intro f0 F0 hff
  have hs0 : f0 0 = Value.pointer (some ⟨a.pb, 0, none⟩) := hff 0
  have hs3 : f0 3 = Value.pointer (some ⟨w.heap.size, 0, none⟩) := hff 3
  have hs5 : f0 5 = Value.int .i64 1 := hff 5
  clear hff
  refine lyp F0 rfl hC rfl (by omega) (wanted_none rfl) (v := Value.pointer (some ⟨a.pb, 0, none⟩)) (fun wr hwr => by simp only [execOp, (F0.eval 0 (by omega)).trans (show _ = Value.pointer (some ⟨a.pb, 0, none⟩) from by simp [upd, hs0, hs3, hs5])]; first | rfl | simp [go_sem]) fun F1 => ?_
  refine lyp F1 rfl hC rfl (by omega) (wanted_none rfl) (v := Value.pointer (some ⟨a.pb, 0, none⟩)) (fun wr hwr => by simp only [execOp, (F1.eval 25 (by omega)).trans (show _ = Value.pointer (some ⟨a.pb, 0, none⟩) from by simp [upd, hs0, hs3, hs5])]; simp [go_sem]) fun F2 => ?_
  refine lyp F2 rfl hC rfl (by omega) (wanted_none rfl) (v := Value.pointer (some ⟨a.pb, 0, none⟩)) (fun wr hwr => by simp only [execOp, (F2.eval 26 (by omega)).trans (show _ = Value.pointer (some ⟨a.pb, 0, none⟩) from by simp [upd, hs0, hs3, hs5])]; simp [go_sem]) fun F3 => ?_
  refine lyp F3 rfl hC rfl (by omega) (wanted_none rfl) (v := Value.pointer (some ⟨a.hb, 0, none⟩)) (fun wr hwr => by simp only [execOp, (F3.eval 27 (by omega)).trans (show _ = Value.pointer (some ⟨a.pb, 0, none⟩) from by simp [upd, hs0, hs3, hs5])]; simp [go_sem, (show wr.cell? ⟨a.pb, 0, none⟩ = some (.pointer (some ⟨a.hb, 0, none⟩)) from hwr.1.cell 0)]) fun F4 => ?_
  refine lyp F4 rfl hC rfl (by omega) (wanted_none rfl) (v := Value.pointer (some ⟨a.pb, 0, none⟩)) (fun wr hwr => by simp only [execOp, (F4.eval 0 (by omega)).trans (show _ = Value.pointer (some ⟨a.pb, 0, none⟩) from by simp [upd, hs0, hs3, hs5])]; first | rfl | simp [go_sem]) fun F5 => ?_
  refine lyp F5 rfl hC rfl (by omega) (wanted_none rfl) (v := Value.int .i64 1) (fun wr hwr => by simp only [execOp, (F5.eval 5 (by omega)).trans (show _ = Value.int .i64 1 from by simp [upd, hs0, hs3, hs5])]; first | rfl | simp [go_sem]) fun F6 => ?_
  refine lyp F6 rfl hC rfl (by omega) (wanted_none rfl) (v := Value.pointer (some ⟨a.pb, 0, none⟩)) (fun wr hwr => by simp only [execOp, (F6.eval 29 (by omega)).trans (show _ = Value.pointer (some ⟨a.pb, 0, none⟩) from by simp [upd, hs0, hs3, hs5])]; simp [go_sem]) fun F7 => ?_
  refine lyp F7 rfl hC rfl (by omega) (wanted_none rfl) (v := Value.pointer (some ⟨a.pb, 2, none⟩)) (fun wr hwr => by simp only [execOp, (F7.eval 31 (by omega)).trans (show _ = Value.pointer (some ⟨a.pb, 0, none⟩) from by simp [upd, hs0, hs3, hs5])]; simp [go_sem]) fun F8 => ?_
  refine lyp F8 rfl hC rfl (by omega) (wanted_none rfl) (v := Value.pointer (some ⟨a.pb, 3, none⟩)) (fun wr hwr => by simp only [execOp, (F8.eval 32 (by omega)).trans (show _ = Value.pointer (some ⟨a.pb, 2, none⟩) from by simp [upd, hs0, hs3, hs5]), (F8.eval 30 (by omega)).trans (show _ = Value.int .i64 1 from by simp [upd, hs0, hs3, hs5])]; simp [go_sem, Act.eval]) fun F9 => ?_
  refine lyp F9 rfl hC rfl (by omega) (wanted_none rfl) (v := Value.pointer (some ⟨a.l1, 0, none⟩)) (fun wr hwr => by simp only [execOp, (F9.eval 33 (by omega)).trans (show _ = Value.pointer (some ⟨a.pb, 3, none⟩) from by simp [upd, hs0, hs3, hs5])]; simp [go_sem, (show wr.cell? ⟨a.pb, 3, none⟩ = some (.pointer (some ⟨a.l1, 0, none⟩)) from hwr.1.cell 3)]) fun F10 => ?_
  refine lyp F10 rfl hC rfl (by omega) (wanted_none rfl) (v := Value.pointer (some ⟨w.heap.size, 1, none⟩)) (fun wr hwr => by simp only [execOp, (F10.eval 3 (by omega)).trans (show _ = Value.pointer (some ⟨w.heap.size, 0, none⟩) from by simp [upd, hs0, hs3, hs5])]; simp [go_sem]) fun F11 => ?_
  refine lyp F11 rfl hC rfl (by omega) (wanted_none rfl) (v := Value.int .i64 A) (fun wr hwr => by simp only [execOp, (F11.eval 35 (by omega)).trans (show _ = Value.pointer (some ⟨w.heap.size, 1, none⟩) from by simp [upd, hs0, hs3, hs5])]; simp [go_sem, (show wr.cell? ⟨w.heap.size, 1, none⟩ = some (Value.int .i64 A) from hwr.2.cell 1)]) fun F12 => ?_
  refine lyp F12 rfl hC rfl (by omega) (wanted_none rfl) (v := Value.pointer (some ⟨w.heap.size, 2, none⟩)) (fun wr hwr => by simp only [execOp, (F12.eval 3 (by omega)).trans (show _ = Value.pointer (some ⟨w.heap.size, 0, none⟩) from by simp [upd, hs0, hs3, hs5])]; simp [go_sem]) fun F13 => ?_
  refine lyp F13 rfl hC rfl (by omega) (wanted_none rfl) (v := Value.int .i64 B) (fun wr hwr => by simp only [execOp, (F13.eval 37 (by omega)).trans (show _ = Value.pointer (some ⟨w.heap.size, 2, none⟩) from by simp [upd, hs0, hs3, hs5])]; simp [go_sem, (show wr.cell? ⟨w.heap.size, 2, none⟩ = some (Value.int .i64 B) from hwr.2.cell 2)]) fun F14 => ?_
  refine lcp F14 rfl hC rfl (by omega) (wanted_none rfl) (g := 18) (args := #[Value.pointer (some ⟨a.hb, 0, none⟩), Value.pointer (some ⟨a.l1, 0, none⟩), Value.int .i64 A, Value.int .i64 B]) (by simp only [execOp, resolve, invoke, List.map_toArray, List.map_cons, List.map_nil, (F14.eval 28 (by omega)).trans (show _ = Value.pointer (some ⟨a.hb, 0, none⟩) from by simp [upd, hs0, hs3, hs5]), (F14.eval 34 (by omega)).trans (show _ = Value.pointer (some ⟨a.l1, 0, none⟩) from by simp [upd, hs0, hs3, hs5]), (F14.eval 36 (by omega)).trans (show _ = Value.int .i64 A from by simp [upd, hs0, hs3, hs5]), (F14.eval 38 (by omega)).trans (show _ = Value.int .i64 B from by simp [upd, hs0, hs3, hs5])]; simp [go_sem, Act.eval]) (hold_any (lb := a.l1) (s := p.c.s1) X hY0.inv.core.sen hY0.inv.core.bk HG.out.ok.b hY0.inv.core.l1 HG.out.ok.s1 (hY0.inv.core.lol true) hma A B) ?_
  rintro e1 w1 ⟨rfl, hB1, hl1, hc1⟩
  have hs1 := hY0.inv.codeStep true hc1 hB1 hl1
  have hY1 := hY0.step hs1.1 hs1.2
  have hC1 : Blk w1 a.pb (pairC a p) 61 ∧ Blk w1 w.heap.size (opC 1 A B true) 29 := hY1.cls
  refine ⟨_, rfl, fun F15 => ?_⟩
  refine lyp F15 rfl hC1 rfl (by omega) (wanted_none rfl) (v := Value.tuple #[.int .i64 (p.c.b.hnum p.c.s1 A), .int .i64 (p.c.b.hcode p.c.s1 A)]) (fun wr hwr => by simp only [execOp, (F15.eval 39 (by omega)).trans (show _ = Value.tuple #[.int .i64 (p.c.b.hnum p.c.s1 A), .int .i64 (p.c.b.hcode p.c.s1 A)] from by simp [upd, hs0, hs3, hs5])]; first | rfl | simp [go_sem]) fun F16 => ?_
  refine lyp F16 rfl hC1 rfl (by omega) (wanted_none rfl) (v := Value.int .i64 (p.c.b.hnum p.c.s1 A)) (fun wr hwr => by simp only [execOp, (F16.eval 24 (by omega)).trans (show _ = Value.tuple #[.int .i64 (p.c.b.hnum p.c.s1 A), .int .i64 (p.c.b.hcode p.c.s1 A)] from by simp [upd, hs0, hs3, hs5])]; simp [go_sem]) fun F17 => ?_
  refine lyp F17 rfl hC1 rfl (by omega) (wanted_none rfl) (v := Value.int .i64 (p.c.b.hcode p.c.s1 A)) (fun wr hwr => by simp only [execOp, (F17.eval 24 (by omega)).trans (show _ = Value.tuple #[.int .i64 (p.c.b.hnum p.c.s1 A), .int .i64 (p.c.b.hcode p.c.s1 A)] from by simp [upd, hs0, hs3, hs5])]; simp [go_sem]) fun F18 => ?_
  refine lyp F18 rfl hC1 rfl (by omega) (wanted_none rfl) (v := Value.int .i64 (p.c.b.hnum p.c.s1 A)) (fun wr hwr => by simp only [execOp, (F18.eval 40 (by omega)).trans (show _ = Value.int .i64 (p.c.b.hnum p.c.s1 A) from by simp [upd, hs0, hs3, hs5])]; first | rfl | simp [go_sem]) fun F19 => ?_
  refine lyp F19 rfl hC1 rfl (by omega) (wanted_none rfl) (v := Value.int .i64 (p.c.b.hcode p.c.s1 A)) (fun wr hwr => by simp only [execOp, (F19.eval 41 (by omega)).trans (show _ = Value.int .i64 (p.c.b.hcode p.c.s1 A) from by simp [upd, hs0, hs3, hs5])]; first | rfl | simp [go_sem]) fun F20 => ?_
  refine ⟨fun _ => hC1, ?_⟩
  refine hK _ _ ?_
  clear F0 F1 F2 F3 F4 F5 F6 F7 F8 F9 F10 F11 F12 F13 F14 F15 F16 F17 F18 F19 F20 hs0 hs3 hs5
  simp only [Act.put, List.setIfInBounds_toArray, List.set_cons_succ, List.set_cons_zero]
  have HY1 : Hid _ := hY1
  clear hK hC hC1 hY0 hB1 hl1 hc1 hs1 hY1
  go_wp2_with fail
  rename_i K hK
  try rw [show ∀ a : Act, a.put none undef = a from fun _ => rfl]
  refine wp_region_mix (fun wr' => Blk wr' a.pb (pairC a p) 61 ∧ Blk wr' (w.heap.size) (opC 1 A B true) 29) (fun i => i == 14 || i == 20) 20 (by kernel_rfl) rfl (by kernel_rfl) (by kernel_rfl) (by kernel_rfl) ?_
  have hY0 : YSt S L a p ({ p with c := p.c.put true (p.c.b.hnext p.c.s1 A B) (p.c.b.hlnext p.c.s1 A) }) (p.c) (opC 1 A B true) (w.heap.size) w ({ w1 with drawn := w1.drawn + 1 } : World) := HY1.out.below ⟨rfl, rfl, rfl, Nat.le_refl _, fun _ _ => rfl⟩
  generalize ({ w1 with drawn := w1.drawn + 1 } : World) = X at *
  have hC : Blk X a.pb (pairC a p) 61 ∧ Blk X (w.heap.size) (opC 1 A B true) 29 := hY0.cls
  refine withFrP (N := 210) rfl ?_
  intro f0 F0 hff
  have hs0 : f0 0 = Value.pointer (some ⟨a.pb, 0, none⟩) := hff 0
  have hs3 : f0 3 = Value.pointer (some ⟨w.heap.size, 0, none⟩) := hff 3
  have hs5 : f0 5 = Value.int .i64 1 := hff 5
  clear hff
  refine lyp F0 rfl hC rfl (by omega) (wanted_none rfl) (v := Value.pointer (some ⟨a.pb, 0, none⟩)) (fun wr hwr => by simp only [execOp, (F0.eval 0 (by omega)).trans (show _ = Value.pointer (some ⟨a.pb, 0, none⟩) from by simp [upd, hs0, hs3, hs5])]; first | rfl | simp [go_sem]) fun F1 => ?_
  refine lyp F1 rfl hC rfl (by omega) (wanted_none rfl) (v := Value.pointer (some ⟨a.pb, 0, none⟩)) (fun wr hwr => by simp only [execOp, (F1.eval 43 (by omega)).trans (show _ = Value.pointer (some ⟨a.pb, 0, none⟩) from by simp [upd, hs0, hs3, hs5])]; simp [go_sem]) fun F2 => ?_
  refine lyp F2 rfl hC rfl (by omega) (wanted_none rfl) (v := Value.pointer (some ⟨a.pb, 1, none⟩)) (fun wr hwr => by simp only [execOp, (F2.eval 44 (by omega)).trans (show _ = Value.pointer (some ⟨a.pb, 0, none⟩) from by simp [upd, hs0, hs3, hs5])]; simp [go_sem]) fun F3 => ?_
  refine lyp F3 rfl hC rfl (by omega) (wanted_none rfl) (v := Value.pointer (some ⟨a.rb, 0, none⟩)) (fun wr hwr => by simp only [execOp, (F3.eval 45 (by omega)).trans (show _ = Value.pointer (some ⟨a.pb, 1, none⟩) from by simp [upd, hs0, hs3, hs5])]; simp [go_sem, (show wr.cell? ⟨a.pb, 1, none⟩ = some (.pointer (some ⟨a.rb, 0, none⟩)) from hwr.1.cell 1)]) fun F4 => ?_
  refine lyp F4 rfl hC rfl (by omega) (wanted_none rfl) (v := Value.pointer (some ⟨a.pb, 0, none⟩)) (fun wr hwr => by simp only [execOp, (F4.eval 0 (by omega)).trans (show _ = Value.pointer (some ⟨a.pb, 0, none⟩) from by simp [upd, hs0, hs3, hs5])]; first | rfl | simp [go_sem]) fun F5 => ?_
  refine lyp F5 rfl hC rfl (by omega) (wanted_none rfl) (v := Value.int .i64 1) (fun wr hwr => by simp only [execOp, (F5.eval 5 (by omega)).trans (show _ = Value.int .i64 1 from by simp [upd, hs0, hs3, hs5])]; first | rfl | simp [go_sem]) fun F6 => ?_
  refine lyp F6 rfl hC rfl (by omega) (wanted_none rfl) (v := Value.pointer (some ⟨a.pb, 0, none⟩)) (fun wr hwr => by simp only [execOp, (F6.eval 47 (by omega)).trans (show _ = Value.pointer (some ⟨a.pb, 0, none⟩) from by simp [upd, hs0, hs3, hs5])]; simp [go_sem]) fun F7 => ?_
  refine lyp F7 rfl hC rfl (by omega) (wanted_none rfl) (v := Value.pointer (some ⟨a.pb, 4, none⟩)) (fun wr hwr => by simp only [execOp, (F7.eval 49 (by omega)).trans (show _ = Value.pointer (some ⟨a.pb, 0, none⟩) from by simp [upd, hs0, hs3, hs5])]; simp [go_sem]) fun F8 => ?_
  refine lyp F8 rfl hC rfl (by omega) (wanted_none rfl) (v := Value.pointer (some ⟨a.pb, 5, none⟩)) (fun wr hwr => by simp only [execOp, (F8.eval 50 (by omega)).trans (show _ = Value.pointer (some ⟨a.pb, 4, none⟩) from by simp [upd, hs0, hs3, hs5]), (F8.eval 48 (by omega)).trans (show _ = Value.int .i64 1 from by simp [upd, hs0, hs3, hs5])]; simp [go_sem, Act.eval]) fun F9 => ?_
  refine lyp F9 rfl hC rfl (by omega) (wanted_none rfl) (v := Value.pointer (some ⟨a.q1, 0, none⟩)) (fun wr hwr => by simp only [execOp, (F9.eval 51 (by omega)).trans (show _ = Value.pointer (some ⟨a.pb, 5, none⟩) from by simp [upd, hs0, hs3, hs5])]; simp [go_sem, (show wr.cell? ⟨a.pb, 5, none⟩ = some (.pointer (some ⟨a.q1, 0, none⟩)) from hwr.1.cell 5)]) fun F10 => ?_
  refine lyp F10 rfl hC rfl (by omega) (wanted_none rfl) (v := Value.pointer (some ⟨w.heap.size, 1, none⟩)) (fun wr hwr => by simp only [execOp, (F10.eval 3 (by omega)).trans (show _ = Value.pointer (some ⟨w.heap.size, 0, none⟩) from by simp [upd, hs0, hs3, hs5])]; simp [go_sem]) fun F11 => ?_
  refine lyp F11 rfl hC rfl (by omega) (wanted_none rfl) (v := Value.int .i64 A) (fun wr hwr => by simp only [execOp, (F11.eval 53 (by omega)).trans (show _ = Value.pointer (some ⟨w.heap.size, 1, none⟩) from by simp [upd, hs0, hs3, hs5])]; simp [go_sem, (show wr.cell? ⟨w.heap.size, 1, none⟩ = some (Value.int .i64 A) from hwr.2.cell 1)]) fun F12 => ?_
  refine lyp F12 rfl hC rfl (by omega) (wanted_none rfl) (v := Value.pointer (some ⟨w.heap.size, 2, none⟩)) (fun wr hwr => by simp only [execOp, (F12.eval 3 (by omega)).trans (show _ = Value.pointer (some ⟨w.heap.size, 0, none⟩) from by simp [upd, hs0, hs3, hs5])]; simp [go_sem]) fun F13 => ?_
  refine lyp F13 rfl hC rfl (by omega) (wanted_none rfl) (v := Value.int .i64 B) (fun wr hwr => by simp only [execOp, (F13.eval 55 (by omega)).trans (show _ = Value.pointer (some ⟨w.heap.size, 2, none⟩) from by simp [upd, hs0, hs3, hs5])]; simp [go_sem, (show wr.cell? ⟨w.heap.size, 2, none⟩ = some (Value.int .i64 B) from hwr.2.cell 2)]) fun F14 => ?_
  refine lcp F14 rfl hC rfl (by omega) (wanted_none rfl) (g := 43) (args := #[Value.pointer (some ⟨a.rb, 0, none⟩), Value.pointer (some ⟨a.q1, 0, none⟩), Value.int .i64 A, Value.int .i64 B]) (by simp only [execOp, resolve, invoke, List.map_toArray, List.map_cons, List.map_nil, (F14.eval 46 (by omega)).trans (show _ = Value.pointer (some ⟨a.rb, 0, none⟩) from by simp [upd, hs0, hs3, hs5]), (F14.eval 52 (by omega)).trans (show _ = Value.pointer (some ⟨a.q1, 0, none⟩) from by simp [upd, hs0, hs3, hs5]), (F14.eval 54 (by omega)).trans (show _ = Value.int .i64 A from by simp [upd, hs0, hs3, hs5]), (F14.eval 56 (by omega)).trans (show _ = Value.int .i64 B from by simp [upd, hs0, hs3, hs5])]; simp [go_sem, Act.eval]) (rhold_any (qb := a.q1) (s := p.c.s1) X hY0.inv.core.rk HG.out.ok.b hY0.inv.core.q1 HG.out.ok.s1 hY0.inv.core.low hma A B) ?_
  rintro e2 w2 ⟨rfl, hp2⟩
  obtain ⟨v2, hI2, hs2⟩ := hY0.inv.refStep true hp2
  have hY2 := hY0.step hI2 hs2
  have hC2 : Blk w2 a.pb (pairC a p) 61 ∧ Blk w2 w.heap.size (opC 1 A B true) 29 := hY2.cls
  refine ⟨_, rfl, fun F15 => ?_⟩
  refine lyp F15 rfl hC2 rfl (by omega) (wanted_none rfl) (v := Value.tuple #[.int .i64 (p.c.b.hnum p.c.s1 A), .int .i64 (p.c.b.hcode p.c.s1 A)]) (fun wr hwr => by simp only [execOp, (F15.eval 57 (by omega)).trans (show _ = Value.tuple #[.int .i64 (p.c.b.hnum p.c.s1 A), .int .i64 (p.c.b.hcode p.c.s1 A)] from by simp [upd, hs0, hs3, hs5])]; first | rfl | simp [go_sem]) fun F16 => ?_
  refine lyp F16 rfl hC2 rfl (by omega) (wanted_none rfl) (v := Value.int .i64 (p.c.b.hnum p.c.s1 A)) (fun wr hwr => by simp only [execOp, (F16.eval 42 (by omega)).trans (show _ = Value.tuple #[.int .i64 (p.c.b.hnum p.c.s1 A), .int .i64 (p.c.b.hcode p.c.s1 A)] from by simp [upd, hs0, hs3, hs5])]; simp [go_sem]) fun F17 => ?_
  refine lyp F17 rfl hC2 rfl (by omega) (wanted_none rfl) (v := Value.int .i64 (p.c.b.hcode p.c.s1 A)) (fun wr hwr => by simp only [execOp, (F17.eval 42 (by omega)).trans (show _ = Value.tuple #[.int .i64 (p.c.b.hnum p.c.s1 A), .int .i64 (p.c.b.hcode p.c.s1 A)] from by simp [upd, hs0, hs3, hs5])]; simp [go_sem]) fun F18 => ?_
  refine lyp F18 rfl hC2 rfl (by omega) (wanted_none rfl) (v := Value.int .i64 (p.c.b.hnum p.c.s1 A)) (fun wr hwr => by simp only [execOp, (F18.eval 58 (by omega)).trans (show _ = Value.int .i64 (p.c.b.hnum p.c.s1 A) from by simp [upd, hs0, hs3, hs5])]; first | rfl | simp [go_sem]) fun F19 => ?_
  refine lyp F19 rfl hC2 rfl (by omega) (wanted_none rfl) (v := Value.int .i64 (p.c.b.hcode p.c.s1 A)) (fun wr hwr => by simp only [execOp, (F19.eval 59 (by omega)).trans (show _ = Value.int .i64 (p.c.b.hcode p.c.s1 A) from by simp [upd, hs0, hs3, hs5])]; first | rfl | simp [go_sem]) fun F20 => ?_
  refine ⟨fun _ => hC2, ?_⟩
  refine hK _ _ ?_
  clear F0 F1 F2 F3 F4 F5 F6 F7 F8 F9 F10 F11 F12 F13 F14 F15 F16 F17 F18 F19 F20 hs0 hs3 hs5
  simp only [Act.put, List.setIfInBounds_toArray, List.set_cons_succ, List.set_cons_zero]
  have HY2 : Hid _ := hY2
  clear hK hC hC2 hY0 hp2 hI2 hs2 hY2
  have hnm := num_any
  go_wp2_with (first | (go_at_call 16; refine (hnm _ _).mono ?_; rintro e w' ⟨rfl, rfl⟩))
  go_ret
  refine ⟨?_, cpost_of HG.out HY2.out HOK.out HMD.out⟩
  simp
end Go.Proofs.YtkdndfdofhnagaaDoor
