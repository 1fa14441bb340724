import Derived.Test.YtkdndfdofhnagaaDoorJJ
namespace Go.Proofs.YtkdndfdofhnagaaDoor
open Go.RowKit Go.PlainAid
set_option linter.unusedVariables false
set_option linter.unusedSimpArgs false
set_option maxRecDepth 100000 in
set_option maxHeartbeats 3200000 in
theorem ends4f {S : Sens} {L : Nat} {a : PA} {p : PS} {n : Nat} (w : World) (h : PInv S L a p p.c w) (hG : Gd n p) (hn : n ≤ 2000) (A B : Int) (hA : IntKind.i64.wrap A = A) :
    Calls Tryd.prog 44 #[.pointer (some ⟨a.pb, 0, none⟩), .agg #[.int .i64 4, .int .i64 A, .int .i64 B, .bool false], .int .i64 0] w fun r w' => r = .returned (.bool true) ∧ CPost S L a p n (p.c.play 4 A B false) w w' := by
  have hok := CS.play_ok hG.ok 4 A B false
  have hmd := CS.play_made (c := p.c) 4 A B false
  have epl : p.c.play 4 A B false = p.c.put false (p.c.b.enext p.c.s0 (pickI p.c.b.nums A)) (p.c.b.elnext p.c.s0 1 (pickI p.c.b.nums A)) := rfl
  rw [epl] at hok hmd ⊢
  clear epl
  have hma : p.c.b.made ≤ 1000000 := by have := hG.made; omega
  have hgr : Below w.heap.size w (w.alloc (.cells (opC 4 A B false) 29)) := (Below.refl _ _).alloc (Nat.le_refl _) _
  have HY0 : Hid _ := (⟨h.below hgr, heap_alloc_new w _, PStp.ofBelow hgr⟩ : YSt S L a p p p.c (opC 4 A B false) w.heap.size w (w.alloc (.cells (opC 4 A B false) 29)))
  have HW : Hid _ := (show IntKind.i64.wrap (pickI p.c.b.nums A) = (pickI p.c.b.nums A) from nums_bd hG.ok.b (by omega) A)
  have HG : Hid _ := hG
  have HOK : Hid _ := hok
  have HMD : Hid _ := hmd
  clear h hgr hG hok hmd hA
  go_enter Tryd.func44, Tryd.ntmps44
  go_wp2_with fail
  have eW : w.alloc (.cells #[.int .i64 4, .int .i64 A, .int .i64 B, .bool false] 29) = w.alloc (.cells (opC 4 A B false) 29) := rfl
  rw [eW]
  clear eW
  generalize w.alloc (.cells (opC 4 A B false) 29) = W0 at *
  rename_i K hK
  try rw [show ∀ a : Act, a.put none undef = a from fun _ => rfl]
  refine wp_region_mix (fun wr' => Blk wr' a.pb (pairC a p) 61 ∧ Blk wr' (w.heap.size) (opC 4 A B false) 29) (fun i => i == 4 || i == 7 || i == 9) 9 (by kernel_rfl) rfl (by kernel_rfl) (by kernel_rfl) (by kernel_rfl) ?_
  have hY0 : YSt S L a p (p) (p.c) (opC 4 A B false) (w.heap.size) w ({ W0 with drawn := W0.drawn + 1 } : World) := HY0.out.below ⟨rfl, rfl, rfl, Nat.le_refl _, fun _ _ => rfl⟩
  generalize ({ W0 with drawn := W0.drawn + 1 } : World) = X at *
  have hC : Blk X a.pb (pairC a p) 61 ∧ Blk X (w.heap.size) (opC 4 A B false) 29 := hY0.cls
  refine withFrP (N := 107) rfl ?_
  intro f0 F0 hff
  have hs0 : f0 0 = Value.pointer (some ⟨a.pb, 0, none⟩) := hff 0
  have hs2 : f0 2 = Value.int .i64 0 := hff 2
  have hs4 : f0 4 = Value.pointer (some ⟨w.heap.size, 0, none⟩) := hff 4
  clear hff
  refine lyp F0 rfl hC rfl (by omega) (wanted_none rfl) (v := Value.pointer (some ⟨a.pb, 0, none⟩)) (fun wr hwr => by simp only [execOp, (F0.eval 0 (by omega)).trans (show _ = Value.pointer (some ⟨a.pb, 0, none⟩) from by simp [upd, hs0, hs2, hs4])]; first | rfl | simp [go_sem]) fun F1 => ?_
  refine lyp F1 rfl hC rfl (by omega) (wanted_none rfl) (v := Value.pointer (some ⟨a.pb, 0, none⟩)) (fun wr hwr => by simp only [execOp, (F1.eval 22 (by omega)).trans (show _ = Value.pointer (some ⟨a.pb, 0, none⟩) from by simp [upd, hs0, hs2, hs4])]; simp [go_sem]) fun F2 => ?_
  refine lyp F2 rfl hC rfl (by omega) (wanted_none rfl) (v := Value.pointer (some ⟨a.pb, 1, none⟩)) (fun wr hwr => by simp only [execOp, (F2.eval 23 (by omega)).trans (show _ = Value.pointer (some ⟨a.pb, 0, none⟩) from by simp [upd, hs0, hs2, hs4])]; simp [go_sem]) fun F3 => ?_
  refine lyp F3 rfl hC rfl (by omega) (wanted_none rfl) (v := Value.pointer (some ⟨a.rb, 0, none⟩)) (fun wr hwr => by simp only [execOp, (F3.eval 24 (by omega)).trans (show _ = Value.pointer (some ⟨a.pb, 1, none⟩) from by simp [upd, hs0, hs2, hs4])]; simp [go_sem, (show wr.cell? ⟨a.pb, 1, none⟩ = some (.pointer (some ⟨a.rb, 0, none⟩)) from hwr.1.cell 1)]) fun F4 => ?_
  refine lcp F4 rfl hC rfl (by omega) (wanted_none rfl) (g := 48) (args := #[Value.pointer (some ⟨a.rb, 0, none⟩)]) (by simp only [execOp, resolve, invoke, List.map_toArray, List.map_cons, List.map_nil, (F4.eval 25 (by omega)).trans (show _ = Value.pointer (some ⟨a.rb, 0, none⟩) from by simp [upd, hs0, hs2, hs4])]; simp [go_sem, Act.eval]) (rnumbers_any X hY0.inv.core.rk HG.out.ok.b) ?_
  rintro e1 w1 ⟨u, rfl, ho1, hb1⟩
  have hY1 := hY0.below hb1
  have hC1 : Blk w1 a.pb (pairC a p) 61 ∧ Blk w1 w.heap.size (opC 4 A B false) 29 := hY1.cls
  refine ⟨_, rfl, fun F5 => ?_⟩
  refine lyp F5 rfl hC1 rfl (by omega) (wanted_none rfl) (v := Value.pointer (some ⟨w.heap.size, 1, none⟩)) (fun wr hwr => by simp only [execOp, (F5.eval 4 (by omega)).trans (show _ = Value.pointer (some ⟨w.heap.size, 0, none⟩) from by simp [upd, hs0, hs2, hs4])]; simp [go_sem]) fun F6 => ?_
  refine lyp F6 rfl hC1 rfl (by omega) (wanted_none rfl) (v := Value.int .i64 A) (fun wr hwr => by simp only [execOp, (F6.eval 27 (by omega)).trans (show _ = Value.pointer (some ⟨w.heap.size, 1, none⟩) from by simp [upd, hs0, hs2, hs4])]; simp [go_sem, (show wr.cell? ⟨w.heap.size, 1, none⟩ = some (Value.int .i64 A) from hwr.2.cell 1)]) fun F7 => ?_
  refine lcp F7 rfl hC1 rfl (by omega) (wanted_none rfl) (g := 59) (args := #[u, Value.int .i64 A]) (by simp only [execOp, resolve, invoke, List.map_toArray, List.map_cons, List.map_nil, (F7.eval 26 (by omega)).trans (show _ = u from by simp [upd, hs0, hs2, hs4]), (F7.eval 28 (by omega)).trans (show _ = Value.int .i64 A from by simp [upd, hs0, hs2, hs4])]; simp [go_sem, Act.eval]) (pick_any w1 ho1 (by have h6 := HG.out.ok.b.len; have h7 := HG.out.ok.b.r1; omega) A) ?_
  rintro e2 w2 ⟨rfl, hw2⟩
  subst hw2
  refine ⟨_, rfl, fun F8 => ?_⟩
  refine lyp F8 rfl hC1 rfl (by omega) (wanted_none rfl) (v := Value.int .i64 (pickI p.c.b.nums A)) (fun wr hwr => by simp only [execOp, (F8.eval 29 (by omega)).trans (show _ = Value.int .i64 (pickI p.c.b.nums A) from by simp [upd, hs0, hs2, hs4])]; first | rfl | simp [go_sem]) fun F9 => ?_
  refine ⟨fun _ => hC1, ?_⟩
  refine hK _ _ ?_
  clear F0 F1 F2 F3 F4 F5 F6 F7 F8 F9 hs0 hs2 hs4
  simp only [Act.put, List.setIfInBounds_toArray, List.set_cons_succ, List.set_cons_zero]
  have HY1 : Hid _ := hY1
  clear hK hC hC1 hY0 ho1 hb1 hY1
  have kd : w2.cell? ⟨w.heap.size, 0, none⟩ = some (.int .i64 4) := HY1.out.op.cell 0
  go_wp2_with fail
  rename_i K hK
  try rw [show ∀ a : Act, a.put none undef = a from fun _ => rfl]
  refine wp_region_mix (fun wr' => Blk wr' a.pb (pairC a p) 61 ∧ Blk wr' (w.heap.size) (opC 4 A B false) 29) (fun i => i == 11 || i == 17) 17 (by kernel_rfl) rfl (by kernel_rfl) (by kernel_rfl) (by kernel_rfl) ?_
  have hY0 : YSt S L a p (p) (p.c) (opC 4 A B false) (w.heap.size) w ({ w2 with drawn := w2.drawn + 1 } : World) := HY1.out.below ⟨rfl, rfl, rfl, Nat.le_refl _, fun _ _ => rfl⟩
  generalize ({ w2 with drawn := w2.drawn + 1 } : World) = X at *
  have hC : Blk X a.pb (pairC a p) 61 ∧ Blk X (w.heap.size) (opC 4 A B false) 29 := hY0.cls
  refine withFrP (N := 107) rfl ?_
  intro f0 F0 hff
  have hs0 : f0 0 = Value.pointer (some ⟨a.pb, 0, none⟩) := hff 0
  have hs2 : f0 2 = Value.int .i64 0 := hff 2
  have hs4 : f0 4 = Value.pointer (some ⟨w.heap.size, 0, none⟩) := hff 4
  have hs7 : f0 7 = Value.int .i64 (pickI p.c.b.nums A) := hff 7
  clear hff
  refine lyp F0 rfl hC rfl (by omega) (wanted_none rfl) (v := Value.pointer (some ⟨a.pb, 0, none⟩)) (fun wr hwr => by simp only [execOp, (F0.eval 0 (by omega)).trans (show _ = Value.pointer (some ⟨a.pb, 0, none⟩) from by simp [upd, hs0, hs2, hs4, hs7])]; first | rfl | simp [go_sem]) fun F1 => ?_
  refine lyp F1 rfl hC rfl (by omega) (wanted_none rfl) (v := Value.pointer (some ⟨a.pb, 0, none⟩)) (fun wr hwr => by simp only [execOp, (F1.eval 39 (by omega)).trans (show _ = Value.pointer (some ⟨a.pb, 0, none⟩) from by simp [upd, hs0, hs2, hs4, hs7])]; simp [go_sem]) fun F2 => ?_
  refine lyp F2 rfl hC rfl (by omega) (wanted_none rfl) (v := Value.pointer (some ⟨a.pb, 0, none⟩)) (fun wr hwr => by simp only [execOp, (F2.eval 40 (by omega)).trans (show _ = Value.pointer (some ⟨a.pb, 0, none⟩) from by simp [upd, hs0, hs2, hs4, hs7])]; simp [go_sem]) fun F3 => ?_
  refine lyp F3 rfl hC rfl (by omega) (wanted_none rfl) (v := Value.pointer (some ⟨a.hb, 0, none⟩)) (fun wr hwr => by simp only [execOp, (F3.eval 41 (by omega)).trans (show _ = Value.pointer (some ⟨a.pb, 0, none⟩) from by simp [upd, hs0, hs2, hs4, hs7])]; simp [go_sem, (show wr.cell? ⟨a.pb, 0, none⟩ = some (.pointer (some ⟨a.hb, 0, none⟩)) from hwr.1.cell 0)]) fun F4 => ?_
  refine lyp F4 rfl hC rfl (by omega) (wanted_none rfl) (v := Value.pointer (some ⟨a.pb, 0, none⟩)) (fun wr hwr => by simp only [execOp, (F4.eval 0 (by omega)).trans (show _ = Value.pointer (some ⟨a.pb, 0, none⟩) from by simp [upd, hs0, hs2, hs4, hs7])]; first | rfl | simp [go_sem]) fun F5 => ?_
  refine lyp F5 rfl hC rfl (by omega) (wanted_none rfl) (v := Value.int .i64 0) (fun wr hwr => by simp only [execOp, (F5.eval 2 (by omega)).trans (show _ = Value.int .i64 0 from by simp [upd, hs0, hs2, hs4, hs7])]; first | rfl | simp [go_sem]) fun F6 => ?_
  refine lyp F6 rfl hC rfl (by omega) (wanted_none rfl) (v := Value.pointer (some ⟨a.pb, 0, none⟩)) (fun wr hwr => by simp only [execOp, (F6.eval 43 (by omega)).trans (show _ = Value.pointer (some ⟨a.pb, 0, none⟩) from by simp [upd, hs0, hs2, hs4, hs7])]; simp [go_sem]) fun F7 => ?_
  refine lyp F7 rfl hC rfl (by omega) (wanted_none rfl) (v := Value.pointer (some ⟨a.pb, 2, none⟩)) (fun wr hwr => by simp only [execOp, (F7.eval 45 (by omega)).trans (show _ = Value.pointer (some ⟨a.pb, 0, none⟩) from by simp [upd, hs0, hs2, hs4, hs7])]; simp [go_sem]) fun F8 => ?_
  refine lyp F8 rfl hC rfl (by omega) (wanted_none rfl) (v := Value.pointer (some ⟨a.pb, 2, none⟩)) (fun wr hwr => by simp only [execOp, (F8.eval 46 (by omega)).trans (show _ = Value.pointer (some ⟨a.pb, 2, none⟩) from by simp [upd, hs0, hs2, hs4, hs7]), (F8.eval 44 (by omega)).trans (show _ = Value.int .i64 0 from by simp [upd, hs0, hs2, hs4, hs7])]; simp [go_sem, Act.eval]) fun F9 => ?_
  refine lyp F9 rfl hC rfl (by omega) (wanted_none rfl) (v := Value.pointer (some ⟨a.l0, 0, none⟩)) (fun wr hwr => by simp only [execOp, (F9.eval 47 (by omega)).trans (show _ = Value.pointer (some ⟨a.pb, 2, none⟩) from by simp [upd, hs0, hs2, hs4, hs7])]; simp [go_sem, (show wr.cell? ⟨a.pb, 2, none⟩ = some (.pointer (some ⟨a.l0, 0, none⟩)) from hwr.1.cell 2)]) fun F10 => ?_
  refine lyp F10 rfl hC rfl (by omega) (wanted_none rfl) (v := Value.int .i64 (pickI p.c.b.nums A)) (fun wr hwr => by simp only [execOp, (F10.eval 7 (by omega)).trans (show _ = Value.int .i64 (pickI p.c.b.nums A) from by simp [upd, hs0, hs2, hs4, hs7])]; first | rfl | simp [go_sem]) fun F11 => ?_
  refine lcp F11 rfl hC rfl (by omega) (wanted_none rfl) (g := 21) (args := #[Value.pointer (some ⟨a.hb, 0, none⟩), Value.pointer (some ⟨a.l0, 0, none⟩), Value.int .i64 (pickI p.c.b.nums A)]) (by simp only [execOp, resolve, invoke, List.map_toArray, List.map_cons, List.map_nil, (F11.eval 42 (by omega)).trans (show _ = Value.pointer (some ⟨a.hb, 0, none⟩) from by simp [upd, hs0, hs2, hs4, hs7]), (F11.eval 48 (by omega)).trans (show _ = Value.pointer (some ⟨a.l0, 0, none⟩) from by simp [upd, hs0, hs2, hs4, hs7]), (F11.eval 49 (by omega)).trans (show _ = Value.int .i64 (pickI p.c.b.nums A) from by simp [upd, hs0, hs2, hs4, hs7])]; simp [go_sem, Act.eval]) (commit_any (lb := a.l0) (s := p.c.s0) X hY0.inv.core.sen hY0.inv.core.bk hY0.inv.core.l0 HG.out.ok.s0 (hY0.inv.core.lol false) (pickI p.c.b.nums A) HW.out) ?_
  rintro e3 w3 ⟨rfl, hB1, hl1, hc1⟩
  have hs1 := hY0.inv.codeStep false (hc1.mono (fun j _ e => e.elim (fun e => Or.inr (Or.inl e)) (fun e => Or.inr (Or.inr e)))) hB1 hl1
  have hY3 := hY0.step hs1.1 hs1.2
  have hC3 : Blk w3 a.pb (pairC a p) 61 ∧ Blk w3 w.heap.size (opC 4 A B false) 29 := hY3.cls
  refine ⟨_, rfl, fun F12 => ?_⟩
  refine lyp F12 rfl hC3 rfl (by omega) (wanted_none rfl) (v := Value.tuple #[.int .i64 (p.c.b.eamt p.c.s0 (pickI p.c.b.nums A)), .int .i64 (p.c.b.ecode p.c.s0 (pickI p.c.b.nums A))]) (fun wr hwr => by simp only [execOp, (F12.eval 50 (by omega)).trans (show _ = Value.tuple #[.int .i64 (p.c.b.eamt p.c.s0 (pickI p.c.b.nums A)), .int .i64 (p.c.b.ecode p.c.s0 (pickI p.c.b.nums A))] from by simp [upd, hs0, hs2, hs4, hs7])]; first | rfl | simp [go_sem]) fun F13 => ?_
  refine lyp F13 rfl hC3 rfl (by omega) (wanted_none rfl) (v := Value.int .i64 (p.c.b.eamt p.c.s0 (pickI p.c.b.nums A))) (fun wr hwr => by simp only [execOp, (F13.eval 38 (by omega)).trans (show _ = Value.tuple #[.int .i64 (p.c.b.eamt p.c.s0 (pickI p.c.b.nums A)), .int .i64 (p.c.b.ecode p.c.s0 (pickI p.c.b.nums A))] from by simp [upd, hs0, hs2, hs4, hs7])]; simp [go_sem]) fun F14 => ?_
  refine lyp F14 rfl hC3 rfl (by omega) (wanted_none rfl) (v := Value.int .i64 (p.c.b.ecode p.c.s0 (pickI p.c.b.nums A))) (fun wr hwr => by simp only [execOp, (F14.eval 38 (by omega)).trans (show _ = Value.tuple #[.int .i64 (p.c.b.eamt p.c.s0 (pickI p.c.b.nums A)), .int .i64 (p.c.b.ecode p.c.s0 (pickI p.c.b.nums A))] from by simp [upd, hs0, hs2, hs4, hs7])]; simp [go_sem]) fun F15 => ?_
  refine lyp F15 rfl hC3 rfl (by omega) (wanted_none rfl) (v := Value.int .i64 (p.c.b.eamt p.c.s0 (pickI p.c.b.nums A))) (fun wr hwr => by simp only [execOp, (F15.eval 51 (by omega)).trans (show _ = Value.int .i64 (p.c.b.eamt p.c.s0 (pickI p.c.b.nums A)) from by simp [upd, hs0, hs2, hs4, hs7])]; first | rfl | simp [go_sem]) fun F16 => ?_
  refine lyp F16 rfl hC3 rfl (by omega) (wanted_none rfl) (v := Value.int .i64 (p.c.b.ecode p.c.s0 (pickI p.c.b.nums A))) (fun wr hwr => by simp only [execOp, (F16.eval 52 (by omega)).trans (show _ = Value.int .i64 (p.c.b.ecode p.c.s0 (pickI p.c.b.nums A)) from by simp [upd, hs0, hs2, hs4, hs7])]; first | rfl | simp [go_sem]) fun F17 => ?_
  refine ⟨fun _ => hC3, ?_⟩
  refine hK _ _ ?_
  clear F0 F1 F2 F3 F4 F5 F6 F7 F8 F9 F10 F11 F12 F13 F14 F15 F16 F17 hs0 hs2 hs4 hs7
  simp only [Act.put, List.setIfInBounds_toArray, List.set_cons_succ, List.set_cons_zero]
  have HY3 : Hid _ := hY3
  clear hK hC hC3 hY0 hB1 hl1 hc1 hs1 hY3
  go_wp2_with fail
  rename_i K hK
  try rw [show ∀ a : Act, a.put none undef = a from fun _ => rfl]
  refine wp_region_mix (fun wr' => Blk wr' a.pb (pairC a p) 61 ∧ Blk wr' (w.heap.size) (opC 4 A B false) 29) (fun i => i == 11 || i == 17) 17 (by kernel_rfl) rfl (by kernel_rfl) (by kernel_rfl) (by kernel_rfl) ?_
  have hY0 : YSt S L a p ({ p with c := p.c.put false (p.c.b.enext p.c.s0 (pickI p.c.b.nums A)) (p.c.b.elnext p.c.s0 1 (pickI p.c.b.nums A)) }) (p.c) (opC 4 A B false) (w.heap.size) w ({ w3 with drawn := w3.drawn + 1 } : World) := HY3.out.below ⟨rfl, rfl, rfl, Nat.le_refl _, fun _ _ => rfl⟩
  generalize ({ w3 with drawn := w3.drawn + 1 } : World) = X at *
  have hC : Blk X a.pb (pairC a p) 61 ∧ Blk X (w.heap.size) (opC 4 A B false) 29 := hY0.cls
  refine withFrP (N := 107) rfl ?_
  intro f0 F0 hff
  have hs0 : f0 0 = Value.pointer (some ⟨a.pb, 0, none⟩) := hff 0
  have hs2 : f0 2 = Value.int .i64 0 := hff 2
  have hs4 : f0 4 = Value.pointer (some ⟨w.heap.size, 0, none⟩) := hff 4
  have hs7 : f0 7 = Value.int .i64 (pickI p.c.b.nums A) := hff 7
  clear hff
  refine lyp F0 rfl hC rfl (by omega) (wanted_none rfl) (v := Value.pointer (some ⟨a.pb, 0, none⟩)) (fun wr hwr => by simp only [execOp, (F0.eval 0 (by omega)).trans (show _ = Value.pointer (some ⟨a.pb, 0, none⟩) from by simp [upd, hs0, hs2, hs4, hs7])]; first | rfl | simp [go_sem]) fun F1 => ?_
  refine lyp F1 rfl hC rfl (by omega) (wanted_none rfl) (v := Value.pointer (some ⟨a.pb, 0, none⟩)) (fun wr hwr => by simp only [execOp, (F1.eval 54 (by omega)).trans (show _ = Value.pointer (some ⟨a.pb, 0, none⟩) from by simp [upd, hs0, hs2, hs4, hs7])]; simp [go_sem]) fun F2 => ?_
  refine lyp F2 rfl hC rfl (by omega) (wanted_none rfl) (v := Value.pointer (some ⟨a.pb, 1, none⟩)) (fun wr hwr => by simp only [execOp, (F2.eval 55 (by omega)).trans (show _ = Value.pointer (some ⟨a.pb, 0, none⟩) from by simp [upd, hs0, hs2, hs4, hs7])]; simp [go_sem]) fun F3 => ?_
  refine lyp F3 rfl hC rfl (by omega) (wanted_none rfl) (v := Value.pointer (some ⟨a.rb, 0, none⟩)) (fun wr hwr => by simp only [execOp, (F3.eval 56 (by omega)).trans (show _ = Value.pointer (some ⟨a.pb, 1, none⟩) from by simp [upd, hs0, hs2, hs4, hs7])]; simp [go_sem, (show wr.cell? ⟨a.pb, 1, none⟩ = some (.pointer (some ⟨a.rb, 0, none⟩)) from hwr.1.cell 1)]) fun F4 => ?_
  refine lyp F4 rfl hC rfl (by omega) (wanted_none rfl) (v := Value.pointer (some ⟨a.pb, 0, none⟩)) (fun wr hwr => by simp only [execOp, (F4.eval 0 (by omega)).trans (show _ = Value.pointer (some ⟨a.pb, 0, none⟩) from by simp [upd, hs0, hs2, hs4, hs7])]; first | rfl | simp [go_sem]) fun F5 => ?_
  refine lyp F5 rfl hC rfl (by omega) (wanted_none rfl) (v := Value.int .i64 0) (fun wr hwr => by simp only [execOp, (F5.eval 2 (by omega)).trans (show _ = Value.int .i64 0 from by simp [upd, hs0, hs2, hs4, hs7])]; first | rfl | simp [go_sem]) fun F6 => ?_
  refine lyp F6 rfl hC rfl (by omega) (wanted_none rfl) (v := Value.pointer (some ⟨a.pb, 0, none⟩)) (fun wr hwr => by simp only [execOp, (F6.eval 58 (by omega)).trans (show _ = Value.pointer (some ⟨a.pb, 0, none⟩) from by simp [upd, hs0, hs2, hs4, hs7])]; simp [go_sem]) fun F7 => ?_
  refine lyp F7 rfl hC rfl (by omega) (wanted_none rfl) (v := Value.pointer (some ⟨a.pb, 4, none⟩)) (fun wr hwr => by simp only [execOp, (F7.eval 60 (by omega)).trans (show _ = Value.pointer (some ⟨a.pb, 0, none⟩) from by simp [upd, hs0, hs2, hs4, hs7])]; simp [go_sem]) fun F8 => ?_
  refine lyp F8 rfl hC rfl (by omega) (wanted_none rfl) (v := Value.pointer (some ⟨a.pb, 4, none⟩)) (fun wr hwr => by simp only [execOp, (F8.eval 61 (by omega)).trans (show _ = Value.pointer (some ⟨a.pb, 4, none⟩) from by simp [upd, hs0, hs2, hs4, hs7]), (F8.eval 59 (by omega)).trans (show _ = Value.int .i64 0 from by simp [upd, hs0, hs2, hs4, hs7])]; simp [go_sem, Act.eval]) fun F9 => ?_
  refine lyp F9 rfl hC rfl (by omega) (wanted_none rfl) (v := Value.pointer (some ⟨a.q0, 0, none⟩)) (fun wr hwr => by simp only [execOp, (F9.eval 62 (by omega)).trans (show _ = Value.pointer (some ⟨a.pb, 4, none⟩) from by simp [upd, hs0, hs2, hs4, hs7])]; simp [go_sem, (show wr.cell? ⟨a.pb, 4, none⟩ = some (.pointer (some ⟨a.q0, 0, none⟩)) from hwr.1.cell 4)]) fun F10 => ?_
  refine lyp F10 rfl hC rfl (by omega) (wanted_none rfl) (v := Value.int .i64 (pickI p.c.b.nums A)) (fun wr hwr => by simp only [execOp, (F10.eval 7 (by omega)).trans (show _ = Value.int .i64 (pickI p.c.b.nums A) from by simp [upd, hs0, hs2, hs4, hs7])]; first | rfl | simp [go_sem]) fun F11 => ?_
  refine lcp F11 rfl hC rfl (by omega) (wanted_none rfl) (g := 60) (args := #[Value.pointer (some ⟨a.rb, 0, none⟩), Value.pointer (some ⟨a.q0, 0, none⟩), Value.int .i64 (pickI p.c.b.nums A)]) (by simp only [execOp, resolve, invoke, List.map_toArray, List.map_cons, List.map_nil, (F11.eval 57 (by omega)).trans (show _ = Value.pointer (some ⟨a.rb, 0, none⟩) from by simp [upd, hs0, hs2, hs4, hs7]), (F11.eval 63 (by omega)).trans (show _ = Value.pointer (some ⟨a.q0, 0, none⟩) from by simp [upd, hs0, hs2, hs4, hs7]), (F11.eval 64 (by omega)).trans (show _ = Value.int .i64 (pickI p.c.b.nums A) from by simp [upd, hs0, hs2, hs4, hs7])]; simp [go_sem, Act.eval]) (rcommit_any (qb := a.q0) (s := p.c.s0) X hY0.inv.core.rk HG.out.ok.b hY0.inv.core.q0 HG.out.ok.s0 hY0.inv.core.low (pickI p.c.b.nums A)) ?_
  rintro e4 w4 ⟨rfl, hp4⟩
  obtain ⟨v4, hI4, hs4⟩ := hY0.inv.refStep false hp4
  have hY4 := hY0.step hI4 hs4
  have hC4 : Blk w4 a.pb (pairC a p) 61 ∧ Blk w4 w.heap.size (opC 4 A B false) 29 := hY4.cls
  refine ⟨_, rfl, fun F12 => ?_⟩
  refine lyp F12 rfl hC4 rfl (by omega) (wanted_none rfl) (v := Value.tuple #[.int .i64 (p.c.b.eamt p.c.s0 (pickI p.c.b.nums A)), .int .i64 (p.c.b.ecode p.c.s0 (pickI p.c.b.nums A))]) (fun wr hwr => by simp only [execOp, (F12.eval 65 (by omega)).trans (show _ = Value.tuple #[.int .i64 (p.c.b.eamt p.c.s0 (pickI p.c.b.nums A)), .int .i64 (p.c.b.ecode p.c.s0 (pickI p.c.b.nums A))] from by simp [upd, hs0, hs2, hs4, hs7])]; first | rfl | simp [go_sem]) fun F13 => ?_
  refine lyp F13 rfl hC4 rfl (by omega) (wanted_none rfl) (v := Value.int .i64 (p.c.b.eamt p.c.s0 (pickI p.c.b.nums A))) (fun wr hwr => by simp only [execOp, (F13.eval 53 (by omega)).trans (show _ = Value.tuple #[.int .i64 (p.c.b.eamt p.c.s0 (pickI p.c.b.nums A)), .int .i64 (p.c.b.ecode p.c.s0 (pickI p.c.b.nums A))] from by simp [upd, hs0, hs2, hs4, hs7])]; simp [go_sem]) fun F14 => ?_
  refine lyp F14 rfl hC4 rfl (by omega) (wanted_none rfl) (v := Value.int .i64 (p.c.b.ecode p.c.s0 (pickI p.c.b.nums A))) (fun wr hwr => by simp only [execOp, (F14.eval 53 (by omega)).trans (show _ = Value.tuple #[.int .i64 (p.c.b.eamt p.c.s0 (pickI p.c.b.nums A)), .int .i64 (p.c.b.ecode p.c.s0 (pickI p.c.b.nums A))] from by simp [upd, hs0, hs2, hs4, hs7])]; simp [go_sem]) fun F15 => ?_
  refine lyp F15 rfl hC4 rfl (by omega) (wanted_none rfl) (v := Value.int .i64 (p.c.b.eamt p.c.s0 (pickI p.c.b.nums A))) (fun wr hwr => by simp only [execOp, (F15.eval 66 (by omega)).trans (show _ = Value.int .i64 (p.c.b.eamt p.c.s0 (pickI p.c.b.nums A)) from by simp [upd, hs0, hs2, hs4, hs7])]; first | rfl | simp [go_sem]) fun F16 => ?_
  refine lyp F16 rfl hC4 rfl (by omega) (wanted_none rfl) (v := Value.int .i64 (p.c.b.ecode p.c.s0 (pickI p.c.b.nums A))) (fun wr hwr => by simp only [execOp, (F16.eval 67 (by omega)).trans (show _ = Value.int .i64 (p.c.b.ecode p.c.s0 (pickI p.c.b.nums A)) from by simp [upd, hs0, hs2, hs4, hs7])]; first | rfl | simp [go_sem]) fun F17 => ?_
  refine ⟨fun _ => hC4, ?_⟩
  refine hK _ _ ?_
  clear F0 F1 F2 F3 F4 F5 F6 F7 F8 F9 F10 F11 F12 F13 F14 F15 F16 F17 hs0 hs2 hs4 hs7
  simp only [Act.put, List.setIfInBounds_toArray, List.set_cons_succ, List.set_cons_zero]
  have HY4 : Hid _ := hY4
  clear hK hC hC4 hY0 hp4 hI4 hs4 hY4
  have hnm := num_any
  go_wp2_with (first | (go_at_call 16; refine (hnm _ _).mono ?_; rintro e w' ⟨rfl, rfl⟩))
  go_ret
  refine ⟨?_, cpost_of HG.out HY4.out HOK.out HMD.out⟩
  simp
set_option maxRecDepth 100000 in
set_option maxHeartbeats 3200000 in
theorem ends4t {S : Sens} {L : Nat} {a : PA} {p : PS} {n : Nat} (w : World) (h : PInv S L a p p.c w) (hG : Gd n p) (hn : n ≤ 2000) (A B : Int) (hA : IntKind.i64.wrap A = A) :
    Calls Tryd.prog 44 #[.pointer (some ⟨a.pb, 0, none⟩), .agg #[.int .i64 4, .int .i64 A, .int .i64 B, .bool true], .int .i64 1] w fun r w' => r = .returned (.bool true) ∧ CPost S L a p n (p.c.play 4 A B true) w w' := by
  have hok := CS.play_ok hG.ok 4 A B true
  have hmd := CS.play_made (c := p.c) 4 A B true
  have epl : p.c.play 4 A B true = p.c.put true (p.c.b.enext p.c.s1 (pickI p.c.b.nums A)) (p.c.b.elnext p.c.s1 1 (pickI p.c.b.nums A)) := rfl
  rw [epl] at hok hmd ⊢
  clear epl
  have hma : p.c.b.made ≤ 1000000 := by have := hG.made; omega
  have hgr : Below w.heap.size w (w.alloc (.cells (opC 4 A B true) 29)) := (Below.refl _ _).alloc (Nat.le_refl _) _
  have HY0 : Hid _ := (⟨h.below hgr, heap_alloc_new w _, PStp.ofBelow hgr⟩ : YSt S L a p p p.c (opC 4 A B true) w.heap.size w (w.alloc (.cells (opC 4 A B true) 29)))
  have HW : Hid _ := (show IntKind.i64.wrap (pickI p.c.b.nums A) = (pickI p.c.b.nums A) from nums_bd hG.ok.b (by omega) A)
  have HG : Hid _ := hG
  have HOK : Hid _ := hok
  have HMD : Hid _ := hmd
  clear h hgr hG hok hmd hA
  go_enter Tryd.func44, Tryd.ntmps44
  go_wp2_with fail
  have eW : w.alloc (.cells #[.int .i64 4, .int .i64 A, .int .i64 B, .bool true] 29) = w.alloc (.cells (opC 4 A B true) 29) := rfl
  rw [eW]
  clear eW
  generalize w.alloc (.cells (opC 4 A B true) 29) = W0 at *
  rename_i K hK
  try rw [show ∀ a : Act, a.put none undef = a from fun _ => rfl]
  refine wp_region_mix (fun wr' => Blk wr' a.pb (pairC a p) 61 ∧ Blk wr' (w.heap.size) (opC 4 A B true) 29) (fun i => i == 4 || i == 7 || i == 9) 9 (by kernel_rfl) rfl (by kernel_rfl) (by kernel_rfl) (by kernel_rfl) ?_
  have hY0 : YSt S L a p (p) (p.c) (opC 4 A B true) (w.heap.size) w ({ W0 with drawn := W0.drawn + 1 } : World) := HY0.out.below ⟨rfl, rfl, rfl, Nat.le_refl _, fun _ _ => rfl⟩
  generalize ({ W0 with drawn := W0.drawn + 1 } : World) = X at *
  have hC : Blk X a.pb (pairC a p) 61 ∧ Blk X (w.heap.size) (opC 4 A B true) 29 := hY0.cls
  refine withFrP (N := 107) rfl ?_
  intro f0 F0 hff
  have hs0 : f0 0 = Value.pointer (some ⟨a.pb, 0, none⟩) := hff 0
  have hs2 : f0 2 = Value.int .i64 1 := hff 2
  have hs4 : f0 4 = Value.pointer (some ⟨w.heap.size, 0, none⟩) := hff 4
  clear hff
  refine lyp F0 rfl hC rfl (by omega) (wanted_none rfl) (v := Value.pointer (some ⟨a.pb, 0, none⟩)) (fun wr hwr => by simp only [execOp, (F0.eval 0 (by omega)).trans (show _ = Value.pointer (some ⟨a.pb, 0, none⟩) from by simp [upd, hs0, hs2, hs4])]; first | rfl | simp [go_sem]) fun F1 => ?_
  refine lyp F1 rfl hC rfl (by omega) (wanted_none rfl) (v := Value.pointer (some ⟨a.pb, 0, none⟩)) (fun wr hwr => by simp only [execOp, (F1.eval 22 (by omega)).trans (show _ = Value.pointer (some ⟨a.pb, 0, none⟩) from by simp [upd, hs0, hs2, hs4])]; simp [go_sem]) fun F2 => ?_
  refine lyp F2 rfl hC rfl (by omega) (wanted_none rfl) (v := Value.pointer (some ⟨a.pb, 1, none⟩)) (fun wr hwr => by simp only [execOp, (F2.eval 23 (by omega)).trans (show _ = Value.pointer (some ⟨a.pb, 0, none⟩) from by simp [upd, hs0, hs2, hs4])]; simp [go_sem]) fun F3 => ?_
  refine lyp F3 rfl hC rfl (by omega) (wanted_none rfl) (v := Value.pointer (some ⟨a.rb, 0, none⟩)) (fun wr hwr => by simp only [execOp, (F3.eval 24 (by omega)).trans (show _ = Value.pointer (some ⟨a.pb, 1, none⟩) from by simp [upd, hs0, hs2, hs4])]; simp [go_sem, (show wr.cell? ⟨a.pb, 1, none⟩ = some (.pointer (some ⟨a.rb, 0, none⟩)) from hwr.1.cell 1)]) fun F4 => ?_
  refine lcp F4 rfl hC rfl (by omega) (wanted_none rfl) (g := 48) (args := #[Value.pointer (some ⟨a.rb, 0, none⟩)]) (by simp only [execOp, resolve, invoke, List.map_toArray, List.map_cons, List.map_nil, (F4.eval 25 (by omega)).trans (show _ = Value.pointer (some ⟨a.rb, 0, none⟩) from by simp [upd, hs0, hs2, hs4])]; simp [go_sem, Act.eval]) (rnumbers_any X hY0.inv.core.rk HG.out.ok.b) ?_
  rintro e1 w1 ⟨u, rfl, ho1, hb1⟩
  have hY1 := hY0.below hb1
  have hC1 : Blk w1 a.pb (pairC a p) 61 ∧ Blk w1 w.heap.size (opC 4 A B true) 29 := hY1.cls
  refine ⟨_, rfl, fun F5 => ?_⟩
  refine lyp F5 rfl hC1 rfl (by omega) (wanted_none rfl) (v := Value.pointer (some ⟨w.heap.size, 1, none⟩)) (fun wr hwr => by simp only [execOp, (F5.eval 4 (by omega)).trans (show _ = Value.pointer (some ⟨w.heap.size, 0, none⟩) from by simp [upd, hs0, hs2, hs4])]; simp [go_sem]) fun F6 => ?_
  refine lyp F6 rfl hC1 rfl (by omega) (wanted_none rfl) (v := Value.int .i64 A) (fun wr hwr => by simp only [execOp, (F6.eval 27 (by omega)).trans (show _ = Value.pointer (some ⟨w.heap.size, 1, none⟩) from by simp [upd, hs0, hs2, hs4])]; simp [go_sem, (show wr.cell? ⟨w.heap.size, 1, none⟩ = some (Value.int .i64 A) from hwr.2.cell 1)]) fun F7 => ?_
  refine lcp F7 rfl hC1 rfl (by omega) (wanted_none rfl) (g := 59) (args := #[u, Value.int .i64 A]) (by simp only [execOp, resolve, invoke, List.map_toArray, List.map_cons, List.map_nil, (F7.eval 26 (by omega)).trans (show _ = u from by simp [upd, hs0, hs2, hs4]), (F7.eval 28 (by omega)).trans (show _ = Value.int .i64 A from by simp [upd, hs0, hs2, hs4])]; simp [go_sem, Act.eval]) (pick_any w1 ho1 (by have h6 := HG.out.ok.b.len; have h7 := HG.out.ok.b.r1; omega) A) ?_
  rintro e2 w2 ⟨rfl, hw2⟩
  subst hw2
  refine ⟨_, rfl, fun F8 => ?_⟩
  refine lyp F8 rfl hC1 rfl (by omega) (wanted_none rfl) (v := Value.int .i64 (pickI p.c.b.nums A)) (fun wr hwr => by simp only [execOp, (F8.eval 29 (by omega)).trans (show _ = Value.int .i64 (pickI p.c.b.nums A) from by simp [upd, hs0, hs2, hs4])]; first | rfl | simp [go_sem]) fun F9 => ?_
  refine ⟨fun _ => hC1, ?_⟩
  refine hK _ _ ?_
  clear F0 F1 F2 F3 F4 F5 F6 F7 F8 F9 hs0 hs2 hs4
  simp only [Act.put, List.setIfInBounds_toArray, List.set_cons_succ, List.set_cons_zero]
  have HY1 : Hid _ := hY1
  clear hK hC hC1 hY0 ho1 hb1 hY1
  have kd : w2.cell? ⟨w.heap.size, 0, none⟩ = some (.int .i64 4) := HY1.out.op.cell 0
  go_wp2_with fail
  rename_i K hK
  try rw [show ∀ a : Act, a.put none undef = a from fun _ => rfl]
  refine wp_region_mix (fun wr' => Blk wr' a.pb (pairC a p) 61 ∧ Blk wr' (w.heap.size) (opC 4 A B true) 29) (fun i => i == 11 || i == 17) 17 (by kernel_rfl) rfl (by kernel_rfl) (by kernel_rfl) (by kernel_rfl) ?_
  have hY0 : YSt S L a p (p) (p.c) (opC 4 A B true) (w.heap.size) w ({ w2 with drawn := w2.drawn + 1 } : World) := HY1.out.below ⟨rfl, rfl, rfl, Nat.le_refl _, fun _ _ => rfl⟩
  generalize ({ w2 with drawn := w2.drawn + 1 } : World) = X at *
  have hC : Blk X a.pb (pairC a p) 61 ∧ Blk X (w.heap.size) (opC 4 A B true) 29 := hY0.cls
  refine withFrP (N := 107) rfl ?_
  intro f0 F0 hff
  have hs0 : f0 0 = Value.pointer (some ⟨a.pb, 0, none⟩) := hff 0
  have hs2 : f0 2 = Value.int .i64 1 := hff 2
  have hs4 : f0 4 = Value.pointer (some ⟨w.heap.size, 0, none⟩) := hff 4
  have hs7 : f0 7 = Value.int .i64 (pickI p.c.b.nums A) := hff 7
  clear hff
  refine lyp F0 rfl hC rfl (by omega) (wanted_none rfl) (v := Value.pointer (some ⟨a.pb, 0, none⟩)) (fun wr hwr => by simp only [execOp, (F0.eval 0 (by omega)).trans (show _ = Value.pointer (some ⟨a.pb, 0, none⟩) from by simp [upd, hs0, hs2, hs4, hs7])]; first | rfl | simp [go_sem]) fun F1 => ?_
  refine lyp F1 rfl hC rfl (by omega) (wanted_none rfl) (v := Value.pointer (some ⟨a.pb, 0, none⟩)) (fun wr hwr => by simp only [execOp, (F1.eval 39 (by omega)).trans (show _ = Value.pointer (some ⟨a.pb, 0, none⟩) from by simp [upd, hs0, hs2, hs4, hs7])]; simp [go_sem]) fun F2 => ?_
  refine lyp F2 rfl hC rfl (by omega) (wanted_none rfl) (v := Value.pointer (some ⟨a.pb, 0, none⟩)) (fun wr hwr => by simp only [execOp, (F2.eval 40 (by omega)).trans (show _ = Value.pointer (some ⟨a.pb, 0, none⟩) from by simp [upd, hs0, hs2, hs4, hs7])]; simp [go_sem]) fun F3 => ?_
  refine lyp F3 rfl hC rfl (by omega) (wanted_none rfl) (v := Value.pointer (some ⟨a.hb, 0, none⟩)) (fun wr hwr => by simp only [execOp, (F3.eval 41 (by omega)).trans (show _ = Value.pointer (some ⟨a.pb, 0, none⟩) from by simp [upd, hs0, hs2, hs4, hs7])]; simp [go_sem, (show wr.cell? ⟨a.pb, 0, none⟩ = some (.pointer (some ⟨a.hb, 0, none⟩)) from hwr.1.cell 0)]) fun F4 => ?_
  refine lyp F4 rfl hC rfl (by omega) (wanted_none rfl) (v := Value.pointer (some ⟨a.pb, 0, none⟩)) (fun wr hwr => by simp only [execOp, (F4.eval 0 (by omega)).trans (show _ = Value.pointer (some ⟨a.pb, 0, none⟩) from by simp [upd, hs0, hs2, hs4, hs7])]; first | rfl | simp [go_sem]) fun F5 => ?_
  refine lyp F5 rfl hC rfl (by omega) (wanted_none rfl) (v := Value.int .i64 1) (fun wr hwr => by simp only [execOp, (F5.eval 2 (by omega)).trans (show _ = Value.int .i64 1 from by simp [upd, hs0, hs2, hs4, hs7])]; first | rfl | simp [go_sem]) fun F6 => ?_
  refine lyp F6 rfl hC rfl (by omega) (wanted_none rfl) (v := Value.pointer (some ⟨a.pb, 0, none⟩)) (fun wr hwr => by simp only [execOp, (F6.eval 43 (by omega)).trans (show _ = Value.pointer (some ⟨a.pb, 0, none⟩) from by simp [upd, hs0, hs2, hs4, hs7])]; simp [go_sem]) fun F7 => ?_
  refine lyp F7 rfl hC rfl (by omega) (wanted_none rfl) (v := Value.pointer (some ⟨a.pb, 2, none⟩)) (fun wr hwr => by simp only [execOp, (F7.eval 45 (by omega)).trans (show _ = Value.pointer (some ⟨a.pb, 0, none⟩) from by simp [upd, hs0, hs2, hs4, hs7])]; simp [go_sem]) fun F8 => ?_
  refine lyp F8 rfl hC rfl (by omega) (wanted_none rfl) (v := Value.pointer (some ⟨a.pb, 3, none⟩)) (fun wr hwr => by simp only [execOp, (F8.eval 46 (by omega)).trans (show _ = Value.pointer (some ⟨a.pb, 2, none⟩) from by simp [upd, hs0, hs2, hs4, hs7]), (F8.eval 44 (by omega)).trans (show _ = Value.int .i64 1 from by simp [upd, hs0, hs2, hs4, hs7])]; simp [go_sem, Act.eval]) fun F9 => ?_
  refine lyp F9 rfl hC rfl (by omega) (wanted_none rfl) (v := Value.pointer (some ⟨a.l1, 0, none⟩)) (fun wr hwr => by simp only [execOp, (F9.eval 47 (by omega)).trans (show _ = Value.pointer (some ⟨a.pb, 3, none⟩) from by simp [upd, hs0, hs2, hs4, hs7])]; simp [go_sem, (show wr.cell? ⟨a.pb, 3, none⟩ = some (.pointer (some ⟨a.l1, 0, none⟩)) from hwr.1.cell 3)]) fun F10 => ?_
  refine lyp F10 rfl hC rfl (by omega) (wanted_none rfl) (v := Value.int .i64 (pickI p.c.b.nums A)) (fun wr hwr => by simp only [execOp, (F10.eval 7 (by omega)).trans (show _ = Value.int .i64 (pickI p.c.b.nums A) from by simp [upd, hs0, hs2, hs4, hs7])]; first | rfl | simp [go_sem]) fun F11 => ?_
  refine lcp F11 rfl hC rfl (by omega) (wanted_none rfl) (g := 21) (args := #[Value.pointer (some ⟨a.hb, 0, none⟩), Value.pointer (some ⟨a.l1, 0, none⟩), Value.int .i64 (pickI p.c.b.nums A)]) (by simp only [execOp, resolve, invoke, List.map_toArray, List.map_cons, List.map_nil, (F11.eval 42 (by omega)).trans (show _ = Value.pointer (some ⟨a.hb, 0, none⟩) from by simp [upd, hs0, hs2, hs4, hs7]), (F11.eval 48 (by omega)).trans (show _ = Value.pointer (some ⟨a.l1, 0, none⟩) from by simp [upd, hs0, hs2, hs4, hs7]), (F11.eval 49 (by omega)).trans (show _ = Value.int .i64 (pickI p.c.b.nums A) from by simp [upd, hs0, hs2, hs4, hs7])]; simp [go_sem, Act.eval]) (commit_any (lb := a.l1) (s := p.c.s1) X hY0.inv.core.sen hY0.inv.core.bk hY0.inv.core.l1 HG.out.ok.s1 (hY0.inv.core.lol true) (pickI p.c.b.nums A) HW.out) ?_
  rintro e3 w3 ⟨rfl, hB1, hl1, hc1⟩
  have hs1 := hY0.inv.codeStep true (hc1.mono (fun j _ e => e.elim (fun e => Or.inr (Or.inl e)) (fun e => Or.inr (Or.inr e)))) hB1 hl1
  have hY3 := hY0.step hs1.1 hs1.2
  have hC3 : Blk w3 a.pb (pairC a p) 61 ∧ Blk w3 w.heap.size (opC 4 A B true) 29 := hY3.cls
  refine ⟨_, rfl, fun F12 => ?_⟩
  refine lyp F12 rfl hC3 rfl (by omega) (wanted_none rfl) (v := Value.tuple #[.int .i64 (p.c.b.eamt p.c.s1 (pickI p.c.b.nums A)), .int .i64 (p.c.b.ecode p.c.s1 (pickI p.c.b.nums A))]) (fun wr hwr => by simp only [execOp, (F12.eval 50 (by omega)).trans (show _ = Value.tuple #[.int .i64 (p.c.b.eamt p.c.s1 (pickI p.c.b.nums A)), .int .i64 (p.c.b.ecode p.c.s1 (pickI p.c.b.nums A))] from by simp [upd, hs0, hs2, hs4, hs7])]; first | rfl | simp [go_sem]) fun F13 => ?_
  refine lyp F13 rfl hC3 rfl (by omega) (wanted_none rfl) (v := Value.int .i64 (p.c.b.eamt p.c.s1 (pickI p.c.b.nums A))) (fun wr hwr => by simp only [execOp, (F13.eval 38 (by omega)).trans (show _ = Value.tuple #[.int .i64 (p.c.b.eamt p.c.s1 (pickI p.c.b.nums A)), .int .i64 (p.c.b.ecode p.c.s1 (pickI p.c.b.nums A))] from by simp [upd, hs0, hs2, hs4, hs7])]; simp [go_sem]) fun F14 => ?_
  refine lyp F14 rfl hC3 rfl (by omega) (wanted_none rfl) (v := Value.int .i64 (p.c.b.ecode p.c.s1 (pickI p.c.b.nums A))) (fun wr hwr => by simp only [execOp, (F14.eval 38 (by omega)).trans (show _ = Value.tuple #[.int .i64 (p.c.b.eamt p.c.s1 (pickI p.c.b.nums A)), .int .i64 (p.c.b.ecode p.c.s1 (pickI p.c.b.nums A))] from by simp [upd, hs0, hs2, hs4, hs7])]; simp [go_sem]) fun F15 => ?_
  refine lyp F15 rfl hC3 rfl (by omega) (wanted_none rfl) (v := Value.int .i64 (p.c.b.eamt p.c.s1 (pickI p.c.b.nums A))) (fun wr hwr => by simp only [execOp, (F15.eval 51 (by omega)).trans (show _ = Value.int .i64 (p.c.b.eamt p.c.s1 (pickI p.c.b.nums A)) from by simp [upd, hs0, hs2, hs4, hs7])]; first | rfl | simp [go_sem]) fun F16 => ?_
  refine lyp F16 rfl hC3 rfl (by omega) (wanted_none rfl) (v := Value.int .i64 (p.c.b.ecode p.c.s1 (pickI p.c.b.nums A))) (fun wr hwr => by simp only [execOp, (F16.eval 52 (by omega)).trans (show _ = Value.int .i64 (p.c.b.ecode p.c.s1 (pickI p.c.b.nums A)) from by simp [upd, hs0, hs2, hs4, hs7])]; first | rfl | simp [go_sem]) fun F17 => ?_
  refine ⟨fun _ => hC3, ?_⟩
  refine hK _ _ ?_
  clear F0 F1 F2 F3 F4 F5 F6 F7 F8 F9 F10 F11 F12 F13 F14 F15 F16 F17 hs0 hs2 hs4 hs7
  simp only [Act.put, List.setIfInBounds_toArray, List.set_cons_succ, List.set_cons_zero]
  have HY3 : Hid _ := hY3
  clear hK hC hC3 hY0 hB1 hl1 hc1 hs1 hY3
  go_wp2_with fail
  rename_i K hK
  try rw [show ∀ a : Act, a.put none undef = a from fun _ => rfl]
  refine wp_region_mix (fun wr' => Blk wr' a.pb (pairC a p) 61 ∧ Blk wr' (w.heap.size) (opC 4 A B true) 29) (fun i => i == 11 || i == 17) 17 (by kernel_rfl) rfl (by kernel_rfl) (by kernel_rfl) (by kernel_rfl) ?_
  have hY0 : YSt S L a p ({ p with c := p.c.put true (p.c.b.enext p.c.s1 (pickI p.c.b.nums A)) (p.c.b.elnext p.c.s1 1 (pickI p.c.b.nums A)) }) (p.c) (opC 4 A B true) (w.heap.size) w ({ w3 with drawn := w3.drawn + 1 } : World) := HY3.out.below ⟨rfl, rfl, rfl, Nat.le_refl _, fun _ _ => rfl⟩
  generalize ({ w3 with drawn := w3.drawn + 1 } : World) = X at *
  have hC : Blk X a.pb (pairC a p) 61 ∧ Blk X (w.heap.size) (opC 4 A B true) 29 := hY0.cls
  refine withFrP (N := 107) rfl ?_
  intro f0 F0 hff
  have hs0 : f0 0 = Value.pointer (some ⟨a.pb, 0, none⟩) := hff 0
  have hs2 : f0 2 = Value.int .i64 1 := hff 2
  have hs4 : f0 4 = Value.pointer (some ⟨w.heap.size, 0, none⟩) := hff 4
  have hs7 : f0 7 = Value.int .i64 (pickI p.c.b.nums A) := hff 7
  clear hff
  refine lyp F0 rfl hC rfl (by omega) (wanted_none rfl) (v := Value.pointer (some ⟨a.pb, 0, none⟩)) (fun wr hwr => by simp only [execOp, (F0.eval 0 (by omega)).trans (show _ = Value.pointer (some ⟨a.pb, 0, none⟩) from by simp [upd, hs0, hs2, hs4, hs7])]; first | rfl | simp [go_sem]) fun F1 => ?_
  refine lyp F1 rfl hC rfl (by omega) (wanted_none rfl) (v := Value.pointer (some ⟨a.pb, 0, none⟩)) (fun wr hwr => by simp only [execOp, (F1.eval 54 (by omega)).trans (show _ = Value.pointer (some ⟨a.pb, 0, none⟩) from by simp [upd, hs0, hs2, hs4, hs7])]; simp [go_sem]) fun F2 => ?_
  refine lyp F2 rfl hC rfl (by omega) (wanted_none rfl) (v := Value.pointer (some ⟨a.pb, 1, none⟩)) (fun wr hwr => by simp only [execOp, (F2.eval 55 (by omega)).trans (show _ = Value.pointer (some ⟨a.pb, 0, none⟩) from by simp [upd, hs0, hs2, hs4, hs7])]; simp [go_sem]) fun F3 => ?_
  refine lyp F3 rfl hC rfl (by omega) (wanted_none rfl) (v := Value.pointer (some ⟨a.rb, 0, none⟩)) (fun wr hwr => by simp only [execOp, (F3.eval 56 (by omega)).trans (show _ = Value.pointer (some ⟨a.pb, 1, none⟩) from by simp [upd, hs0, hs2, hs4, hs7])]; simp [go_sem, (show wr.cell? ⟨a.pb, 1, none⟩ = some (.pointer (some ⟨a.rb, 0, none⟩)) from hwr.1.cell 1)]) fun F4 => ?_
  refine lyp F4 rfl hC rfl (by omega) (wanted_none rfl) (v := Value.pointer (some ⟨a.pb, 0, none⟩)) (fun wr hwr => by simp only [execOp, (F4.eval 0 (by omega)).trans (show _ = Value.pointer (some ⟨a.pb, 0, none⟩) from by simp [upd, hs0, hs2, hs4, hs7])]; first | rfl | simp [go_sem]) fun F5 => ?_
  refine lyp F5 rfl hC rfl (by omega) (wanted_none rfl) (v := Value.int .i64 1) (fun wr hwr => by simp only [execOp, (F5.eval 2 (by omega)).trans (show _ = Value.int .i64 1 from by simp [upd, hs0, hs2, hs4, hs7])]; first | rfl | simp [go_sem]) fun F6 => ?_
  refine lyp F6 rfl hC rfl (by omega) (wanted_none rfl) (v := Value.pointer (some ⟨a.pb, 0, none⟩)) (fun wr hwr => by simp only [execOp, (F6.eval 58 (by omega)).trans (show _ = Value.pointer (some ⟨a.pb, 0, none⟩) from by simp [upd, hs0, hs2, hs4, hs7])]; simp [go_sem]) fun F7 => ?_
  refine lyp F7 rfl hC rfl (by omega) (wanted_none rfl) (v := Value.pointer (some ⟨a.pb, 4, none⟩)) (fun wr hwr => by simp only [execOp, (F7.eval 60 (by omega)).trans (show _ = Value.pointer (some ⟨a.pb, 0, none⟩) from by simp [upd, hs0, hs2, hs4, hs7])]; simp [go_sem]) fun F8 => ?_
  refine lyp F8 rfl hC rfl (by omega) (wanted_none rfl) (v := Value.pointer (some ⟨a.pb, 5, none⟩)) (fun wr hwr => by simp only [execOp, (F8.eval 61 (by omega)).trans (show _ = Value.pointer (some ⟨a.pb, 4, none⟩) from by simp [upd, hs0, hs2, hs4, hs7]), (F8.eval 59 (by omega)).trans (show _ = Value.int .i64 1 from by simp [upd, hs0, hs2, hs4, hs7])]; simp [go_sem, Act.eval]) fun F9 => ?_
  refine lyp F9 rfl hC rfl (by omega) (wanted_none rfl) (v := Value.pointer (some ⟨a.q1, 0, none⟩)) (fun wr hwr => by simp only [execOp, (F9.eval 62 (by omega)).trans (show _ = Value.pointer (some ⟨a.pb, 5, none⟩) from by simp [upd, hs0, hs2, hs4, hs7])]; simp [go_sem, (show wr.cell? ⟨a.pb, 5, none⟩ = some (.pointer (some ⟨a.q1, 0, none⟩)) from hwr.1.cell 5)]) fun F10 => ?_
  refine lyp F10 rfl hC rfl (by omega) (wanted_none rfl) (v := Value.int .i64 (pickI p.c.b.nums A)) (fun wr hwr => by simp only [execOp, (F10.eval 7 (by omega)).trans (show _ = Value.int .i64 (pickI p.c.b.nums A) from by simp [upd, hs0, hs2, hs4, hs7])]; first | rfl | simp [go_sem]) fun F11 => ?_
  refine lcp F11 rfl hC rfl (by omega) (wanted_none rfl) (g := 60) (args := #[Value.pointer (some ⟨a.rb, 0, none⟩), Value.pointer (some ⟨a.q1, 0, none⟩), Value.int .i64 (pickI p.c.b.nums A)]) (by simp only [execOp, resolve, invoke, List.map_toArray, List.map_cons, List.map_nil, (F11.eval 57 (by omega)).trans (show _ = Value.pointer (some ⟨a.rb, 0, none⟩) from by simp [upd, hs0, hs2, hs4, hs7]), (F11.eval 63 (by omega)).trans (show _ = Value.pointer (some ⟨a.q1, 0, none⟩) from by simp [upd, hs0, hs2, hs4, hs7]), (F11.eval 64 (by omega)).trans (show _ = Value.int .i64 (pickI p.c.b.nums A) from by simp [upd, hs0, hs2, hs4, hs7])]; simp [go_sem, Act.eval]) (rcommit_any (qb := a.q1) (s := p.c.s1) X hY0.inv.core.rk HG.out.ok.b hY0.inv.core.q1 HG.out.ok.s1 hY0.inv.core.low (pickI p.c.b.nums A)) ?_
  rintro e4 w4 ⟨rfl, hp4⟩
  obtain ⟨v4, hI4, hs4⟩ := hY0.inv.refStep true hp4
  have hY4 := hY0.step hI4 hs4
  have hC4 : Blk w4 a.pb (pairC a p) 61 ∧ Blk w4 w.heap.size (opC 4 A B true) 29 := hY4.cls
  refine ⟨_, rfl, fun F12 => ?_⟩
  refine lyp F12 rfl hC4 rfl (by omega) (wanted_none rfl) (v := Value.tuple #[.int .i64 (p.c.b.eamt p.c.s1 (pickI p.c.b.nums A)), .int .i64 (p.c.b.ecode p.c.s1 (pickI p.c.b.nums A))]) (fun wr hwr => by simp only [execOp, (F12.eval 65 (by omega)).trans (show _ = Value.tuple #[.int .i64 (p.c.b.eamt p.c.s1 (pickI p.c.b.nums A)), .int .i64 (p.c.b.ecode p.c.s1 (pickI p.c.b.nums A))] from by simp [upd, hs0, hs2, hs4, hs7])]; first | rfl | simp [go_sem]) fun F13 => ?_
  refine lyp F13 rfl hC4 rfl (by omega) (wanted_none rfl) (v := Value.int .i64 (p.c.b.eamt p.c.s1 (pickI p.c.b.nums A))) (fun wr hwr => by simp only [execOp, (F13.eval 53 (by omega)).trans (show _ = Value.tuple #[.int .i64 (p.c.b.eamt p.c.s1 (pickI p.c.b.nums A)), .int .i64 (p.c.b.ecode p.c.s1 (pickI p.c.b.nums A))] from by simp [upd, hs0, hs2, hs4, hs7])]; simp [go_sem]) fun F14 => ?_
  refine lyp F14 rfl hC4 rfl (by omega) (wanted_none rfl) (v := Value.int .i64 (p.c.b.ecode p.c.s1 (pickI p.c.b.nums A))) (fun wr hwr => by simp only [execOp, (F14.eval 53 (by omega)).trans (show _ = Value.tuple #[.int .i64 (p.c.b.eamt p.c.s1 (pickI p.c.b.nums A)), .int .i64 (p.c.b.ecode p.c.s1 (pickI p.c.b.nums A))] from by simp [upd, hs0, hs2, hs4, hs7])]; simp [go_sem]) fun F15 => ?_
  refine lyp F15 rfl hC4 rfl (by omega) (wanted_none rfl) (v := Value.int .i64 (p.c.b.eamt p.c.s1 (pickI p.c.b.nums A))) (fun wr hwr => by simp only [execOp, (F15.eval 66 (by omega)).trans (show _ = Value.int .i64 (p.c.b.eamt p.c.s1 (pickI p.c.b.nums A)) from by simp [upd, hs0, hs2, hs4, hs7])]; first | rfl | simp [go_sem]) fun F16 => ?_
  refine lyp F16 rfl hC4 rfl (by omega) (wanted_none rfl) (v := Value.int .i64 (p.c.b.ecode p.c.s1 (pickI p.c.b.nums A))) (fun wr hwr => by simp only [execOp, (F16.eval 67 (by omega)).trans (show _ = Value.int .i64 (p.c.b.ecode p.c.s1 (pickI p.c.b.nums A)) from by simp [upd, hs0, hs2, hs4, hs7])]; first | rfl | simp [go_sem]) fun F17 => ?_
  refine ⟨fun _ => hC4, ?_⟩
  refine hK _ _ ?_
  clear F0 F1 F2 F3 F4 F5 F6 F7 F8 F9 F10 F11 F12 F13 F14 F15 F16 F17 hs0 hs2 hs4 hs7
  simp only [Act.put, List.setIfInBounds_toArray, List.set_cons_succ, List.set_cons_zero]
  have HY4 : Hid _ := hY4
  clear hK hC hC4 hY0 hp4 hI4 hs4 hY4
  have hnm := num_any
  go_wp2_with (first | (go_at_call 16; refine (hnm _ _).mono ?_; rintro e w' ⟨rfl, rfl⟩))
  go_ret
  refine ⟨?_, cpost_of HG.out HY4.out HOK.out HMD.out⟩
  simp
end Go.Proofs.YtkdndfdofhnagaaDoor
