import Derived.Test.YtkdndfdofhnagaaDoorJJ
namespace Go.Proofs.YtkdndfdofhnagaaDoor
open Go.RowKit Go.PlainAid
set_option linter.unusedVariables false
set_option linter.unusedSimpArgs false
set_option maxRecDepth 100000 in
set_option maxHeartbeats 3200000 in
theorem call10f {S : Sens} {L : Nat} {a : PA} {p : PS} {n : Nat} (w : World) (h : PInv S L a p p.c w) (hG : Gd n p) (hn : n ≤ 2000) (A B : Int) (hA : IntKind.i64.wrap A = A) (hB : IntKind.i64.wrap B = B) :
    Calls Tryd.prog 30 #[.pointer (some ⟨a.pb, 0, none⟩), .agg #[.int .i64 10, .int .i64 A, .int .i64 B, .bool false]] w fun r w' => r = .returned (.bool true) ∧ CPost S L a p n (p.c.play 10 A B false) w w' := by
  have hok := CS.play_ok hG.ok 10 A B false
  have hmd := CS.play_made (c := p.c) 10 A B false
  have epl : p.c.play 10 A B false = p.c.put false p.c.b (p.c.s0.inext A B) := rfl
  rw [epl] at hok hmd ⊢
  clear epl
  have hma : p.c.b.made ≤ 1000000 := by have := hG.made; omega
  have hgr : Below w.heap.size w (w.alloc (.cells (opC 10 A B false) 29)) := (Below.refl _ _).alloc (Nat.le_refl _) _
  have HY0 : Hid _ := (⟨h.below hgr, heap_alloc_new w _, PStp.ofBelow hgr⟩ : YSt S L a p p p.c (opC 10 A B false) w.heap.size w (w.alloc (.cells (opC 10 A B false) 29)))
  have HW : Hid _ := (⟨hA, hB⟩ : IntKind.i64.wrap A = A ∧ IntKind.i64.wrap B = B)
  have HG : Hid _ := hG
  have HOK : Hid _ := hok
  have HMD : Hid _ := hmd
  clear h hgr hG hok hmd hA hB
  go_enter Tryd.func30, Tryd.ntmps30
  go_wp2_with fail
  have eW : w.alloc (.cells #[.int .i64 10, .int .i64 A, .int .i64 B, .bool false] 29) = w.alloc (.cells (opC 10 A B false) 29) := rfl
  rw [eW]
  clear eW
  generalize w.alloc (.cells (opC 10 A B false) 29) = W0 at *
  rename_i K hK
  try rw [show ∀ a : Act, a.put none undef = a from fun _ => rfl]
  refine wp_region_mix (fun wr' => Blk wr' a.pb (pairC a p) 61 ∧ Blk wr' (w.heap.size) (opC 10 A B false) 29) (fun i => i == 11 || i == 13) 13 (by kernel_rfl) rfl (by kernel_rfl) (by kernel_rfl) (by kernel_rfl) ?_
  have hY0 : YSt S L a p (p) (p.c) (opC 10 A B false) (w.heap.size) w ({ W0 with drawn := W0.drawn + 1 } : World) := HY0.out.below ⟨rfl, rfl, rfl, Nat.le_refl _, fun _ _ => rfl⟩
  generalize ({ W0 with drawn := W0.drawn + 1 } : World) = X at *
  have hC : Blk X a.pb (pairC a p) 61 ∧ Blk X (w.heap.size) (opC 10 A B false) 29 := hY0.cls
  refine withFrP (N := 210) rfl ?_
  intro f0 F0 hff
  have hs0 : f0 0 = Value.pointer (some ⟨a.pb, 0, none⟩) := hff 0
  have hs3 : f0 3 = Value.pointer (some ⟨w.heap.size, 0, none⟩) := hff 3
  have hs5 : f0 5 = Value.int .i64 0 := hff 5
  clear hff
  refine lyp F0 rfl hC rfl (by omega) (wanted_none rfl) (v := Value.pointer (some ⟨a.pb, 0, none⟩)) (fun wr hwr => by simp only [execOp, (F0.eval 0 (by omega)).trans (show _ = Value.pointer (some ⟨a.pb, 0, none⟩) from by simp [upd, hs0, hs3, hs5])]; first | rfl | simp [go_sem]) fun F1 => ?_
  refine lyp F1 rfl hC rfl (by omega) (wanted_none rfl) (v := Value.int .i64 0) (fun wr hwr => by simp only [execOp, (F1.eval 5 (by omega)).trans (show _ = Value.int .i64 0 from by simp [upd, hs0, hs3, hs5])]; first | rfl | simp [go_sem]) fun F2 => ?_
  refine lyp F2 rfl hC rfl (by omega) (wanted_none rfl) (v := Value.pointer (some ⟨a.pb, 0, none⟩)) (fun wr hwr => by simp only [execOp, (F2.eval 160 (by omega)).trans (show _ = Value.pointer (some ⟨a.pb, 0, none⟩) from by simp [upd, hs0, hs3, hs5])]; simp [go_sem]) fun F3 => ?_
  refine lyp F3 rfl hC rfl (by omega) (wanted_none rfl) (v := Value.pointer (some ⟨a.pb, 2, none⟩)) (fun wr hwr => by simp only [execOp, (F3.eval 162 (by omega)).trans (show _ = Value.pointer (some ⟨a.pb, 0, none⟩) from by simp [upd, hs0, hs3, hs5])]; simp [go_sem]) fun F4 => ?_
  refine lyp F4 rfl hC rfl (by omega) (wanted_none rfl) (v := Value.pointer (some ⟨a.pb, 2, none⟩)) (fun wr hwr => by simp only [execOp, (F4.eval 163 (by omega)).trans (show _ = Value.pointer (some ⟨a.pb, 2, none⟩) from by simp [upd, hs0, hs3, hs5]), (F4.eval 161 (by omega)).trans (show _ = Value.int .i64 0 from by simp [upd, hs0, hs3, hs5])]; simp [go_sem, Act.eval]) fun F5 => ?_
  refine lyp F5 rfl hC rfl (by omega) (wanted_none rfl) (v := Value.pointer (some ⟨a.l0, 0, none⟩)) (fun wr hwr => by simp only [execOp, (F5.eval 164 (by omega)).trans (show _ = Value.pointer (some ⟨a.pb, 2, none⟩) from by simp [upd, hs0, hs3, hs5])]; simp [go_sem, (show wr.cell? ⟨a.pb, 2, none⟩ = some (.pointer (some ⟨a.l0, 0, none⟩)) from hwr.1.cell 2)]) fun F6 => ?_
  refine lyp F6 rfl hC rfl (by omega) (wanted_none rfl) (v := Value.pointer (some ⟨w.heap.size, 1, none⟩)) (fun wr hwr => by simp only [execOp, (F6.eval 3 (by omega)).trans (show _ = Value.pointer (some ⟨w.heap.size, 0, none⟩) from by simp [upd, hs0, hs3, hs5])]; simp [go_sem]) fun F7 => ?_
  refine lyp F7 rfl hC rfl (by omega) (wanted_none rfl) (v := Value.int .i64 A) (fun wr hwr => by simp only [execOp, (F7.eval 166 (by omega)).trans (show _ = Value.pointer (some ⟨w.heap.size, 1, none⟩) from by simp [upd, hs0, hs3, hs5])]; simp [go_sem, (show wr.cell? ⟨w.heap.size, 1, none⟩ = some (Value.int .i64 A) from hwr.2.cell 1)]) fun F8 => ?_
  refine lyp F8 rfl hC rfl (by omega) (wanted_none rfl) (v := Value.pointer (some ⟨w.heap.size, 2, none⟩)) (fun wr hwr => by simp only [execOp, (F8.eval 3 (by omega)).trans (show _ = Value.pointer (some ⟨w.heap.size, 0, none⟩) from by simp [upd, hs0, hs3, hs5])]; simp [go_sem]) fun F9 => ?_
  refine lyp F9 rfl hC rfl (by omega) (wanted_none rfl) (v := Value.int .i64 B) (fun wr hwr => by simp only [execOp, (F9.eval 168 (by omega)).trans (show _ = Value.pointer (some ⟨w.heap.size, 2, none⟩) from by simp [upd, hs0, hs3, hs5])]; simp [go_sem, (show wr.cell? ⟨w.heap.size, 2, none⟩ = some (Value.int .i64 B) from hwr.2.cell 2)]) fun F10 => ?_
  refine lyp F10 rfl hC rfl (by omega) (wanted_none rfl) (v := Value.agg #[.int .i64 A, .int .i64 B]) (fun wr hwr => by simp only [execOp, (F10.eval 167 (by omega)).trans (show _ = Value.int .i64 A from by simp [upd, hs0, hs3, hs5]), (F10.eval 169 (by omega)).trans (show _ = Value.int .i64 B from by simp [upd, hs0, hs3, hs5])]; simp [go_sem, (F10.eval 167 (by omega)).trans (show _ = Value.int .i64 A from by simp [upd, hs0, hs3, hs5]), (F10.eval 169 (by omega)).trans (show _ = Value.int .i64 B from by simp [upd, hs0, hs3, hs5])]) fun F11 => ?_
  refine lcp F11 rfl hC rfl (by omega) (wanted_none rfl) (g := 17) (args := #[Value.pointer (some ⟨a.l0, 0, none⟩), Value.agg #[.int .i64 A, .int .i64 B]]) (by simp only [execOp, resolve, invoke, List.map_toArray, List.map_cons, List.map_nil, (F11.eval 165 (by omega)).trans (show _ = Value.pointer (some ⟨a.l0, 0, none⟩) from by simp [upd, hs0, hs3, hs5]), (F11.eval 170 (by omega)).trans (show _ = Value.agg #[.int .i64 A, .int .i64 B] from by simp [upd, hs0, hs3, hs5])]; simp [go_sem, Act.eval]) (in_any (s := p.c.s0) X hY0.inv.core.sen hY0.inv.core.l0 HG.out.ok.s0 (hY0.inv.core.lol false) A B HW.out.1 HW.out.2) ?_
  rintro e1 w1 ⟨rfl, hl1, hst1⟩
  have hs1 := hY0.inv.ledStep false hst1 hl1
  have hY1 := hY0.step hs1.1 hs1.2
  have hC1 : Blk w1 a.pb (pairC a p) 61 ∧ Blk w1 w.heap.size (opC 10 A B false) 29 := hY1.cls
  refine ⟨_, rfl, fun F12 => ?_⟩
  refine lyp F12 rfl hC1 rfl (by omega) (wanted_none rfl) (v := Value.int .i64 (p.c.s0.icode A B)) (fun wr hwr => by simp only [execOp, (F12.eval 171 (by omega)).trans (show _ = Value.int .i64 (p.c.s0.icode A B) from by simp [upd, hs0, hs3, hs5])]; first | rfl | simp [go_sem]) fun F13 => ?_
  refine ⟨fun _ => hC1, ?_⟩
  refine hK _ _ ?_
  clear F0 F1 F2 F3 F4 F5 F6 F7 F8 F9 F10 F11 F12 F13 hs0 hs3 hs5
  simp only [Act.put, List.setIfInBounds_toArray, List.set_cons_succ, List.set_cons_zero]
  have HY1 : Hid _ := hY1
  clear hK hC hC1 hY0 hl1 hst1 hs1 hY1
  go_wp2_with fail
  rename_i K hK
  try rw [show ∀ a : Act, a.put none undef = a from fun _ => rfl]
  refine wp_region_mix (fun wr' => Blk wr' a.pb (pairC a p) 61 ∧ Blk wr' (w.heap.size) (opC 10 A B false) 29) (fun i => i == 1 || i == 13 || i == 16) 16 (by kernel_rfl) rfl (by kernel_rfl) (by kernel_rfl) (by kernel_rfl) ?_
  have hY0 : YSt S L a p ({ p with c := p.c.put false p.c.b (p.c.s0.inext A B) }) (p.c) (opC 10 A B false) (w.heap.size) w ({ w1 with drawn := w1.drawn + 1 } : World) := HY1.out.below ⟨rfl, rfl, rfl, Nat.le_refl _, fun _ _ => rfl⟩
  generalize ({ w1 with drawn := w1.drawn + 1 } : World) = X at *
  have hC : Blk X a.pb (pairC a p) 61 ∧ Blk X (w.heap.size) (opC 10 A B false) 29 := hY0.cls
  refine withFrP (N := 210) rfl ?_
  intro f0 F0 hff
  have hs0 : f0 0 = Value.pointer (some ⟨a.pb, 0, none⟩) := hff 0
  have hs3 : f0 3 = Value.pointer (some ⟨w.heap.size, 0, none⟩) := hff 3
  have hs5 : f0 5 = Value.int .i64 0 := hff 5
  have hs16 : f0 16 = Value.int .i64 (p.c.s0.icode A B) := hff 16
  clear hff
  refine lyp F0 rfl hC rfl (by omega) (wanted_none rfl) (v := Value.int .i64 (p.c.s0.icode A B)) (fun wr hwr => by simp only [execOp, (F0.eval 16 (by omega)).trans (show _ = Value.int .i64 (p.c.s0.icode A B) from by simp [upd, hs0, hs3, hs5, hs16])]; first | rfl | simp [go_sem]) fun F1 => ?_
  refine lcp F1 rfl hC rfl (by omega) (wanted_none rfl) (g := 16) (args := #[Value.int .i64 (p.c.s0.icode A B)]) (by simp only [execOp, resolve, invoke, List.map_toArray, List.map_cons, List.map_nil, (F1.eval 172 (by omega)).trans (show _ = Value.int .i64 (p.c.s0.icode A B) from by simp [upd, hs0, hs3, hs5, hs16])]; simp [go_sem, Act.eval]) (num_any (p.c.s0.icode A B) X) ?_
  rintro e3 w3 ⟨rfl, hw3⟩
  subst hw3
  refine ⟨_, rfl, fun F2 => ?_⟩
  refine lyp F2 rfl hC rfl (by omega) (wanted_none rfl) (v := Value.pointer (some ⟨a.pb, 0, none⟩)) (fun wr hwr => by simp only [execOp, (F2.eval 0 (by omega)).trans (show _ = Value.pointer (some ⟨a.pb, 0, none⟩) from by simp [upd, hs0, hs3, hs5, hs16])]; first | rfl | simp [go_sem]) fun F3 => ?_
  refine lyp F3 rfl hC rfl (by omega) (wanted_none rfl) (v := Value.int .i64 0) (fun wr hwr => by simp only [execOp, (F3.eval 5 (by omega)).trans (show _ = Value.int .i64 0 from by simp [upd, hs0, hs3, hs5, hs16])]; first | rfl | simp [go_sem]) fun F4 => ?_
  refine lyp F4 rfl hC rfl (by omega) (wanted_none rfl) (v := Value.pointer (some ⟨a.pb, 0, none⟩)) (fun wr hwr => by simp only [execOp, (F4.eval 174 (by omega)).trans (show _ = Value.pointer (some ⟨a.pb, 0, none⟩) from by simp [upd, hs0, hs3, hs5, hs16])]; simp [go_sem]) fun F5 => ?_
  refine lyp F5 rfl hC rfl (by omega) (wanted_none rfl) (v := Value.pointer (some ⟨a.pb, 4, none⟩)) (fun wr hwr => by simp only [execOp, (F5.eval 176 (by omega)).trans (show _ = Value.pointer (some ⟨a.pb, 0, none⟩) from by simp [upd, hs0, hs3, hs5, hs16])]; simp [go_sem]) fun F6 => ?_
  refine lyp F6 rfl hC rfl (by omega) (wanted_none rfl) (v := Value.pointer (some ⟨a.pb, 4, none⟩)) (fun wr hwr => by simp only [execOp, (F6.eval 177 (by omega)).trans (show _ = Value.pointer (some ⟨a.pb, 4, none⟩) from by simp [upd, hs0, hs3, hs5, hs16]), (F6.eval 175 (by omega)).trans (show _ = Value.int .i64 0 from by simp [upd, hs0, hs3, hs5, hs16])]; simp [go_sem, Act.eval]) fun F7 => ?_
  refine lyp F7 rfl hC rfl (by omega) (wanted_none rfl) (v := Value.pointer (some ⟨a.q0, 0, none⟩)) (fun wr hwr => by simp only [execOp, (F7.eval 178 (by omega)).trans (show _ = Value.pointer (some ⟨a.pb, 4, none⟩) from by simp [upd, hs0, hs3, hs5, hs16])]; simp [go_sem, (show wr.cell? ⟨a.pb, 4, none⟩ = some (.pointer (some ⟨a.q0, 0, none⟩)) from hwr.1.cell 4)]) fun F8 => ?_
  refine lyp F8 rfl hC rfl (by omega) (wanted_none rfl) (v := Value.pointer (some ⟨w.heap.size, 1, none⟩)) (fun wr hwr => by simp only [execOp, (F8.eval 3 (by omega)).trans (show _ = Value.pointer (some ⟨w.heap.size, 0, none⟩) from by simp [upd, hs0, hs3, hs5, hs16])]; simp [go_sem]) fun F9 => ?_
  refine lyp F9 rfl hC rfl (by omega) (wanted_none rfl) (v := Value.int .i64 A) (fun wr hwr => by simp only [execOp, (F9.eval 180 (by omega)).trans (show _ = Value.pointer (some ⟨w.heap.size, 1, none⟩) from by simp [upd, hs0, hs3, hs5, hs16])]; simp [go_sem, (show wr.cell? ⟨w.heap.size, 1, none⟩ = some (Value.int .i64 A) from hwr.2.cell 1)]) fun F10 => ?_
  refine lyp F10 rfl hC rfl (by omega) (wanted_none rfl) (v := Value.pointer (some ⟨w.heap.size, 2, none⟩)) (fun wr hwr => by simp only [execOp, (F10.eval 3 (by omega)).trans (show _ = Value.pointer (some ⟨w.heap.size, 0, none⟩) from by simp [upd, hs0, hs3, hs5, hs16])]; simp [go_sem]) fun F11 => ?_
  refine lyp F11 rfl hC rfl (by omega) (wanted_none rfl) (v := Value.int .i64 B) (fun wr hwr => by simp only [execOp, (F11.eval 182 (by omega)).trans (show _ = Value.pointer (some ⟨w.heap.size, 2, none⟩) from by simp [upd, hs0, hs3, hs5, hs16])]; simp [go_sem, (show wr.cell? ⟨w.heap.size, 2, none⟩ = some (Value.int .i64 B) from hwr.2.cell 2)]) fun F12 => ?_
  refine lyp F12 rfl hC rfl (by omega) (wanted_none rfl) (v := Value.agg #[.int .i64 A, .int .i64 B]) (fun wr hwr => by simp only [execOp, (F12.eval 181 (by omega)).trans (show _ = Value.int .i64 A from by simp [upd, hs0, hs3, hs5, hs16]), (F12.eval 183 (by omega)).trans (show _ = Value.int .i64 B from by simp [upd, hs0, hs3, hs5, hs16])]; simp [go_sem, (F12.eval 181 (by omega)).trans (show _ = Value.int .i64 A from by simp [upd, hs0, hs3, hs5, hs16]), (F12.eval 183 (by omega)).trans (show _ = Value.int .i64 B from by simp [upd, hs0, hs3, hs5, hs16])]) fun F13 => ?_
  refine lcp F13 rfl hC rfl (by omega) (wanted_none rfl) (g := 50) (args := #[Value.pointer (some ⟨a.q0, 0, none⟩), Value.agg #[.int .i64 A, .int .i64 B]]) (by simp only [execOp, resolve, invoke, List.map_toArray, List.map_cons, List.map_nil, (F13.eval 179 (by omega)).trans (show _ = Value.pointer (some ⟨a.q0, 0, none⟩) from by simp [upd, hs0, hs3, hs5, hs16]), (F13.eval 184 (by omega)).trans (show _ = Value.agg #[.int .i64 A, .int .i64 B] from by simp [upd, hs0, hs3, hs5, hs16])]; simp [go_sem, Act.eval]) (rin_any (s := p.c.s0) _ hY0.inv.core.q0 HG.out.ok.s0 A B HW.out.1 HW.out.2) ?_
  rintro e2 w2 ⟨rfl, hq2, hst2⟩
  obtain ⟨v2, hI2, hs2⟩ := hY0.inv.qedStep false hst2 hq2
  have hY2 := hY0.step hI2 hs2
  have hC2 : Blk w2 a.pb (pairC a p) 61 ∧ Blk w2 w.heap.size (opC 10 A B false) 29 := hY2.cls
  refine ⟨_, rfl, fun F14 => ?_⟩
  refine lyp F14 rfl hC2 rfl (by omega) (wanted_none rfl) (v := Value.bool true) (fun wr hwr => by simp only [execOp, (F14.eval 173 (by omega)).trans (show _ = Value.int .i64 (p.c.s0.icode A B) from by simp [upd, hs0, hs3, hs5, hs16]), (F14.eval 185 (by omega)).trans (show _ = Value.int .i64 (p.c.s0.icode A B) from by simp [upd, hs0, hs3, hs5, hs16])]; simp [go_sem, Act.eval]) fun F15 => ?_
  refine lyp F15 rfl hC2 rfl (by omega) (wanted_none rfl) (v := Value.bool true) (fun wr hwr => by simp only [execOp, (F15.eval 186 (by omega)).trans (show _ = Value.bool true from by simp [upd, hs0, hs3, hs5, hs16])]; first | rfl | simp [go_sem]) fun F16 => ?_
  refine ⟨fun _ => hC2, ?_⟩
  refine hK _ _ ?_
  clear F0 F1 F2 F3 F4 F5 F6 F7 F8 F9 F10 F11 F12 F13 F14 F15 F16 hs0 hs3 hs5 hs16
  simp only [Act.put, List.setIfInBounds_toArray, List.set_cons_succ, List.set_cons_zero]
  have HY2 : Hid _ := hY2
  clear hK hC hC2 hY0 hq2 hst2 hI2 hs2 hY2
  go_wp2_with fail
  go_ret
  exact ⟨rfl, cpost_of HG.out HY2.out HOK.out HMD.out⟩
set_option maxRecDepth 100000 in
set_option maxHeartbeats 3200000 in
theorem call10t {S : Sens} {L : Nat} {a : PA} {p : PS} {n : Nat} (w : World) (h : PInv S L a p p.c w) (hG : Gd n p) (hn : n ≤ 2000) (A B : Int) (hA : IntKind.i64.wrap A = A) (hB : IntKind.i64.wrap B = B) :
    Calls Tryd.prog 30 #[.pointer (some ⟨a.pb, 0, none⟩), .agg #[.int .i64 10, .int .i64 A, .int .i64 B, .bool true]] w fun r w' => r = .returned (.bool true) ∧ CPost S L a p n (p.c.play 10 A B true) w w' := by
  have hok := CS.play_ok hG.ok 10 A B true
  have hmd := CS.play_made (c := p.c) 10 A B true
  have epl : p.c.play 10 A B true = p.c.put true p.c.b (p.c.s1.inext A B) := rfl
  rw [epl] at hok hmd ⊢
  clear epl
  have hma : p.c.b.made ≤ 1000000 := by have := hG.made; omega
  have hgr : Below w.heap.size w (w.alloc (.cells (opC 10 A B true) 29)) := (Below.refl _ _).alloc (Nat.le_refl _) _
  have HY0 : Hid _ := (⟨h.below hgr, heap_alloc_new w _, PStp.ofBelow hgr⟩ : YSt S L a p p p.c (opC 10 A B true) w.heap.size w (w.alloc (.cells (opC 10 A B true) 29)))
  have HW : Hid _ := (⟨hA, hB⟩ : IntKind.i64.wrap A = A ∧ IntKind.i64.wrap B = B)
  have HG : Hid _ := hG
  have HOK : Hid _ := hok
  have HMD : Hid _ := hmd
  clear h hgr hG hok hmd hA hB
  go_enter Tryd.func30, Tryd.ntmps30
  go_wp2_with fail
  have eW : w.alloc (.cells #[.int .i64 10, .int .i64 A, .int .i64 B, .bool true] 29) = w.alloc (.cells (opC 10 A B true) 29) := rfl
  rw [eW]
  clear eW
  generalize w.alloc (.cells (opC 10 A B true) 29) = W0 at *
  rename_i K hK
  try rw [show ∀ a : Act, a.put none undef = a from fun _ => rfl]
  refine wp_region_mix (fun wr' => Blk wr' a.pb (pairC a p) 61 ∧ Blk wr' (w.heap.size) (opC 10 A B true) 29) (fun i => i == 11 || i == 13) 13 (by kernel_rfl) rfl (by kernel_rfl) (by kernel_rfl) (by kernel_rfl) ?_
  have hY0 : YSt S L a p (p) (p.c) (opC 10 A B true) (w.heap.size) w ({ W0 with drawn := W0.drawn + 1 } : World) := HY0.out.below ⟨rfl, rfl, rfl, Nat.le_refl _, fun _ _ => rfl⟩
  generalize ({ W0 with drawn := W0.drawn + 1 } : World) = X at *
  have hC : Blk X a.pb (pairC a p) 61 ∧ Blk X (w.heap.size) (opC 10 A B true) 29 := hY0.cls
  refine withFrP (N := 210) rfl ?_
  intro f0 F0 hff
  have hs0 : f0 0 = Value.pointer (some ⟨a.pb, 0, none⟩) := hff 0
  have hs3 : f0 3 = Value.pointer (some ⟨w.heap.size, 0, none⟩) := hff 3
  have hs5 : f0 5 = Value.int .i64 1 := hff 5
  clear hff
  refine lyp F0 rfl hC rfl (by omega) (wanted_none rfl) (v := Value.pointer (some ⟨a.pb, 0, none⟩)) (fun wr hwr => by simp only [execOp, (F0.eval 0 (by omega)).trans (show _ = Value.pointer (some ⟨a.pb, 0, none⟩) from by simp [upd, hs0, hs3, hs5])]; first | rfl | simp [go_sem]) fun F1 => ?_
  refine lyp F1 rfl hC rfl (by omega) (wanted_none rfl) (v := Value.int .i64 1) (fun wr hwr => by simp only [execOp, (F1.eval 5 (by omega)).trans (show _ = Value.int .i64 1 from by simp [upd, hs0, hs3, hs5])]; first | rfl | simp [go_sem]) fun F2 => ?_
  refine lyp F2 rfl hC rfl (by omega) (wanted_none rfl) (v := Value.pointer (some ⟨a.pb, 0, none⟩)) (fun wr hwr => by simp only [execOp, (F2.eval 160 (by omega)).trans (show _ = Value.pointer (some ⟨a.pb, 0, none⟩) from by simp [upd, hs0, hs3, hs5])]; simp [go_sem]) fun F3 => ?_
  refine lyp F3 rfl hC rfl (by omega) (wanted_none rfl) (v := Value.pointer (some ⟨a.pb, 2, none⟩)) (fun wr hwr => by simp only [execOp, (F3.eval 162 (by omega)).trans (show _ = Value.pointer (some ⟨a.pb, 0, none⟩) from by simp [upd, hs0, hs3, hs5])]; simp [go_sem]) fun F4 => ?_
  refine lyp F4 rfl hC rfl (by omega) (wanted_none rfl) (v := Value.pointer (some ⟨a.pb, 3, none⟩)) (fun wr hwr => by simp only [execOp, (F4.eval 163 (by omega)).trans (show _ = Value.pointer (some ⟨a.pb, 2, none⟩) from by simp [upd, hs0, hs3, hs5]), (F4.eval 161 (by omega)).trans (show _ = Value.int .i64 1 from by simp [upd, hs0, hs3, hs5])]; simp [go_sem, Act.eval]) fun F5 => ?_
  refine lyp F5 rfl hC rfl (by omega) (wanted_none rfl) (v := Value.pointer (some ⟨a.l1, 0, none⟩)) (fun wr hwr => by simp only [execOp, (F5.eval 164 (by omega)).trans (show _ = Value.pointer (some ⟨a.pb, 3, none⟩) from by simp [upd, hs0, hs3, hs5])]; simp [go_sem, (show wr.cell? ⟨a.pb, 3, none⟩ = some (.pointer (some ⟨a.l1, 0, none⟩)) from hwr.1.cell 3)]) fun F6 => ?_
  refine lyp F6 rfl hC rfl (by omega) (wanted_none rfl) (v := Value.pointer (some ⟨w.heap.size, 1, none⟩)) (fun wr hwr => by simp only [execOp, (F6.eval 3 (by omega)).trans (show _ = Value.pointer (some ⟨w.heap.size, 0, none⟩) from by simp [upd, hs0, hs3, hs5])]; simp [go_sem]) fun F7 => ?_
  refine lyp F7 rfl hC rfl (by omega) (wanted_none rfl) (v := Value.int .i64 A) (fun wr hwr => by simp only [execOp, (F7.eval 166 (by omega)).trans (show _ = Value.pointer (some ⟨w.heap.size, 1, none⟩) from by simp [upd, hs0, hs3, hs5])]; simp [go_sem, (show wr.cell? ⟨w.heap.size, 1, none⟩ = some (Value.int .i64 A) from hwr.2.cell 1)]) fun F8 => ?_
  refine lyp F8 rfl hC rfl (by omega) (wanted_none rfl) (v := Value.pointer (some ⟨w.heap.size, 2, none⟩)) (fun wr hwr => by simp only [execOp, (F8.eval 3 (by omega)).trans (show _ = Value.pointer (some ⟨w.heap.size, 0, none⟩) from by simp [upd, hs0, hs3, hs5])]; simp [go_sem]) fun F9 => ?_
  refine lyp F9 rfl hC rfl (by omega) (wanted_none rfl) (v := Value.int .i64 B) (fun wr hwr => by simp only [execOp, (F9.eval 168 (by omega)).trans (show _ = Value.pointer (some ⟨w.heap.size, 2, none⟩) from by simp [upd, hs0, hs3, hs5])]; simp [go_sem, (show wr.cell? ⟨w.heap.size, 2, none⟩ = some (Value.int .i64 B) from hwr.2.cell 2)]) fun F10 => ?_
  refine lyp F10 rfl hC rfl (by omega) (wanted_none rfl) (v := Value.agg #[.int .i64 A, .int .i64 B]) (fun wr hwr => by simp only [execOp, (F10.eval 167 (by omega)).trans (show _ = Value.int .i64 A from by simp [upd, hs0, hs3, hs5]), (F10.eval 169 (by omega)).trans (show _ = Value.int .i64 B from by simp [upd, hs0, hs3, hs5])]; simp [go_sem, (F10.eval 167 (by omega)).trans (show _ = Value.int .i64 A from by simp [upd, hs0, hs3, hs5]), (F10.eval 169 (by omega)).trans (show _ = Value.int .i64 B from by simp [upd, hs0, hs3, hs5])]) fun F11 => ?_
  refine lcp F11 rfl hC rfl (by omega) (wanted_none rfl) (g := 17) (args := #[Value.pointer (some ⟨a.l1, 0, none⟩), Value.agg #[.int .i64 A, .int .i64 B]]) (by simp only [execOp, resolve, invoke, List.map_toArray, List.map_cons, List.map_nil, (F11.eval 165 (by omega)).trans (show _ = Value.pointer (some ⟨a.l1, 0, none⟩) from by simp [upd, hs0, hs3, hs5]), (F11.eval 170 (by omega)).trans (show _ = Value.agg #[.int .i64 A, .int .i64 B] from by simp [upd, hs0, hs3, hs5])]; simp [go_sem, Act.eval]) (in_any (s := p.c.s1) X hY0.inv.core.sen hY0.inv.core.l1 HG.out.ok.s1 (hY0.inv.core.lol true) A B HW.out.1 HW.out.2) ?_
  rintro e1 w1 ⟨rfl, hl1, hst1⟩
  have hs1 := hY0.inv.ledStep true hst1 hl1
  have hY1 := hY0.step hs1.1 hs1.2
  have hC1 : Blk w1 a.pb (pairC a p) 61 ∧ Blk w1 w.heap.size (opC 10 A B true) 29 := hY1.cls
  refine ⟨_, rfl, fun F12 => ?_⟩
  refine lyp F12 rfl hC1 rfl (by omega) (wanted_none rfl) (v := Value.int .i64 (p.c.s1.icode A B)) (fun wr hwr => by simp only [execOp, (F12.eval 171 (by omega)).trans (show _ = Value.int .i64 (p.c.s1.icode A B) from by simp [upd, hs0, hs3, hs5])]; first | rfl | simp [go_sem]) fun F13 => ?_
  refine ⟨fun _ => hC1, ?_⟩
  refine hK _ _ ?_
  clear F0 F1 F2 F3 F4 F5 F6 F7 F8 F9 F10 F11 F12 F13 hs0 hs3 hs5
  simp only [Act.put, List.setIfInBounds_toArray, List.set_cons_succ, List.set_cons_zero]
  have HY1 : Hid _ := hY1
  clear hK hC hC1 hY0 hl1 hst1 hs1 hY1
  go_wp2_with fail
  rename_i K hK
  try rw [show ∀ a : Act, a.put none undef = a from fun _ => rfl]
  refine wp_region_mix (fun wr' => Blk wr' a.pb (pairC a p) 61 ∧ Blk wr' (w.heap.size) (opC 10 A B true) 29) (fun i => i == 1 || i == 13 || i == 16) 16 (by kernel_rfl) rfl (by kernel_rfl) (by kernel_rfl) (by kernel_rfl) ?_
  have hY0 : YSt S L a p ({ p with c := p.c.put true p.c.b (p.c.s1.inext A B) }) (p.c) (opC 10 A B true) (w.heap.size) w ({ w1 with drawn := w1.drawn + 1 } : World) := HY1.out.below ⟨rfl, rfl, rfl, Nat.le_refl _, fun _ _ => rfl⟩
  generalize ({ w1 with drawn := w1.drawn + 1 } : World) = X at *
  have hC : Blk X a.pb (pairC a p) 61 ∧ Blk X (w.heap.size) (opC 10 A B true) 29 := hY0.cls
  refine withFrP (N := 210) rfl ?_
  intro f0 F0 hff
  have hs0 : f0 0 = Value.pointer (some ⟨a.pb, 0, none⟩) := hff 0
  have hs3 : f0 3 = Value.pointer (some ⟨w.heap.size, 0, none⟩) := hff 3
  have hs5 : f0 5 = Value.int .i64 1 := hff 5
  have hs16 : f0 16 = Value.int .i64 (p.c.s1.icode A B) := hff 16
  clear hff
  refine lyp F0 rfl hC rfl (by omega) (wanted_none rfl) (v := Value.int .i64 (p.c.s1.icode A B)) (fun wr hwr => by simp only [execOp, (F0.eval 16 (by omega)).trans (show _ = Value.int .i64 (p.c.s1.icode A B) from by simp [upd, hs0, hs3, hs5, hs16])]; first | rfl | simp [go_sem]) fun F1 => ?_
  refine lcp F1 rfl hC rfl (by omega) (wanted_none rfl) (g := 16) (args := #[Value.int .i64 (p.c.s1.icode A B)]) (by simp only [execOp, resolve, invoke, List.map_toArray, List.map_cons, List.map_nil, (F1.eval 172 (by omega)).trans (show _ = Value.int .i64 (p.c.s1.icode A B) from by simp [upd, hs0, hs3, hs5, hs16])]; simp [go_sem, Act.eval]) (num_any (p.c.s1.icode A B) X) ?_
  rintro e3 w3 ⟨rfl, hw3⟩
  subst hw3
  refine ⟨_, rfl, fun F2 => ?_⟩
  refine lyp F2 rfl hC rfl (by omega) (wanted_none rfl) (v := Value.pointer (some ⟨a.pb, 0, none⟩)) (fun wr hwr => by simp only [execOp, (F2.eval 0 (by omega)).trans (show _ = Value.pointer (some ⟨a.pb, 0, none⟩) from by simp [upd, hs0, hs3, hs5, hs16])]; first | rfl | simp [go_sem]) fun F3 => ?_
  refine lyp F3 rfl hC rfl (by omega) (wanted_none rfl) (v := Value.int .i64 1) (fun wr hwr => by simp only [execOp, (F3.eval 5 (by omega)).trans (show _ = Value.int .i64 1 from by simp [upd, hs0, hs3, hs5, hs16])]; first | rfl | simp [go_sem]) fun F4 => ?_
  refine lyp F4 rfl hC rfl (by omega) (wanted_none rfl) (v := Value.pointer (some ⟨a.pb, 0, none⟩)) (fun wr hwr => by simp only [execOp, (F4.eval 174 (by omega)).trans (show _ = Value.pointer (some ⟨a.pb, 0, none⟩) from by simp [upd, hs0, hs3, hs5, hs16])]; simp [go_sem]) fun F5 => ?_
  refine lyp F5 rfl hC rfl (by omega) (wanted_none rfl) (v := Value.pointer (some ⟨a.pb, 4, none⟩)) (fun wr hwr => by simp only [execOp, (F5.eval 176 (by omega)).trans (show _ = Value.pointer (some ⟨a.pb, 0, none⟩) from by simp [upd, hs0, hs3, hs5, hs16])]; simp [go_sem]) fun F6 => ?_
  refine lyp F6 rfl hC rfl (by omega) (wanted_none rfl) (v := Value.pointer (some ⟨a.pb, 5, none⟩)) (fun wr hwr => by simp only [execOp, (F6.eval 177 (by omega)).trans (show _ = Value.pointer (some ⟨a.pb, 4, none⟩) from by simp [upd, hs0, hs3, hs5, hs16]), (F6.eval 175 (by omega)).trans (show _ = Value.int .i64 1 from by simp [upd, hs0, hs3, hs5, hs16])]; simp [go_sem, Act.eval]) fun F7 => ?_
  refine lyp F7 rfl hC rfl (by omega) (wanted_none rfl) (v := Value.pointer (some ⟨a.q1, 0, none⟩)) (fun wr hwr => by simp only [execOp, (F7.eval 178 (by omega)).trans (show _ = Value.pointer (some ⟨a.pb, 5, none⟩) from by simp [upd, hs0, hs3, hs5, hs16])]; simp [go_sem, (show wr.cell? ⟨a.pb, 5, none⟩ = some (.pointer (some ⟨a.q1, 0, none⟩)) from hwr.1.cell 5)]) fun F8 => ?_
  refine lyp F8 rfl hC rfl (by omega) (wanted_none rfl) (v := Value.pointer (some ⟨w.heap.size, 1, none⟩)) (fun wr hwr => by simp only [execOp, (F8.eval 3 (by omega)).trans (show _ = Value.pointer (some ⟨w.heap.size, 0, none⟩) from by simp [upd, hs0, hs3, hs5, hs16])]; simp [go_sem]) fun F9 => ?_
  refine lyp F9 rfl hC rfl (by omega) (wanted_none rfl) (v := Value.int .i64 A) (fun wr hwr => by simp only [execOp, (F9.eval 180 (by omega)).trans (show _ = Value.pointer (some ⟨w.heap.size, 1, none⟩) from by simp [upd, hs0, hs3, hs5, hs16])]; simp [go_sem, (show wr.cell? ⟨w.heap.size, 1, none⟩ = some (Value.int .i64 A) from hwr.2.cell 1)]) fun F10 => ?_
  refine lyp F10 rfl hC rfl (by omega) (wanted_none rfl) (v := Value.pointer (some ⟨w.heap.size, 2, none⟩)) (fun wr hwr => by simp only [execOp, (F10.eval 3 (by omega)).trans (show _ = Value.pointer (some ⟨w.heap.size, 0, none⟩) from by simp [upd, hs0, hs3, hs5, hs16])]; simp [go_sem]) fun F11 => ?_
  refine lyp F11 rfl hC rfl (by omega) (wanted_none rfl) (v := Value.int .i64 B) (fun wr hwr => by simp only [execOp, (F11.eval 182 (by omega)).trans (show _ = Value.pointer (some ⟨w.heap.size, 2, none⟩) from by simp [upd, hs0, hs3, hs5, hs16])]; simp [go_sem, (show wr.cell? ⟨w.heap.size, 2, none⟩ = some (Value.int .i64 B) from hwr.2.cell 2)]) fun F12 => ?_
  refine lyp F12 rfl hC rfl (by omega) (wanted_none rfl) (v := Value.agg #[.int .i64 A, .int .i64 B]) (fun wr hwr => by simp only [execOp, (F12.eval 181 (by omega)).trans (show _ = Value.int .i64 A from by simp [upd, hs0, hs3, hs5, hs16]), (F12.eval 183 (by omega)).trans (show _ = Value.int .i64 B from by simp [upd, hs0, hs3, hs5, hs16])]; simp [go_sem, (F12.eval 181 (by omega)).trans (show _ = Value.int .i64 A from by simp [upd, hs0, hs3, hs5, hs16]), (F12.eval 183 (by omega)).trans (show _ = Value.int .i64 B from by simp [upd, hs0, hs3, hs5, hs16])]) fun F13 => ?_
  refine lcp F13 rfl hC rfl (by omega) (wanted_none rfl) (g := 50) (args := #[Value.pointer (some ⟨a.q1, 0, none⟩), Value.agg #[.int .i64 A, .int .i64 B]]) (by simp only [execOp, resolve, invoke, List.map_toArray, List.map_cons, List.map_nil, (F13.eval 179 (by omega)).trans (show _ = Value.pointer (some ⟨a.q1, 0, none⟩) from by simp [upd, hs0, hs3, hs5, hs16]), (F13.eval 184 (by omega)).trans (show _ = Value.agg #[.int .i64 A, .int .i64 B] from by simp [upd, hs0, hs3, hs5, hs16])]; simp [go_sem, Act.eval]) (rin_any (s := p.c.s1) _ hY0.inv.core.q1 HG.out.ok.s1 A B HW.out.1 HW.out.2) ?_
  rintro e2 w2 ⟨rfl, hq2, hst2⟩
  obtain ⟨v2, hI2, hs2⟩ := hY0.inv.qedStep true hst2 hq2
  have hY2 := hY0.step hI2 hs2
  have hC2 : Blk w2 a.pb (pairC a p) 61 ∧ Blk w2 w.heap.size (opC 10 A B true) 29 := hY2.cls
  refine ⟨_, rfl, fun F14 => ?_⟩
  refine lyp F14 rfl hC2 rfl (by omega) (wanted_none rfl) (v := Value.bool true) (fun wr hwr => by simp only [execOp, (F14.eval 173 (by omega)).trans (show _ = Value.int .i64 (p.c.s1.icode A B) from by simp [upd, hs0, hs3, hs5, hs16]), (F14.eval 185 (by omega)).trans (show _ = Value.int .i64 (p.c.s1.icode A B) from by simp [upd, hs0, hs3, hs5, hs16])]; simp [go_sem, Act.eval]) fun F15 => ?_
  refine lyp F15 rfl hC2 rfl (by omega) (wanted_none rfl) (v := Value.bool true) (fun wr hwr => by simp only [execOp, (F15.eval 186 (by omega)).trans (show _ = Value.bool true from by simp [upd, hs0, hs3, hs5, hs16])]; first | rfl | simp [go_sem]) fun F16 => ?_
  refine ⟨fun _ => hC2, ?_⟩
  refine hK _ _ ?_
  clear F0 F1 F2 F3 F4 F5 F6 F7 F8 F9 F10 F11 F12 F13 F14 F15 F16 hs0 hs3 hs5 hs16
  simp only [Act.put, List.setIfInBounds_toArray, List.set_cons_succ, List.set_cons_zero]
  have HY2 : Hid _ := hY2
  clear hK hC hC2 hY0 hq2 hst2 hI2 hs2 hY2
  go_wp2_with fail
  go_ret
  exact ⟨rfl, cpost_of HG.out HY2.out HOK.out HMD.out⟩
end Go.Proofs.YtkdndfdofhnagaaDoor
namespace Go.Proofs.YtkdndfdofhnagaaDoor
open Go.RowKit Go.PlainAid
set_option linter.unusedVariables false
set_option linter.unusedSimpArgs false
set_option maxRecDepth 100000 in
set_option maxHeartbeats 3200000 in
theorem call11f {S : Sens} {L : Nat} {a : PA} {p : PS} {n : Nat} (w : World) (h : PInv S L a p p.c w) (hG : Gd n p) (hn : n ≤ 2000) (A B : Int) (hA : IntKind.i64.wrap A = A) (hB : IntKind.i64.wrap B = B) :
    Calls Tryd.prog 30 #[.pointer (some ⟨a.pb, 0, none⟩), .agg #[.int .i64 11, .int .i64 A, .int .i64 B, .bool false]] w fun r w' => r = .returned (.bool true) ∧ CPost S L a p n (p.c.play 11 A B false) w w' := by
  have hok := CS.play_ok hG.ok 11 A B false
  have hmd := CS.play_made (c := p.c) 11 A B false
  have epl : p.c.play 11 A B false = p.c.put false p.c.b (p.c.s0.tnext 2 0 A) := rfl
  rw [epl] at hok hmd ⊢
  clear epl
  have hma : p.c.b.made ≤ 1000000 := by have := hG.made; omega
  have hgr : Below w.heap.size w (w.alloc (.cells (opC 11 A B false) 29)) := (Below.refl _ _).alloc (Nat.le_refl _) _
  have HY0 : Hid _ := (⟨h.below hgr, heap_alloc_new w _, PStp.ofBelow hgr⟩ : YSt S L a p p p.c (opC 11 A B false) w.heap.size w (w.alloc (.cells (opC 11 A B false) 29)))
  have HW : Hid _ := (⟨hA, hB⟩ : IntKind.i64.wrap A = A ∧ IntKind.i64.wrap B = B)
  have HG : Hid _ := hG
  have HOK : Hid _ := hok
  have HMD : Hid _ := hmd
  clear h hgr hG hok hmd hA hB
  go_enter Tryd.func30, Tryd.ntmps30
  go_wp2_with fail
  have eW : w.alloc (.cells #[.int .i64 11, .int .i64 A, .int .i64 B, .bool false] 29) = w.alloc (.cells (opC 11 A B false) 29) := rfl
  rw [eW]
  clear eW
  generalize w.alloc (.cells (opC 11 A B false) 29) = W0 at *
  rename_i K hK
  try rw [show ∀ a : Act, a.put none undef = a from fun _ => rfl]
  refine wp_region_mix (fun wr' => Blk wr' a.pb (pairC a p) 61 ∧ Blk wr' (w.heap.size) (opC 11 A B false) 29) (fun i => i == 8 || i == 10) 10 (by kernel_rfl) rfl (by kernel_rfl) (by kernel_rfl) (by kernel_rfl) ?_
  have hY0 : YSt S L a p (p) (p.c) (opC 11 A B false) (w.heap.size) w ({ W0 with drawn := W0.drawn + 1 } : World) := HY0.out.below ⟨rfl, rfl, rfl, Nat.le_refl _, fun _ _ => rfl⟩
  generalize ({ W0 with drawn := W0.drawn + 1 } : World) = X at *
  have hC : Blk X a.pb (pairC a p) 61 ∧ Blk X (w.heap.size) (opC 11 A B false) 29 := hY0.cls
  refine withFrP (N := 210) rfl ?_
  intro f0 F0 hff
  have hs0 : f0 0 = Value.pointer (some ⟨a.pb, 0, none⟩) := hff 0
  have hs3 : f0 3 = Value.pointer (some ⟨w.heap.size, 0, none⟩) := hff 3
  have hs5 : f0 5 = Value.int .i64 0 := hff 5
  clear hff
  refine lyp F0 rfl hC rfl (by omega) (wanted_none rfl) (v := Value.pointer (some ⟨a.pb, 0, none⟩)) (fun wr hwr => by simp only [execOp, (F0.eval 0 (by omega)).trans (show _ = Value.pointer (some ⟨a.pb, 0, none⟩) from by simp [upd, hs0, hs3, hs5])]; first | rfl | simp [go_sem]) fun F1 => ?_
  refine lyp F1 rfl hC rfl (by omega) (wanted_none rfl) (v := Value.int .i64 0) (fun wr hwr => by simp only [execOp, (F1.eval 5 (by omega)).trans (show _ = Value.int .i64 0 from by simp [upd, hs0, hs3, hs5])]; first | rfl | simp [go_sem]) fun F2 => ?_
  refine lyp F2 rfl hC rfl (by omega) (wanted_none rfl) (v := Value.pointer (some ⟨a.pb, 0, none⟩)) (fun wr hwr => by simp only [execOp, (F2.eval 189 (by omega)).trans (show _ = Value.pointer (some ⟨a.pb, 0, none⟩) from by simp [upd, hs0, hs3, hs5])]; simp [go_sem]) fun F3 => ?_
  refine lyp F3 rfl hC rfl (by omega) (wanted_none rfl) (v := Value.pointer (some ⟨a.pb, 2, none⟩)) (fun wr hwr => by simp only [execOp, (F3.eval 191 (by omega)).trans (show _ = Value.pointer (some ⟨a.pb, 0, none⟩) from by simp [upd, hs0, hs3, hs5])]; simp [go_sem]) fun F4 => ?_
  refine lyp F4 rfl hC rfl (by omega) (wanted_none rfl) (v := Value.pointer (some ⟨a.pb, 2, none⟩)) (fun wr hwr => by simp only [execOp, (F4.eval 192 (by omega)).trans (show _ = Value.pointer (some ⟨a.pb, 2, none⟩) from by simp [upd, hs0, hs3, hs5]), (F4.eval 190 (by omega)).trans (show _ = Value.int .i64 0 from by simp [upd, hs0, hs3, hs5])]; simp [go_sem, Act.eval]) fun F5 => ?_
  refine lyp F5 rfl hC rfl (by omega) (wanted_none rfl) (v := Value.pointer (some ⟨a.l0, 0, none⟩)) (fun wr hwr => by simp only [execOp, (F5.eval 193 (by omega)).trans (show _ = Value.pointer (some ⟨a.pb, 2, none⟩) from by simp [upd, hs0, hs3, hs5])]; simp [go_sem, (show wr.cell? ⟨a.pb, 2, none⟩ = some (.pointer (some ⟨a.l0, 0, none⟩)) from hwr.1.cell 2)]) fun F6 => ?_
  refine lyp F6 rfl hC rfl (by omega) (wanted_none rfl) (v := Value.pointer (some ⟨w.heap.size, 1, none⟩)) (fun wr hwr => by simp only [execOp, (F6.eval 3 (by omega)).trans (show _ = Value.pointer (some ⟨w.heap.size, 0, none⟩) from by simp [upd, hs0, hs3, hs5])]; simp [go_sem]) fun F7 => ?_
  refine lyp F7 rfl hC rfl (by omega) (wanted_none rfl) (v := Value.int .i64 A) (fun wr hwr => by simp only [execOp, (F7.eval 195 (by omega)).trans (show _ = Value.pointer (some ⟨w.heap.size, 1, none⟩) from by simp [upd, hs0, hs3, hs5])]; simp [go_sem, (show wr.cell? ⟨w.heap.size, 1, none⟩ = some (Value.int .i64 A) from hwr.2.cell 1)]) fun F8 => ?_
  refine lcp F8 rfl hC rfl (by omega) (wanted_none rfl) (g := 40) (args := #[Value.pointer (some ⟨a.l0, 0, none⟩), Value.int .i64 A]) (by simp only [execOp, resolve, invoke, List.map_toArray, List.map_cons, List.map_nil, (F8.eval 194 (by omega)).trans (show _ = Value.pointer (some ⟨a.l0, 0, none⟩) from by simp [upd, hs0, hs3, hs5]), (F8.eval 196 (by omega)).trans (show _ = Value.int .i64 A from by simp [upd, hs0, hs3, hs5])]; simp [go_sem, Act.eval]) (free_any (s := p.c.s0) X hY0.inv.core.sen hY0.inv.core.l0 HG.out.ok.s0 (hY0.inv.core.lol false) A) ?_
  rintro e1 w1 ⟨rfl, hl1, hst1⟩
  have hs1 := hY0.inv.ledStep false hst1 hl1
  have hY1 := hY0.step hs1.1 hs1.2
  have hC1 : Blk w1 a.pb (pairC a p) 61 ∧ Blk w1 w.heap.size (opC 11 A B false) 29 := hY1.cls
  refine ⟨_, rfl, fun F9 => ?_⟩
  refine lyp F9 rfl hC1 rfl (by omega) (wanted_none rfl) (v := Value.int .i64 (p.c.s0.tcode 2 A)) (fun wr hwr => by simp only [execOp, (F9.eval 197 (by omega)).trans (show _ = Value.int .i64 (p.c.s0.tcode 2 A) from by simp [upd, hs0, hs3, hs5])]; first | rfl | simp [go_sem]) fun F10 => ?_
  refine ⟨fun _ => hC1, ?_⟩
  refine hK _ _ ?_
  clear F0 F1 F2 F3 F4 F5 F6 F7 F8 F9 F10 hs0 hs3 hs5
  simp only [Act.put, List.setIfInBounds_toArray, List.set_cons_succ, List.set_cons_zero]
  have HY1 : Hid _ := hY1
  clear hK hC hC1 hY0 hl1 hst1 hs1 hY1
  go_wp2_with fail
  rename_i K hK
  try rw [show ∀ a : Act, a.put none undef = a from fun _ => rfl]
  refine wp_region_mix (fun wr' => Blk wr' a.pb (pairC a p) 61 ∧ Blk wr' (w.heap.size) (opC 11 A B false) 29) (fun i => i == 1 || i == 10 || i == 13) 13 (by kernel_rfl) rfl (by kernel_rfl) (by kernel_rfl) (by kernel_rfl) ?_
  have hY0 : YSt S L a p ({ p with c := p.c.put false p.c.b (p.c.s0.tnext 2 0 A) }) (p.c) (opC 11 A B false) (w.heap.size) w ({ w1 with drawn := w1.drawn + 1 } : World) := HY1.out.below ⟨rfl, rfl, rfl, Nat.le_refl _, fun _ _ => rfl⟩
  generalize ({ w1 with drawn := w1.drawn + 1 } : World) = X at *
  have hC : Blk X a.pb (pairC a p) 61 ∧ Blk X (w.heap.size) (opC 11 A B false) 29 := hY0.cls
  refine withFrP (N := 210) rfl ?_
  intro f0 F0 hff
  have hs0 : f0 0 = Value.pointer (some ⟨a.pb, 0, none⟩) := hff 0
  have hs3 : f0 3 = Value.pointer (some ⟨w.heap.size, 0, none⟩) := hff 3
  have hs5 : f0 5 = Value.int .i64 0 := hff 5
  have hs17 : f0 17 = Value.int .i64 (p.c.s0.tcode 2 A) := hff 17
  clear hff
  refine lyp F0 rfl hC rfl (by omega) (wanted_none rfl) (v := Value.int .i64 (p.c.s0.tcode 2 A)) (fun wr hwr => by simp only [execOp, (F0.eval 17 (by omega)).trans (show _ = Value.int .i64 (p.c.s0.tcode 2 A) from by simp [upd, hs0, hs3, hs5, hs17])]; first | rfl | simp [go_sem]) fun F1 => ?_
  refine lcp F1 rfl hC rfl (by omega) (wanted_none rfl) (g := 16) (args := #[Value.int .i64 (p.c.s0.tcode 2 A)]) (by simp only [execOp, resolve, invoke, List.map_toArray, List.map_cons, List.map_nil, (F1.eval 198 (by omega)).trans (show _ = Value.int .i64 (p.c.s0.tcode 2 A) from by simp [upd, hs0, hs3, hs5, hs17])]; simp [go_sem, Act.eval]) (num_any (p.c.s0.tcode 2 A) X) ?_
  rintro e3 w3 ⟨rfl, hw3⟩
  subst hw3
  refine ⟨_, rfl, fun F2 => ?_⟩
  refine lyp F2 rfl hC rfl (by omega) (wanted_none rfl) (v := Value.pointer (some ⟨a.pb, 0, none⟩)) (fun wr hwr => by simp only [execOp, (F2.eval 0 (by omega)).trans (show _ = Value.pointer (some ⟨a.pb, 0, none⟩) from by simp [upd, hs0, hs3, hs5, hs17])]; first | rfl | simp [go_sem]) fun F3 => ?_
  refine lyp F3 rfl hC rfl (by omega) (wanted_none rfl) (v := Value.int .i64 0) (fun wr hwr => by simp only [execOp, (F3.eval 5 (by omega)).trans (show _ = Value.int .i64 0 from by simp [upd, hs0, hs3, hs5, hs17])]; first | rfl | simp [go_sem]) fun F4 => ?_
  refine lyp F4 rfl hC rfl (by omega) (wanted_none rfl) (v := Value.pointer (some ⟨a.pb, 0, none⟩)) (fun wr hwr => by simp only [execOp, (F4.eval 200 (by omega)).trans (show _ = Value.pointer (some ⟨a.pb, 0, none⟩) from by simp [upd, hs0, hs3, hs5, hs17])]; simp [go_sem]) fun F5 => ?_
  refine lyp F5 rfl hC rfl (by omega) (wanted_none rfl) (v := Value.pointer (some ⟨a.pb, 4, none⟩)) (fun wr hwr => by simp only [execOp, (F5.eval 202 (by omega)).trans (show _ = Value.pointer (some ⟨a.pb, 0, none⟩) from by simp [upd, hs0, hs3, hs5, hs17])]; simp [go_sem]) fun F6 => ?_
  refine lyp F6 rfl hC rfl (by omega) (wanted_none rfl) (v := Value.pointer (some ⟨a.pb, 4, none⟩)) (fun wr hwr => by simp only [execOp, (F6.eval 203 (by omega)).trans (show _ = Value.pointer (some ⟨a.pb, 4, none⟩) from by simp [upd, hs0, hs3, hs5, hs17]), (F6.eval 201 (by omega)).trans (show _ = Value.int .i64 0 from by simp [upd, hs0, hs3, hs5, hs17])]; simp [go_sem, Act.eval]) fun F7 => ?_
  refine lyp F7 rfl hC rfl (by omega) (wanted_none rfl) (v := Value.pointer (some ⟨a.q0, 0, none⟩)) (fun wr hwr => by simp only [execOp, (F7.eval 204 (by omega)).trans (show _ = Value.pointer (some ⟨a.pb, 4, none⟩) from by simp [upd, hs0, hs3, hs5, hs17])]; simp [go_sem, (show wr.cell? ⟨a.pb, 4, none⟩ = some (.pointer (some ⟨a.q0, 0, none⟩)) from hwr.1.cell 4)]) fun F8 => ?_
  refine lyp F8 rfl hC rfl (by omega) (wanted_none rfl) (v := Value.pointer (some ⟨w.heap.size, 1, none⟩)) (fun wr hwr => by simp only [execOp, (F8.eval 3 (by omega)).trans (show _ = Value.pointer (some ⟨w.heap.size, 0, none⟩) from by simp [upd, hs0, hs3, hs5, hs17])]; simp [go_sem]) fun F9 => ?_
  refine lyp F9 rfl hC rfl (by omega) (wanted_none rfl) (v := Value.int .i64 A) (fun wr hwr => by simp only [execOp, (F9.eval 206 (by omega)).trans (show _ = Value.pointer (some ⟨w.heap.size, 1, none⟩) from by simp [upd, hs0, hs3, hs5, hs17])]; simp [go_sem, (show wr.cell? ⟨w.heap.size, 1, none⟩ = some (Value.int .i64 A) from hwr.2.cell 1)]) fun F10 => ?_
  refine lcp F10 rfl hC rfl (by omega) (wanted_none rfl) (g := 51) (args := #[Value.pointer (some ⟨a.q0, 0, none⟩), Value.int .i64 4, Value.int .i64 A]) (by simp only [execOp, resolve, invoke, List.map_toArray, List.map_cons, List.map_nil, (F10.eval 205 (by omega)).trans (show _ = Value.pointer (some ⟨a.q0, 0, none⟩) from by simp [upd, hs0, hs3, hs5, hs17]), (F10.eval 207 (by omega)).trans (show _ = Value.int .i64 A from by simp [upd, hs0, hs3, hs5, hs17])]; simp [go_sem, Act.eval]) (rTurn_any (s := p.c.s0) _ hY0.inv.core.q0 HG.out.ok.s0 4 A) ?_
  rintro e2 w2 ⟨rfl, hq2, hst2⟩
  obtain ⟨v2, hI2, hs2⟩ := hY0.inv.qedStep false (s' := p.c.s0.tnext 2 0 A) hst2 hq2
  have hY2 := hY0.step hI2 hs2
  have hC2 : Blk w2 a.pb (pairC a p) 61 ∧ Blk w2 w.heap.size (opC 11 A B false) 29 := hY2.cls
  rw [show fromOf 4 = 2 from rfl]
  refine ⟨_, rfl, fun F11 => ?_⟩
  refine lyp F11 rfl hC2 rfl (by omega) (wanted_none rfl) (v := Value.bool true) (fun wr hwr => by simp only [execOp, (F11.eval 199 (by omega)).trans (show _ = Value.int .i64 (p.c.s0.tcode 2 A) from by simp [upd, hs0, hs3, hs5, hs17]), (F11.eval 208 (by omega)).trans (show _ = Value.int .i64 (p.c.s0.tcode 2 A) from by simp [upd, hs0, hs3, hs5, hs17])]; simp [go_sem, Act.eval]) fun F12 => ?_
  refine lyp F12 rfl hC2 rfl (by omega) (wanted_none rfl) (v := Value.bool true) (fun wr hwr => by simp only [execOp, (F12.eval 209 (by omega)).trans (show _ = Value.bool true from by simp [upd, hs0, hs3, hs5, hs17])]; first | rfl | simp [go_sem]) fun F13 => ?_
  refine ⟨fun _ => hC2, ?_⟩
  refine hK _ _ ?_
  clear F0 F1 F2 F3 F4 F5 F6 F7 F8 F9 F10 F11 F12 F13 hs0 hs3 hs5 hs17
  simp only [Act.put, List.setIfInBounds_toArray, List.set_cons_succ, List.set_cons_zero]
  have HY2 : Hid _ := hY2
  clear hK hC hC2 hY0 hq2 hst2 hI2 hs2 hY2
  go_wp2_with fail
  go_ret
  exact ⟨rfl, cpost_of HG.out HY2.out HOK.out HMD.out⟩
set_option maxRecDepth 100000 in
set_option maxHeartbeats 3200000 in
theorem call11t {S : Sens} {L : Nat} {a : PA} {p : PS} {n : Nat} (w : World) (h : PInv S L a p p.c w) (hG : Gd n p) (hn : n ≤ 2000) (A B : Int) (hA : IntKind.i64.wrap A = A) (hB : IntKind.i64.wrap B = B) :
    Calls Tryd.prog 30 #[.pointer (some ⟨a.pb, 0, none⟩), .agg #[.int .i64 11, .int .i64 A, .int .i64 B, .bool true]] w fun r w' => r = .returned (.bool true) ∧ CPost S L a p n (p.c.play 11 A B true) w w' := by
  have hok := CS.play_ok hG.ok 11 A B true
  have hmd := CS.play_made (c := p.c) 11 A B true
  have epl : p.c.play 11 A B true = p.c.put true p.c.b (p.c.s1.tnext 2 0 A) := rfl
  rw [epl] at hok hmd ⊢
  clear epl
  have hma : p.c.b.made ≤ 1000000 := by have := hG.made; omega
  have hgr : Below w.heap.size w (w.alloc (.cells (opC 11 A B true) 29)) := (Below.refl _ _).alloc (Nat.le_refl _) _
  have HY0 : Hid _ := (⟨h.below hgr, heap_alloc_new w _, PStp.ofBelow hgr⟩ : YSt S L a p p p.c (opC 11 A B true) w.heap.size w (w.alloc (.cells (opC 11 A B true) 29)))
  have HW : Hid _ := (⟨hA, hB⟩ : IntKind.i64.wrap A = A ∧ IntKind.i64.wrap B = B)
  have HG : Hid _ := hG
  have HOK : Hid _ := hok
  have HMD : Hid _ := hmd
  clear h hgr hG hok hmd hA hB
  go_enter Tryd.func30, Tryd.ntmps30
  go_wp2_with fail
  have eW : w.alloc (.cells #[.int .i64 11, .int .i64 A, .int .i64 B, .bool true] 29) = w.alloc (.cells (opC 11 A B true) 29) := rfl
  rw [eW]
  clear eW
  generalize w.alloc (.cells (opC 11 A B true) 29) = W0 at *
  rename_i K hK
  try rw [show ∀ a : Act, a.put none undef = a from fun _ => rfl]
  refine wp_region_mix (fun wr' => Blk wr' a.pb (pairC a p) 61 ∧ Blk wr' (w.heap.size) (opC 11 A B true) 29) (fun i => i == 8 || i == 10) 10 (by kernel_rfl) rfl (by kernel_rfl) (by kernel_rfl) (by kernel_rfl) ?_
  have hY0 : YSt S L a p (p) (p.c) (opC 11 A B true) (w.heap.size) w ({ W0 with drawn := W0.drawn + 1 } : World) := HY0.out.below ⟨rfl, rfl, rfl, Nat.le_refl _, fun _ _ => rfl⟩
  generalize ({ W0 with drawn := W0.drawn + 1 } : World) = X at *
  have hC : Blk X a.pb (pairC a p) 61 ∧ Blk X (w.heap.size) (opC 11 A B true) 29 := hY0.cls
  refine withFrP (N := 210) rfl ?_
  intro f0 F0 hff
  have hs0 : f0 0 = Value.pointer (some ⟨a.pb, 0, none⟩) := hff 0
  have hs3 : f0 3 = Value.pointer (some ⟨w.heap.size, 0, none⟩) := hff 3
  have hs5 : f0 5 = Value.int .i64 1 := hff 5
  clear hff
  refine lyp F0 rfl hC rfl (by omega) (wanted_none rfl) (v := Value.pointer (some ⟨a.pb, 0, none⟩)) (fun wr hwr => by simp only [execOp, (F0.eval 0 (by omega)).trans (show _ = Value.pointer (some ⟨a.pb, 0, none⟩) from by simp [upd, hs0, hs3, hs5])]; first | rfl | simp [go_sem]) fun F1 => ?_
  refine lyp F1 rfl hC rfl (by omega) (wanted_none rfl) (v := Value.int .i64 1) (fun wr hwr => by simp only [execOp, (F1.eval 5 (by omega)).trans (show _ = Value.int .i64 1 from by simp [upd, hs0, hs3, hs5])]; first | rfl | simp [go_sem]) fun F2 => ?_
  refine lyp F2 rfl hC rfl (by omega) (wanted_none rfl) (v := Value.pointer (some ⟨a.pb, 0, none⟩)) (fun wr hwr => by simp only [execOp, (F2.eval 189 (by omega)).trans (show _ = Value.pointer (some ⟨a.pb, 0, none⟩) from by simp [upd, hs0, hs3, hs5])]; simp [go_sem]) fun F3 => ?_
  refine lyp F3 rfl hC rfl (by omega) (wanted_none rfl) (v := Value.pointer (some ⟨a.pb, 2, none⟩)) (fun wr hwr => by simp only [execOp, (F3.eval 191 (by omega)).trans (show _ = Value.pointer (some ⟨a.pb, 0, none⟩) from by simp [upd, hs0, hs3, hs5])]; simp [go_sem]) fun F4 => ?_
  refine lyp F4 rfl hC rfl (by omega) (wanted_none rfl) (v := Value.pointer (some ⟨a.pb, 3, none⟩)) (fun wr hwr => by simp only [execOp, (F4.eval 192 (by omega)).trans (show _ = Value.pointer (some ⟨a.pb, 2, none⟩) from by simp [upd, hs0, hs3, hs5]), (F4.eval 190 (by omega)).trans (show _ = Value.int .i64 1 from by simp [upd, hs0, hs3, hs5])]; simp [go_sem, Act.eval]) fun F5 => ?_
  refine lyp F5 rfl hC rfl (by omega) (wanted_none rfl) (v := Value.pointer (some ⟨a.l1, 0, none⟩)) (fun wr hwr => by simp only [execOp, (F5.eval 193 (by omega)).trans (show _ = Value.pointer (some ⟨a.pb, 3, none⟩) from by simp [upd, hs0, hs3, hs5])]; simp [go_sem, (show wr.cell? ⟨a.pb, 3, none⟩ = some (.pointer (some ⟨a.l1, 0, none⟩)) from hwr.1.cell 3)]) fun F6 => ?_
  refine lyp F6 rfl hC rfl (by omega) (wanted_none rfl) (v := Value.pointer (some ⟨w.heap.size, 1, none⟩)) (fun wr hwr => by simp only [execOp, (F6.eval 3 (by omega)).trans (show _ = Value.pointer (some ⟨w.heap.size, 0, none⟩) from by simp [upd, hs0, hs3, hs5])]; simp [go_sem]) fun F7 => ?_
  refine lyp F7 rfl hC rfl (by omega) (wanted_none rfl) (v := Value.int .i64 A) (fun wr hwr => by simp only [execOp, (F7.eval 195 (by omega)).trans (show _ = Value.pointer (some ⟨w.heap.size, 1, none⟩) from by simp [upd, hs0, hs3, hs5])]; simp [go_sem, (show wr.cell? ⟨w.heap.size, 1, none⟩ = some (Value.int .i64 A) from hwr.2.cell 1)]) fun F8 => ?_
  refine lcp F8 rfl hC rfl (by omega) (wanted_none rfl) (g := 40) (args := #[Value.pointer (some ⟨a.l1, 0, none⟩), Value.int .i64 A]) (by simp only [execOp, resolve, invoke, List.map_toArray, List.map_cons, List.map_nil, (F8.eval 194 (by omega)).trans (show _ = Value.pointer (some ⟨a.l1, 0, none⟩) from by simp [upd, hs0, hs3, hs5]), (F8.eval 196 (by omega)).trans (show _ = Value.int .i64 A from by simp [upd, hs0, hs3, hs5])]; simp [go_sem, Act.eval]) (free_any (s := p.c.s1) X hY0.inv.core.sen hY0.inv.core.l1 HG.out.ok.s1 (hY0.inv.core.lol true) A) ?_
  rintro e1 w1 ⟨rfl, hl1, hst1⟩
  have hs1 := hY0.inv.ledStep true hst1 hl1
  have hY1 := hY0.step hs1.1 hs1.2
  have hC1 : Blk w1 a.pb (pairC a p) 61 ∧ Blk w1 w.heap.size (opC 11 A B true) 29 := hY1.cls
  refine ⟨_, rfl, fun F9 => ?_⟩
  refine lyp F9 rfl hC1 rfl (by omega) (wanted_none rfl) (v := Value.int .i64 (p.c.s1.tcode 2 A)) (fun wr hwr => by simp only [execOp, (F9.eval 197 (by omega)).trans (show _ = Value.int .i64 (p.c.s1.tcode 2 A) from by simp [upd, hs0, hs3, hs5])]; first | rfl | simp [go_sem]) fun F10 => ?_
  refine ⟨fun _ => hC1, ?_⟩
  refine hK _ _ ?_
  clear F0 F1 F2 F3 F4 F5 F6 F7 F8 F9 F10 hs0 hs3 hs5
  simp only [Act.put, List.setIfInBounds_toArray, List.set_cons_succ, List.set_cons_zero]
  have HY1 : Hid _ := hY1
  clear hK hC hC1 hY0 hl1 hst1 hs1 hY1
  go_wp2_with fail
  rename_i K hK
  try rw [show ∀ a : Act, a.put none undef = a from fun _ => rfl]
  refine wp_region_mix (fun wr' => Blk wr' a.pb (pairC a p) 61 ∧ Blk wr' (w.heap.size) (opC 11 A B true) 29) (fun i => i == 1 || i == 10 || i == 13) 13 (by kernel_rfl) rfl (by kernel_rfl) (by kernel_rfl) (by kernel_rfl) ?_
  have hY0 : YSt S L a p ({ p with c := p.c.put true p.c.b (p.c.s1.tnext 2 0 A) }) (p.c) (opC 11 A B true) (w.heap.size) w ({ w1 with drawn := w1.drawn + 1 } : World) := HY1.out.below ⟨rfl, rfl, rfl, Nat.le_refl _, fun _ _ => rfl⟩
  generalize ({ w1 with drawn := w1.drawn + 1 } : World) = X at *
  have hC : Blk X a.pb (pairC a p) 61 ∧ Blk X (w.heap.size) (opC 11 A B true) 29 := hY0.cls
  refine withFrP (N := 210) rfl ?_
  intro f0 F0 hff
  have hs0 : f0 0 = Value.pointer (some ⟨a.pb, 0, none⟩) := hff 0
  have hs3 : f0 3 = Value.pointer (some ⟨w.heap.size, 0, none⟩) := hff 3
  have hs5 : f0 5 = Value.int .i64 1 := hff 5
  have hs17 : f0 17 = Value.int .i64 (p.c.s1.tcode 2 A) := hff 17
  clear hff
  refine lyp F0 rfl hC rfl (by omega) (wanted_none rfl) (v := Value.int .i64 (p.c.s1.tcode 2 A)) (fun wr hwr => by simp only [execOp, (F0.eval 17 (by omega)).trans (show _ = Value.int .i64 (p.c.s1.tcode 2 A) from by simp [upd, hs0, hs3, hs5, hs17])]; first | rfl | simp [go_sem]) fun F1 => ?_
  refine lcp F1 rfl hC rfl (by omega) (wanted_none rfl) (g := 16) (args := #[Value.int .i64 (p.c.s1.tcode 2 A)]) (by simp only [execOp, resolve, invoke, List.map_toArray, List.map_cons, List.map_nil, (F1.eval 198 (by omega)).trans (show _ = Value.int .i64 (p.c.s1.tcode 2 A) from by simp [upd, hs0, hs3, hs5, hs17])]; simp [go_sem, Act.eval]) (num_any (p.c.s1.tcode 2 A) X) ?_
  rintro e3 w3 ⟨rfl, hw3⟩
  subst hw3
  refine ⟨_, rfl, fun F2 => ?_⟩
  refine lyp F2 rfl hC rfl (by omega) (wanted_none rfl) (v := Value.pointer (some ⟨a.pb, 0, none⟩)) (fun wr hwr => by simp only [execOp, (F2.eval 0 (by omega)).trans (show _ = Value.pointer (some ⟨a.pb, 0, none⟩) from by simp [upd, hs0, hs3, hs5, hs17])]; first | rfl | simp [go_sem]) fun F3 => ?_
  refine lyp F3 rfl hC rfl (by omega) (wanted_none rfl) (v := Value.int .i64 1) (fun wr hwr => by simp only [execOp, (F3.eval 5 (by omega)).trans (show _ = Value.int .i64 1 from by simp [upd, hs0, hs3, hs5, hs17])]; first | rfl | simp [go_sem]) fun F4 => ?_
  refine lyp F4 rfl hC rfl (by omega) (wanted_none rfl) (v := Value.pointer (some ⟨a.pb, 0, none⟩)) (fun wr hwr => by simp only [execOp, (F4.eval 200 (by omega)).trans (show _ = Value.pointer (some ⟨a.pb, 0, none⟩) from by simp [upd, hs0, hs3, hs5, hs17])]; simp [go_sem]) fun F5 => ?_
  refine lyp F5 rfl hC rfl (by omega) (wanted_none rfl) (v := Value.pointer (some ⟨a.pb, 4, none⟩)) (fun wr hwr => by simp only [execOp, (F5.eval 202 (by omega)).trans (show _ = Value.pointer (some ⟨a.pb, 0, none⟩) from by simp [upd, hs0, hs3, hs5, hs17])]; simp [go_sem]) fun F6 => ?_
  refine lyp F6 rfl hC rfl (by omega) (wanted_none rfl) (v := Value.pointer (some ⟨a.pb, 5, none⟩)) (fun wr hwr => by simp only [execOp, (F6.eval 203 (by omega)).trans (show _ = Value.pointer (some ⟨a.pb, 4, none⟩) from by simp [upd, hs0, hs3, hs5, hs17]), (F6.eval 201 (by omega)).trans (show _ = Value.int .i64 1 from by simp [upd, hs0, hs3, hs5, hs17])]; simp [go_sem, Act.eval]) fun F7 => ?_
  refine lyp F7 rfl hC rfl (by omega) (wanted_none rfl) (v := Value.pointer (some ⟨a.q1, 0, none⟩)) (fun wr hwr => by simp only [execOp, (F7.eval 204 (by omega)).trans (show _ = Value.pointer (some ⟨a.pb, 5, none⟩) from by simp [upd, hs0, hs3, hs5, hs17])]; simp [go_sem, (show wr.cell? ⟨a.pb, 5, none⟩ = some (.pointer (some ⟨a.q1, 0, none⟩)) from hwr.1.cell 5)]) fun F8 => ?_
  refine lyp F8 rfl hC rfl (by omega) (wanted_none rfl) (v := Value.pointer (some ⟨w.heap.size, 1, none⟩)) (fun wr hwr => by simp only [execOp, (F8.eval 3 (by omega)).trans (show _ = Value.pointer (some ⟨w.heap.size, 0, none⟩) from by simp [upd, hs0, hs3, hs5, hs17])]; simp [go_sem]) fun F9 => ?_
  refine lyp F9 rfl hC rfl (by omega) (wanted_none rfl) (v := Value.int .i64 A) (fun wr hwr => by simp only [execOp, (F9.eval 206 (by omega)).trans (show _ = Value.pointer (some ⟨w.heap.size, 1, none⟩) from by simp [upd, hs0, hs3, hs5, hs17])]; simp [go_sem, (show wr.cell? ⟨w.heap.size, 1, none⟩ = some (Value.int .i64 A) from hwr.2.cell 1)]) fun F10 => ?_
  refine lcp F10 rfl hC rfl (by omega) (wanted_none rfl) (g := 51) (args := #[Value.pointer (some ⟨a.q1, 0, none⟩), Value.int .i64 4, Value.int .i64 A]) (by simp only [execOp, resolve, invoke, List.map_toArray, List.map_cons, List.map_nil, (F10.eval 205 (by omega)).trans (show _ = Value.pointer (some ⟨a.q1, 0, none⟩) from by simp [upd, hs0, hs3, hs5, hs17]), (F10.eval 207 (by omega)).trans (show _ = Value.int .i64 A from by simp [upd, hs0, hs3, hs5, hs17])]; simp [go_sem, Act.eval]) (rTurn_any (s := p.c.s1) _ hY0.inv.core.q1 HG.out.ok.s1 4 A) ?_
  rintro e2 w2 ⟨rfl, hq2, hst2⟩
  obtain ⟨v2, hI2, hs2⟩ := hY0.inv.qedStep true (s' := p.c.s1.tnext 2 0 A) hst2 hq2
  have hY2 := hY0.step hI2 hs2
  have hC2 : Blk w2 a.pb (pairC a p) 61 ∧ Blk w2 w.heap.size (opC 11 A B true) 29 := hY2.cls
  rw [show fromOf 4 = 2 from rfl]
  refine ⟨_, rfl, fun F11 => ?_⟩
  refine lyp F11 rfl hC2 rfl (by omega) (wanted_none rfl) (v := Value.bool true) (fun wr hwr => by simp only [execOp, (F11.eval 199 (by omega)).trans (show _ = Value.int .i64 (p.c.s1.tcode 2 A) from by simp [upd, hs0, hs3, hs5, hs17]), (F11.eval 208 (by omega)).trans (show _ = Value.int .i64 (p.c.s1.tcode 2 A) from by simp [upd, hs0, hs3, hs5, hs17])]; simp [go_sem, Act.eval]) fun F12 => ?_
  refine lyp F12 rfl hC2 rfl (by omega) (wanted_none rfl) (v := Value.bool true) (fun wr hwr => by simp only [execOp, (F12.eval 209 (by omega)).trans (show _ = Value.bool true from by simp [upd, hs0, hs3, hs5, hs17])]; first | rfl | simp [go_sem]) fun F13 => ?_
  refine ⟨fun _ => hC2, ?_⟩
  refine hK _ _ ?_
  clear F0 F1 F2 F3 F4 F5 F6 F7 F8 F9 F10 F11 F12 F13 hs0 hs3 hs5 hs17
  simp only [Act.put, List.setIfInBounds_toArray, List.set_cons_succ, List.set_cons_zero]
  have HY2 : Hid _ := hY2
  clear hK hC hC2 hY0 hq2 hst2 hI2 hs2 hY2
  go_wp2_with fail
  go_ret
  exact ⟨rfl, cpost_of HG.out HY2.out HOK.out HMD.out⟩
end Go.Proofs.YtkdndfdofhnagaaDoor
