import Derived.Test.YtkdndfdofhnagaaDoorJJ
namespace Go.Proofs.YtkdndfdofhnagaaDoor
open Go.RowKit Go.PlainAid
set_option linter.unusedVariables false
set_option linter.unusedSimpArgs false
theorem YSt.fresh {S : Sens} {L : Nat} {a : PA} {p p' : PS} {cr : CS} {C : Array Value} {ob : Nat} {w wr : World} {u : Value} {m H : Nat} {xs : List Value} (h : YSt S L a p p' cr C ob w wr) (ho : wr.ownsRow H 3 1 u m xs) (hz : ∀ k, p'.z.has k → k < H) : ∀ k, u.ownBlock = some k → ¬ a.has p' k := by
  intro k hk
  obtain ⟨cur, hB⟩ := ownsRow_type ho hk
  rintro (e | e | e)
  · exact Blk.ne_t hB h.inv.box (by decide) e
  · exact (h.inv.core.typ e hB).1 rfl
  · have h1 := hz k e
    have h2 := (ownsRow_lt ho hk).1
    omega
set_option maxRecDepth 100000 in
set_option maxHeartbeats 3200000 in
theorem call6f {S : Sens} {L : Nat} {a : PA} {p : PS} {n : Nat} (w : World) (h : PInv S L a p p.c w) (hG : Gd n p) (hn : n ≤ 2000) (A B : Int) (hA : IntKind.i64.wrap A = A) (hB : IntKind.i64.wrap B = B) :
    Calls Tryd.prog 30 #[.pointer (some ⟨a.pb, 0, none⟩), .agg #[.int .i64 6, .int .i64 A, .int .i64 B, .bool false]] w fun r w' => r = .returned (.bool true) ∧ CPost S L a p n (p.c.play 6 A B false) w w' := by
  have hok := CS.play_ok hG.ok 6 A B false
  have hmd := CS.play_made (c := p.c) 6 A B false
  have epl : p.c.play 6 A B false = p.c.put false { p.c.b with L := (xrun A p.c.s0 p.c.b.L).left } (xrun A p.c.s0 p.c.b.L).s := rfl
  rw [epl] at hok hmd ⊢
  clear epl
  have hma : p.c.b.made ≤ 1000000 := by have := hG.made; omega
  have hgr : Below w.heap.size w (w.alloc (.cells (opC 6 A B false) 29)) := (Below.refl _ _).alloc (Nat.le_refl _) _
  have HY0 : Hid _ := (⟨h.below hgr, heap_alloc_new w _, PStp.ofBelow hgr⟩ : YSt S L a p p p.c (opC 6 A B false) w.heap.size w (w.alloc (.cells (opC 6 A B false) 29)))
  have HW : Hid _ := (⟨hA, hB⟩ : IntKind.i64.wrap A = A ∧ IntKind.i64.wrap B = B)
  have HG : Hid _ := hG
  have HOK : Hid _ := hok
  have HMD : Hid _ := hmd
  clear h hgr hG hok hmd hA hB
  go_enter Tryd.func30, Tryd.ntmps30
  go_wp2_with fail
  have eW : w.alloc (.cells #[.int .i64 6, .int .i64 A, .int .i64 B, .bool false] 29) = w.alloc (.cells (opC 6 A B false) 29) := rfl
  rw [eW]
  clear eW
  generalize w.alloc (.cells (opC 6 A B false) 29) = W0 at *
  rename_i K hK
  try rw [show ∀ a : Act, a.put none undef = a from fun _ => rfl]
  refine wp_region_mix (fun wr' => Blk wr' a.pb (pairC a p) 61 ∧ Blk wr' (w.heap.size) (opC 6 A B false) 29) (fun i => i == 12 || i == 14) 14 (by kernel_rfl) rfl (by kernel_rfl) (by kernel_rfl) (by kernel_rfl) ?_
  have hY0 : YSt S L a p (p) (p.c) (opC 6 A B false) (w.heap.size) w ({ W0 with drawn := W0.drawn + 1 } : World) := HY0.out.below ⟨rfl, rfl, rfl, Nat.le_refl _, fun _ _ => rfl⟩
  generalize ({ W0 with drawn := W0.drawn + 1 } : World) = X1 at *
  have hC : Blk X1 a.pb (pairC a p) 61 ∧ Blk X1 (w.heap.size) (opC 6 A B false) 29 := hY0.cls
  refine withFrP (N := 210) rfl ?_
  intro f0 F0 hff
  have hs0 : f0 0 = Value.pointer (some ⟨a.pb, 0, none⟩) := hff 0
  have hs3 : f0 3 = Value.pointer (some ⟨w.heap.size, 0, none⟩) := hff 3
  have hs5 : f0 5 = Value.int .i64 0 := hff 5
  clear hff
  refine lyp F0 rfl hC rfl (by omega) (wanted_none rfl) (v := Value.pointer (some ⟨a.pb, 0, none⟩)) (fun wr hwr => by simp only [execOp, (F0.eval 0 (by omega)).trans (show _ = Value.pointer (some ⟨a.pb, 0, none⟩) from by simp [upd, hs0, hs3, hs5])]; first | rfl | simp [go_sem]) fun F1 => ?_
  refine lyp F1 rfl hC rfl (by omega) (wanted_none rfl) (v := Value.pointer (some ⟨a.pb, 0, none⟩)) (fun wr hwr => by simp only [execOp, (F1.eval 80 (by omega)).trans (show _ = Value.pointer (some ⟨a.pb, 0, none⟩) from by simp [upd, hs0, hs3, hs5])]; simp [go_sem]) fun F2 => ?_
  refine lyp F2 rfl hC rfl (by omega) (wanted_none rfl) (v := Value.pointer (some ⟨a.pb, 0, none⟩)) (fun wr hwr => by simp only [execOp, (F2.eval 81 (by omega)).trans (show _ = Value.pointer (some ⟨a.pb, 0, none⟩) from by simp [upd, hs0, hs3, hs5])]; simp [go_sem]) fun F3 => ?_
  refine lyp F3 rfl hC rfl (by omega) (wanted_none rfl) (v := Value.pointer (some ⟨a.hb, 0, none⟩)) (fun wr hwr => by simp only [execOp, (F3.eval 82 (by omega)).trans (show _ = Value.pointer (some ⟨a.pb, 0, none⟩) from by simp [upd, hs0, hs3, hs5])]; simp [go_sem, (show wr.cell? ⟨a.pb, 0, none⟩ = some (.pointer (some ⟨a.hb, 0, none⟩)) from hwr.1.cell 0)]) fun F4 => ?_
  refine lyp F4 rfl hC rfl (by omega) (wanted_none rfl) (v := Value.pointer (some ⟨a.pb, 0, none⟩)) (fun wr hwr => by simp only [execOp, (F4.eval 0 (by omega)).trans (show _ = Value.pointer (some ⟨a.pb, 0, none⟩) from by simp [upd, hs0, hs3, hs5])]; first | rfl | simp [go_sem]) fun F5 => ?_
  refine lyp F5 rfl hC rfl (by omega) (wanted_none rfl) (v := Value.int .i64 0) (fun wr hwr => by simp only [execOp, (F5.eval 5 (by omega)).trans (show _ = Value.int .i64 0 from by simp [upd, hs0, hs3, hs5])]; first | rfl | simp [go_sem]) fun F6 => ?_
  refine lyp F6 rfl hC rfl (by omega) (wanted_none rfl) (v := Value.pointer (some ⟨a.pb, 0, none⟩)) (fun wr hwr => by simp only [execOp, (F6.eval 84 (by omega)).trans (show _ = Value.pointer (some ⟨a.pb, 0, none⟩) from by simp [upd, hs0, hs3, hs5])]; simp [go_sem]) fun F7 => ?_
  refine lyp F7 rfl hC rfl (by omega) (wanted_none rfl) (v := Value.pointer (some ⟨a.pb, 2, none⟩)) (fun wr hwr => by simp only [execOp, (F7.eval 86 (by omega)).trans (show _ = Value.pointer (some ⟨a.pb, 0, none⟩) from by simp [upd, hs0, hs3, hs5])]; simp [go_sem]) fun F8 => ?_
  refine lyp F8 rfl hC rfl (by omega) (wanted_none rfl) (v := Value.pointer (some ⟨a.pb, 2, none⟩)) (fun wr hwr => by simp only [execOp, (F8.eval 87 (by omega)).trans (show _ = Value.pointer (some ⟨a.pb, 2, none⟩) from by simp [upd, hs0, hs3, hs5]), (F8.eval 85 (by omega)).trans (show _ = Value.int .i64 0 from by simp [upd, hs0, hs3, hs5])]; simp [go_sem, Act.eval]) fun F9 => ?_
  refine lyp F9 rfl hC rfl (by omega) (wanted_none rfl) (v := Value.pointer (some ⟨a.l0, 0, none⟩)) (fun wr hwr => by simp only [execOp, (F9.eval 88 (by omega)).trans (show _ = Value.pointer (some ⟨a.pb, 2, none⟩) from by simp [upd, hs0, hs3, hs5])]; simp [go_sem, (show wr.cell? ⟨a.pb, 2, none⟩ = some (.pointer (some ⟨a.l0, 0, none⟩)) from hwr.1.cell 2)]) fun F10 => ?_
  refine lyp F10 rfl hC rfl (by omega) (wanted_none rfl) (v := Value.pointer (some ⟨w.heap.size, 1, none⟩)) (fun wr hwr => by simp only [execOp, (F10.eval 3 (by omega)).trans (show _ = Value.pointer (some ⟨w.heap.size, 0, none⟩) from by simp [upd, hs0, hs3, hs5])]; simp [go_sem]) fun F11 => ?_
  refine lyp F11 rfl hC rfl (by omega) (wanted_none rfl) (v := Value.int .i64 A) (fun wr hwr => by simp only [execOp, (F11.eval 90 (by omega)).trans (show _ = Value.pointer (some ⟨w.heap.size, 1, none⟩) from by simp [upd, hs0, hs3, hs5])]; simp [go_sem, (show wr.cell? ⟨w.heap.size, 1, none⟩ = some (Value.int .i64 A) from hwr.2.cell 1)]) fun F12 => ?_
  refine lcp F12 rfl hC rfl (by omega) (wanted_none rfl) (g := 23) (args := #[Value.pointer (some ⟨a.hb, 0, none⟩), Value.pointer (some ⟨a.l0, 0, none⟩), Value.int .i64 A]) (by simp only [execOp, resolve, invoke, List.map_toArray, List.map_cons, List.map_nil, (F12.eval 83 (by omega)).trans (show _ = Value.pointer (some ⟨a.hb, 0, none⟩) from by simp [upd, hs0, hs3, hs5]), (F12.eval 89 (by omega)).trans (show _ = Value.pointer (some ⟨a.l0, 0, none⟩) from by simp [upd, hs0, hs3, hs5]), (F12.eval 91 (by omega)).trans (show _ = Value.int .i64 A from by simp [upd, hs0, hs3, hs5])]; simp [go_sem, Act.eval]) (expire_any (lb := a.l0) (s := p.c.s0) X1 hY0.inv.core.sen hY0.inv.core.bk HG.out.ok.b hY0.inv.core.l0 HG.out.ok.s0 (hY0.inv.core.lol false) hY0.inv.core.lo.2.1 (by omega) A) ?_
  rintro e1 w1 ⟨l, rfl, ho1, hB1, hl1, hc1⟩
  have hs1 := hY0.inv.codeStep false (hc1.mono (fun j _ e => e.elim (fun e => Or.inr (Or.inl e)) (fun e => Or.inr (Or.inr e)))) hB1 hl1
  have hY1 := hY0.step hs1.1 hs1.2
  have hC1 : Blk w1 a.pb (pairC a p) 61 ∧ Blk w1 w.heap.size (opC 6 A B false) 29 := hY1.cls
  refine ⟨_, rfl, fun F13 => ?_⟩
  refine lyp F13 rfl hC1 rfl (by omega) (wanted_none rfl) (v := l) (fun wr hwr => by simp only [execOp, (F13.eval 92 (by omega)).trans (show _ = l from by simp [upd, hs0, hs3, hs5])]; first | rfl | simp [go_sem]) fun F14 => ?_
  refine ⟨fun _ => hC1, ?_⟩
  refine hK _ _ ?_
  clear F0 F1 F2 F3 F4 F5 F6 F7 F8 F9 F10 F11 F12 F13 F14 hs0 hs3 hs5
  simp only [Act.put, List.setIfInBounds_toArray, List.set_cons_succ, List.set_cons_zero]
  have HY1 : Hid _ := hY1
  have HO1 : Hid _ := ho1
  have HP0 : Hid _ := (show ∀ k, a.has p k → k < X1.heap.size from fun k e => hY0.inv.lt e)
  have HLX : Hid _ := hY0.inv.core.low
  have HWZ : Hid _ := hY0.stp.chg.size
  clear hK hC hC1 hY0 hB1 hl1 hc1 hs1 hY1 ho1
  go_wp2_with fail
  rename_i K hK
  try rw [show ∀ a : Act, a.put none undef = a from fun _ => rfl]
  refine wp_region_mix (fun wr' => Blk wr' a.pb (pairC a p) 61 ∧ Blk wr' (w.heap.size) (opC 6 A B false) 29) (fun i => i == 13 || i == 14 || i == 16) 16 (by kernel_rfl) rfl (by kernel_rfl) (by kernel_rfl) (by kernel_rfl) ?_
  have hY0 : YSt S L a p ({ p with c := p.c.put false { p.c.b with L := (xrun A p.c.s0 p.c.b.L).left } (xrun A p.c.s0 p.c.b.L).s }) (p.c) (opC 6 A B false) (w.heap.size) w ({ w1 with drawn := w1.drawn + 1 } : World) := HY1.out.below ⟨rfl, rfl, rfl, Nat.le_refl _, fun _ _ => rfl⟩
  have hXB : Below w1.heap.size w1 ({ w1 with drawn := w1.drawn + 1 } : World) := ⟨rfl, rfl, rfl, Nat.le_refl _, fun _ _ => rfl⟩
  generalize ({ w1 with drawn := w1.drawn + 1 } : World) = X at *
  have hC : Blk X a.pb (pairC a p) 61 ∧ Blk X (w.heap.size) (opC 6 A B false) 29 := hY0.cls
  refine withFrP (N := 210) rfl ?_
  intro f0 F0 hff
  have hs0 : f0 0 = Value.pointer (some ⟨a.pb, 0, none⟩) := hff 0
  have hs3 : f0 3 = Value.pointer (some ⟨w.heap.size, 0, none⟩) := hff 3
  have hs5 : f0 5 = Value.int .i64 0 := hff 5
  have hs10 : f0 10 = l := hff 10
  clear hff
  refine lyp F0 rfl hC rfl (by omega) (wanted_none rfl) (v := l) (fun wr hwr => by simp only [execOp, (F0.eval 10 (by omega)).trans (show _ = l from by simp [upd, hs0, hs3, hs5, hs10])]; first | rfl | simp [go_sem]) fun F1 => ?_
  refine lyp F1 rfl hC rfl (by omega) (wanted_none rfl) (v := Value.pointer (some ⟨a.pb, 0, none⟩)) (fun wr hwr => by simp only [execOp, (F1.eval 0 (by omega)).trans (show _ = Value.pointer (some ⟨a.pb, 0, none⟩) from by simp [upd, hs0, hs3, hs5, hs10])]; first | rfl | simp [go_sem]) fun F2 => ?_
  refine lyp F2 rfl hC rfl (by omega) (wanted_none rfl) (v := Value.pointer (some ⟨a.pb, 0, none⟩)) (fun wr hwr => by simp only [execOp, (F2.eval 94 (by omega)).trans (show _ = Value.pointer (some ⟨a.pb, 0, none⟩) from by simp [upd, hs0, hs3, hs5, hs10])]; simp [go_sem]) fun F3 => ?_
  refine lyp F3 rfl hC rfl (by omega) (wanted_none rfl) (v := Value.pointer (some ⟨a.pb, 1, none⟩)) (fun wr hwr => by simp only [execOp, (F3.eval 95 (by omega)).trans (show _ = Value.pointer (some ⟨a.pb, 0, none⟩) from by simp [upd, hs0, hs3, hs5, hs10])]; simp [go_sem]) fun F4 => ?_
  refine lyp F4 rfl hC rfl (by omega) (wanted_none rfl) (v := Value.pointer (some ⟨a.rb, 0, none⟩)) (fun wr hwr => by simp only [execOp, (F4.eval 96 (by omega)).trans (show _ = Value.pointer (some ⟨a.pb, 1, none⟩) from by simp [upd, hs0, hs3, hs5, hs10])]; simp [go_sem, (show wr.cell? ⟨a.pb, 1, none⟩ = some (.pointer (some ⟨a.rb, 0, none⟩)) from hwr.1.cell 1)]) fun F5 => ?_
  refine lyp F5 rfl hC rfl (by omega) (wanted_none rfl) (v := Value.pointer (some ⟨a.pb, 0, none⟩)) (fun wr hwr => by simp only [execOp, (F5.eval 0 (by omega)).trans (show _ = Value.pointer (some ⟨a.pb, 0, none⟩) from by simp [upd, hs0, hs3, hs5, hs10])]; first | rfl | simp [go_sem]) fun F6 => ?_
  refine lyp F6 rfl hC rfl (by omega) (wanted_none rfl) (v := Value.int .i64 0) (fun wr hwr => by simp only [execOp, (F6.eval 5 (by omega)).trans (show _ = Value.int .i64 0 from by simp [upd, hs0, hs3, hs5, hs10])]; first | rfl | simp [go_sem]) fun F7 => ?_
  refine lyp F7 rfl hC rfl (by omega) (wanted_none rfl) (v := Value.pointer (some ⟨a.pb, 0, none⟩)) (fun wr hwr => by simp only [execOp, (F7.eval 98 (by omega)).trans (show _ = Value.pointer (some ⟨a.pb, 0, none⟩) from by simp [upd, hs0, hs3, hs5, hs10])]; simp [go_sem]) fun F8 => ?_
  refine lyp F8 rfl hC rfl (by omega) (wanted_none rfl) (v := Value.pointer (some ⟨a.pb, 4, none⟩)) (fun wr hwr => by simp only [execOp, (F8.eval 100 (by omega)).trans (show _ = Value.pointer (some ⟨a.pb, 0, none⟩) from by simp [upd, hs0, hs3, hs5, hs10])]; simp [go_sem]) fun F9 => ?_
  refine lyp F9 rfl hC rfl (by omega) (wanted_none rfl) (v := Value.pointer (some ⟨a.pb, 4, none⟩)) (fun wr hwr => by simp only [execOp, (F9.eval 101 (by omega)).trans (show _ = Value.pointer (some ⟨a.pb, 4, none⟩) from by simp [upd, hs0, hs3, hs5, hs10]), (F9.eval 99 (by omega)).trans (show _ = Value.int .i64 0 from by simp [upd, hs0, hs3, hs5, hs10])]; simp [go_sem, Act.eval]) fun F10 => ?_
  refine lyp F10 rfl hC rfl (by omega) (wanted_none rfl) (v := Value.pointer (some ⟨a.q0, 0, none⟩)) (fun wr hwr => by simp only [execOp, (F10.eval 102 (by omega)).trans (show _ = Value.pointer (some ⟨a.pb, 4, none⟩) from by simp [upd, hs0, hs3, hs5, hs10])]; simp [go_sem, (show wr.cell? ⟨a.pb, 4, none⟩ = some (.pointer (some ⟨a.q0, 0, none⟩)) from hwr.1.cell 4)]) fun F11 => ?_
  refine lyp F11 rfl hC rfl (by omega) (wanted_none rfl) (v := Value.pointer (some ⟨w.heap.size, 1, none⟩)) (fun wr hwr => by simp only [execOp, (F11.eval 3 (by omega)).trans (show _ = Value.pointer (some ⟨w.heap.size, 0, none⟩) from by simp [upd, hs0, hs3, hs5, hs10])]; simp [go_sem]) fun F12 => ?_
  refine lyp F12 rfl hC rfl (by omega) (wanted_none rfl) (v := Value.int .i64 A) (fun wr hwr => by simp only [execOp, (F12.eval 104 (by omega)).trans (show _ = Value.pointer (some ⟨w.heap.size, 1, none⟩) from by simp [upd, hs0, hs3, hs5, hs10])]; simp [go_sem, (show wr.cell? ⟨w.heap.size, 1, none⟩ = some (Value.int .i64 A) from hwr.2.cell 1)]) fun F13 => ?_
  have hoX : X.ownsRow X1.heap.size 3 1 l _ _ := ownsRow_same HO1.out (fun g hg => hXB.block g (ownsRow_lt HO1.out hg).2)
  refine lcp F13 rfl hC rfl (by omega) (wanted_none rfl) (g := 45) (args := #[Value.pointer (some ⟨a.rb, 0, none⟩), Value.pointer (some ⟨a.q0, 0, none⟩), Value.int .i64 A]) (by simp only [execOp, resolve, invoke, List.map_toArray, List.map_cons, List.map_nil, (F13.eval 97 (by omega)).trans (show _ = Value.pointer (some ⟨a.rb, 0, none⟩) from by simp [upd, hs0, hs3, hs5, hs10]), (F13.eval 103 (by omega)).trans (show _ = Value.pointer (some ⟨a.q0, 0, none⟩) from by simp [upd, hs0, hs3, hs5, hs10]), (F13.eval 105 (by omega)).trans (show _ = Value.int .i64 A from by simp [upd, hs0, hs3, hs5, hs10])]; simp [go_sem, Act.eval]) (rexpire_any (qb := a.q0) (s := p.c.s0) X hY0.inv.core.rk HG.out.ok.b hY0.inv.core.q0 HG.out.ok.s0 hY0.inv.core.low A) ?_
  rintro e2 w2 ⟨u, rfl, ho2, hp2⟩
  obtain ⟨v2, hI2, hs2⟩ := hY0.inv.refStep false hp2
  have hY2 := hY0.step hI2 hs2
  have hC2 : Blk w2 a.pb (pairC a p) 61 ∧ Blk w2 w.heap.size (opC 6 A B false) 29 := hY2.cls
  have ho1' := row_kept (p := { p with c := p.c.put false { p.c.b with L := (xrun A p.c.s0 p.c.b.L).left } (xrun A p.c.s0 p.c.b.L).s }) hoX HP0.out hs2
  refine ⟨_, rfl, fun F14 => ?_⟩
  refine lcp F14 rfl hC2 rfl (by omega) (wanted_none rfl) (g := 32) (args := #[l, u]) (by simp only [execOp, resolve, invoke, List.map_toArray, List.map_cons, List.map_nil, (F14.eval 93 (by omega)).trans (show _ = l from by simp [upd, hs0, hs3, hs5, hs10]), (F14.eval 106 (by omega)).trans (show _ = u from by simp [upd, hs0, hs3, hs5, hs10])]; simp [go_sem, Act.eval]) (sameInts_any w2 ho1' ho2 (by have h5 := xrun_len A p.c.s0 p.c.b.L; have h6 := HG.out.ok.b.len; have h7 := HG.out.ok.b.r1; omega)) ?_
  rintro e3 w3 ⟨rfl, q3, rfl⟩
  have hY3 := hY2.below (below_drewN q3 (Below.refl _ _))
  have hC3 : Blk (w2.drewN q3) a.pb (pairC a p) 61 ∧ Blk (w2.drewN q3) w.heap.size (opC 6 A B false) 29 := hY3.cls
  refine ⟨_, rfl, fun F15 => ?_⟩
  refine lyp F15 rfl hC3 rfl (by omega) (wanted_none rfl) (v := Value.bool true) (fun wr hwr => by simp only [execOp, (F15.eval 107 (by omega)).trans (show _ = Value.bool true from by simp [upd, hs0, hs3, hs5, hs10])]; first | rfl | simp [go_sem]) fun F16 => ?_
  refine ⟨fun _ => hC3, ?_⟩
  refine hK _ _ ?_
  clear F0 F1 F2 F3 F4 F5 F6 F7 F8 F9 F10 F11 F12 F13 F14 F15 F16 hs0 hs3 hs5 hs10
  simp only [Act.put, List.setIfInBounds_toArray, List.set_cons_succ, List.set_cons_zero]
  have HY2 : Hid _ := hY3
  have HO2 : Hid _ := ho1'
  clear hK hC hC2 hC3 hY0 ho2 hp2 hI2 hs2 hY2 hY3 ho1' hoX hXB
  have hle : p.c.b.L.length ≤ 16 := by have := HG.out.ok.b.len; have := HG.out.ok.b.r1; omega
  have htl := xrun_len A p.c.s0 p.c.b.L
  have hnl : (numsOf p.c.b.me (xrun A p.c.s0 p.c.b.L).told).length = (xrun A p.c.s0 p.c.b.L).told.length := by simp [numsOf]
  have ho3 : (w2.drewN q3).ownsRow X1.heap.size 3 1 l (numsOf p.c.b.me (xrun A p.c.s0 p.c.b.L).told).length ((numsOf p.c.b.me (xrun A p.c.s0 p.c.b.L).told).map I) := by rw [hnl]; exact HO2.out
  have hY4 := HY2.out.float HG.out.fl (x := ⟨l, numsOf p.c.b.me (xrun A p.c.s0 p.c.b.L).told⟩) (ownsRow_mono ho3 HLX.out) (fun k e => ⟨HY2.out.fresh ho3 (fun k e => HP0.out k (Or.inr (Or.inr e))) k e, Nat.le_trans HWZ.out (ownsRow_lt ho3 e).1⟩)
  have hkp := keep_any (x := ⟨l, numsOf p.c.b.me (xrun A p.c.s0 p.c.b.L).told⟩) (w2.drewN q3) hY4.kst rfl (HG.out.full.fl HG.out.fl (by show (numsOf p.c.b.me (xrun A p.c.s0 p.c.b.L).told).length ≤ 16; omega)) ⟨HG.out.m0, by have := HG.out.m1; show p.mark ≤ 3000; omega⟩ (by have := HG.out.ls; show p.z.ls.length ≤ 3000; omega)
  have HY3 : Hid _ := hY4
  have HKP : Hid _ := hkp
  clear ho3 hY4 hkp htl hnl hle
  go_wp2_with fail
  refine Calls.mono HKP.out ?_
  rintro e w9 ⟨rfl, hk9⟩
  have HF : Hid _ := cpost_kept HG.out HY3.out hk9 HOK.out HMD.out
  clear hk9
  go_wp2_with fail
  go_ret
  exact ⟨rfl, HF.out⟩
set_option maxRecDepth 100000 in
set_option maxHeartbeats 3200000 in
theorem call6t {S : Sens} {L : Nat} {a : PA} {p : PS} {n : Nat} (w : World) (h : PInv S L a p p.c w) (hG : Gd n p) (hn : n ≤ 2000) (A B : Int) (hA : IntKind.i64.wrap A = A) (hB : IntKind.i64.wrap B = B) :
    Calls Tryd.prog 30 #[.pointer (some ⟨a.pb, 0, none⟩), .agg #[.int .i64 6, .int .i64 A, .int .i64 B, .bool true]] w fun r w' => r = .returned (.bool true) ∧ CPost S L a p n (p.c.play 6 A B true) w w' := by
  have hok := CS.play_ok hG.ok 6 A B true
  have hmd := CS.play_made (c := p.c) 6 A B true
  have epl : p.c.play 6 A B true = p.c.put true { p.c.b with L := (xrun A p.c.s1 p.c.b.L).left } (xrun A p.c.s1 p.c.b.L).s := rfl
  rw [epl] at hok hmd ⊢
  clear epl
  have hma : p.c.b.made ≤ 1000000 := by have := hG.made; omega
  have hgr : Below w.heap.size w (w.alloc (.cells (opC 6 A B true) 29)) := (Below.refl _ _).alloc (Nat.le_refl _) _
  have HY0 : Hid _ := (⟨h.below hgr, heap_alloc_new w _, PStp.ofBelow hgr⟩ : YSt S L a p p p.c (opC 6 A B true) w.heap.size w (w.alloc (.cells (opC 6 A B true) 29)))
  have HW : Hid _ := (⟨hA, hB⟩ : IntKind.i64.wrap A = A ∧ IntKind.i64.wrap B = B)
  have HG : Hid _ := hG
  have HOK : Hid _ := hok
  have HMD : Hid _ := hmd
  clear h hgr hG hok hmd hA hB
  go_enter Tryd.func30, Tryd.ntmps30
  go_wp2_with fail
  have eW : w.alloc (.cells #[.int .i64 6, .int .i64 A, .int .i64 B, .bool true] 29) = w.alloc (.cells (opC 6 A B true) 29) := rfl
  rw [eW]
  clear eW
  generalize w.alloc (.cells (opC 6 A B true) 29) = W0 at *
  rename_i K hK
  try rw [show ∀ a : Act, a.put none undef = a from fun _ => rfl]
  refine wp_region_mix (fun wr' => Blk wr' a.pb (pairC a p) 61 ∧ Blk wr' (w.heap.size) (opC 6 A B true) 29) (fun i => i == 12 || i == 14) 14 (by kernel_rfl) rfl (by kernel_rfl) (by kernel_rfl) (by kernel_rfl) ?_
  have hY0 : YSt S L a p (p) (p.c) (opC 6 A B true) (w.heap.size) w ({ W0 with drawn := W0.drawn + 1 } : World) := HY0.out.below ⟨rfl, rfl, rfl, Nat.le_refl _, fun _ _ => rfl⟩
  generalize ({ W0 with drawn := W0.drawn + 1 } : World) = X1 at *
  have hC : Blk X1 a.pb (pairC a p) 61 ∧ Blk X1 (w.heap.size) (opC 6 A B true) 29 := hY0.cls
  refine withFrP (N := 210) rfl ?_
  intro f0 F0 hff
  have hs0 : f0 0 = Value.pointer (some ⟨a.pb, 0, none⟩) := hff 0
  have hs3 : f0 3 = Value.pointer (some ⟨w.heap.size, 0, none⟩) := hff 3
  have hs5 : f0 5 = Value.int .i64 1 := hff 5
  clear hff
  refine lyp F0 rfl hC rfl (by omega) (wanted_none rfl) (v := Value.pointer (some ⟨a.pb, 0, none⟩)) (fun wr hwr => by simp only [execOp, (F0.eval 0 (by omega)).trans (show _ = Value.pointer (some ⟨a.pb, 0, none⟩) from by simp [upd, hs0, hs3, hs5])]; first | rfl | simp [go_sem]) fun F1 => ?_
  refine lyp F1 rfl hC rfl (by omega) (wanted_none rfl) (v := Value.pointer (some ⟨a.pb, 0, none⟩)) (fun wr hwr => by simp only [execOp, (F1.eval 80 (by omega)).trans (show _ = Value.pointer (some ⟨a.pb, 0, none⟩) from by simp [upd, hs0, hs3, hs5])]; simp [go_sem]) fun F2 => ?_
  refine lyp F2 rfl hC rfl (by omega) (wanted_none rfl) (v := Value.pointer (some ⟨a.pb, 0, none⟩)) (fun wr hwr => by simp only [execOp, (F2.eval 81 (by omega)).trans (show _ = Value.pointer (some ⟨a.pb, 0, none⟩) from by simp [upd, hs0, hs3, hs5])]; simp [go_sem]) fun F3 => ?_
  refine lyp F3 rfl hC rfl (by omega) (wanted_none rfl) (v := Value.pointer (some ⟨a.hb, 0, none⟩)) (fun wr hwr => by simp only [execOp, (F3.eval 82 (by omega)).trans (show _ = Value.pointer (some ⟨a.pb, 0, none⟩) from by simp [upd, hs0, hs3, hs5])]; simp [go_sem, (show wr.cell? ⟨a.pb, 0, none⟩ = some (.pointer (some ⟨a.hb, 0, none⟩)) from hwr.1.cell 0)]) fun F4 => ?_
  refine lyp F4 rfl hC rfl (by omega) (wanted_none rfl) (v := Value.pointer (some ⟨a.pb, 0, none⟩)) (fun wr hwr => by simp only [execOp, (F4.eval 0 (by omega)).trans (show _ = Value.pointer (some ⟨a.pb, 0, none⟩) from by simp [upd, hs0, hs3, hs5])]; first | rfl | simp [go_sem]) fun F5 => ?_
  refine lyp F5 rfl hC rfl (by omega) (wanted_none rfl) (v := Value.int .i64 1) (fun wr hwr => by simp only [execOp, (F5.eval 5 (by omega)).trans (show _ = Value.int .i64 1 from by simp [upd, hs0, hs3, hs5])]; first | rfl | simp [go_sem]) fun F6 => ?_
  refine lyp F6 rfl hC rfl (by omega) (wanted_none rfl) (v := Value.pointer (some ⟨a.pb, 0, none⟩)) (fun wr hwr => by simp only [execOp, (F6.eval 84 (by omega)).trans (show _ = Value.pointer (some ⟨a.pb, 0, none⟩) from by simp [upd, hs0, hs3, hs5])]; simp [go_sem]) fun F7 => ?_
  refine lyp F7 rfl hC rfl (by omega) (wanted_none rfl) (v := Value.pointer (some ⟨a.pb, 2, none⟩)) (fun wr hwr => by simp only [execOp, (F7.eval 86 (by omega)).trans (show _ = Value.pointer (some ⟨a.pb, 0, none⟩) from by simp [upd, hs0, hs3, hs5])]; simp [go_sem]) fun F8 => ?_
  refine lyp F8 rfl hC rfl (by omega) (wanted_none rfl) (v := Value.pointer (some ⟨a.pb, 3, none⟩)) (fun wr hwr => by simp only [execOp, (F8.eval 87 (by omega)).trans (show _ = Value.pointer (some ⟨a.pb, 2, none⟩) from by simp [upd, hs0, hs3, hs5]), (F8.eval 85 (by omega)).trans (show _ = Value.int .i64 1 from by simp [upd, hs0, hs3, hs5])]; simp [go_sem, Act.eval]) fun F9 => ?_
  refine lyp F9 rfl hC rfl (by omega) (wanted_none rfl) (v := Value.pointer (some ⟨a.l1, 0, none⟩)) (fun wr hwr => by simp only [execOp, (F9.eval 88 (by omega)).trans (show _ = Value.pointer (some ⟨a.pb, 3, none⟩) from by simp [upd, hs0, hs3, hs5])]; simp [go_sem, (show wr.cell? ⟨a.pb, 3, none⟩ = some (.pointer (some ⟨a.l1, 0, none⟩)) from hwr.1.cell 3)]) fun F10 => ?_
  refine lyp F10 rfl hC rfl (by omega) (wanted_none rfl) (v := Value.pointer (some ⟨w.heap.size, 1, none⟩)) (fun wr hwr => by simp only [execOp, (F10.eval 3 (by omega)).trans (show _ = Value.pointer (some ⟨w.heap.size, 0, none⟩) from by simp [upd, hs0, hs3, hs5])]; simp [go_sem]) fun F11 => ?_
  refine lyp F11 rfl hC rfl (by omega) (wanted_none rfl) (v := Value.int .i64 A) (fun wr hwr => by simp only [execOp, (F11.eval 90 (by omega)).trans (show _ = Value.pointer (some ⟨w.heap.size, 1, none⟩) from by simp [upd, hs0, hs3, hs5])]; simp [go_sem, (show wr.cell? ⟨w.heap.size, 1, none⟩ = some (Value.int .i64 A) from hwr.2.cell 1)]) fun F12 => ?_
  refine lcp F12 rfl hC rfl (by omega) (wanted_none rfl) (g := 23) (args := #[Value.pointer (some ⟨a.hb, 0, none⟩), Value.pointer (some ⟨a.l1, 0, none⟩), Value.int .i64 A]) (by simp only [execOp, resolve, invoke, List.map_toArray, List.map_cons, List.map_nil, (F12.eval 83 (by omega)).trans (show _ = Value.pointer (some ⟨a.hb, 0, none⟩) from by simp [upd, hs0, hs3, hs5]), (F12.eval 89 (by omega)).trans (show _ = Value.pointer (some ⟨a.l1, 0, none⟩) from by simp [upd, hs0, hs3, hs5]), (F12.eval 91 (by omega)).trans (show _ = Value.int .i64 A from by simp [upd, hs0, hs3, hs5])]; simp [go_sem, Act.eval]) (expire_any (lb := a.l1) (s := p.c.s1) X1 hY0.inv.core.sen hY0.inv.core.bk HG.out.ok.b hY0.inv.core.l1 HG.out.ok.s1 (hY0.inv.core.lol true) hY0.inv.core.lo.2.1 (by omega) A) ?_
  rintro e1 w1 ⟨l, rfl, ho1, hB1, hl1, hc1⟩
  have hs1 := hY0.inv.codeStep true (hc1.mono (fun j _ e => e.elim (fun e => Or.inr (Or.inl e)) (fun e => Or.inr (Or.inr e)))) hB1 hl1
  have hY1 := hY0.step hs1.1 hs1.2
  have hC1 : Blk w1 a.pb (pairC a p) 61 ∧ Blk w1 w.heap.size (opC 6 A B true) 29 := hY1.cls
  refine ⟨_, rfl, fun F13 => ?_⟩
  refine lyp F13 rfl hC1 rfl (by omega) (wanted_none rfl) (v := l) (fun wr hwr => by simp only [execOp, (F13.eval 92 (by omega)).trans (show _ = l from by simp [upd, hs0, hs3, hs5])]; first | rfl | simp [go_sem]) fun F14 => ?_
  refine ⟨fun _ => hC1, ?_⟩
  refine hK _ _ ?_
  clear F0 F1 F2 F3 F4 F5 F6 F7 F8 F9 F10 F11 F12 F13 F14 hs0 hs3 hs5
  simp only [Act.put, List.setIfInBounds_toArray, List.set_cons_succ, List.set_cons_zero]
  have HY1 : Hid _ := hY1
  have HO1 : Hid _ := ho1
  have HP0 : Hid _ := (show ∀ k, a.has p k → k < X1.heap.size from fun k e => hY0.inv.lt e)
  have HLX : Hid _ := hY0.inv.core.low
  have HWZ : Hid _ := hY0.stp.chg.size
  clear hK hC hC1 hY0 hB1 hl1 hc1 hs1 hY1 ho1
  go_wp2_with fail
  rename_i K hK
  try rw [show ∀ a : Act, a.put none undef = a from fun _ => rfl]
  refine wp_region_mix (fun wr' => Blk wr' a.pb (pairC a p) 61 ∧ Blk wr' (w.heap.size) (opC 6 A B true) 29) (fun i => i == 13 || i == 14 || i == 16) 16 (by kernel_rfl) rfl (by kernel_rfl) (by kernel_rfl) (by kernel_rfl) ?_
  have hY0 : YSt S L a p ({ p with c := p.c.put true { p.c.b with L := (xrun A p.c.s1 p.c.b.L).left } (xrun A p.c.s1 p.c.b.L).s }) (p.c) (opC 6 A B true) (w.heap.size) w ({ w1 with drawn := w1.drawn + 1 } : World) := HY1.out.below ⟨rfl, rfl, rfl, Nat.le_refl _, fun _ _ => rfl⟩
  have hXB : Below w1.heap.size w1 ({ w1 with drawn := w1.drawn + 1 } : World) := ⟨rfl, rfl, rfl, Nat.le_refl _, fun _ _ => rfl⟩
  generalize ({ w1 with drawn := w1.drawn + 1 } : World) = X at *
  have hC : Blk X a.pb (pairC a p) 61 ∧ Blk X (w.heap.size) (opC 6 A B true) 29 := hY0.cls
  refine withFrP (N := 210) rfl ?_
  intro f0 F0 hff
  have hs0 : f0 0 = Value.pointer (some ⟨a.pb, 0, none⟩) := hff 0
  have hs3 : f0 3 = Value.pointer (some ⟨w.heap.size, 0, none⟩) := hff 3
  have hs5 : f0 5 = Value.int .i64 1 := hff 5
  have hs10 : f0 10 = l := hff 10
  clear hff
  refine lyp F0 rfl hC rfl (by omega) (wanted_none rfl) (v := l) (fun wr hwr => by simp only [execOp, (F0.eval 10 (by omega)).trans (show _ = l from by simp [upd, hs0, hs3, hs5, hs10])]; first | rfl | simp [go_sem]) fun F1 => ?_
  refine lyp F1 rfl hC rfl (by omega) (wanted_none rfl) (v := Value.pointer (some ⟨a.pb, 0, none⟩)) (fun wr hwr => by simp only [execOp, (F1.eval 0 (by omega)).trans (show _ = Value.pointer (some ⟨a.pb, 0, none⟩) from by simp [upd, hs0, hs3, hs5, hs10])]; first | rfl | simp [go_sem]) fun F2 => ?_
  refine lyp F2 rfl hC rfl (by omega) (wanted_none rfl) (v := Value.pointer (some ⟨a.pb, 0, none⟩)) (fun wr hwr => by simp only [execOp, (F2.eval 94 (by omega)).trans (show _ = Value.pointer (some ⟨a.pb, 0, none⟩) from by simp [upd, hs0, hs3, hs5, hs10])]; simp [go_sem]) fun F3 => ?_
  refine lyp F3 rfl hC rfl (by omega) (wanted_none rfl) (v := Value.pointer (some ⟨a.pb, 1, none⟩)) (fun wr hwr => by simp only [execOp, (F3.eval 95 (by omega)).trans (show _ = Value.pointer (some ⟨a.pb, 0, none⟩) from by simp [upd, hs0, hs3, hs5, hs10])]; simp [go_sem]) fun F4 => ?_
  refine lyp F4 rfl hC rfl (by omega) (wanted_none rfl) (v := Value.pointer (some ⟨a.rb, 0, none⟩)) (fun wr hwr => by simp only [execOp, (F4.eval 96 (by omega)).trans (show _ = Value.pointer (some ⟨a.pb, 1, none⟩) from by simp [upd, hs0, hs3, hs5, hs10])]; simp [go_sem, (show wr.cell? ⟨a.pb, 1, none⟩ = some (.pointer (some ⟨a.rb, 0, none⟩)) from hwr.1.cell 1)]) fun F5 => ?_
  refine lyp F5 rfl hC rfl (by omega) (wanted_none rfl) (v := Value.pointer (some ⟨a.pb, 0, none⟩)) (fun wr hwr => by simp only [execOp, (F5.eval 0 (by omega)).trans (show _ = Value.pointer (some ⟨a.pb, 0, none⟩) from by simp [upd, hs0, hs3, hs5, hs10])]; first | rfl | simp [go_sem]) fun F6 => ?_
  refine lyp F6 rfl hC rfl (by omega) (wanted_none rfl) (v := Value.int .i64 1) (fun wr hwr => by simp only [execOp, (F6.eval 5 (by omega)).trans (show _ = Value.int .i64 1 from by simp [upd, hs0, hs3, hs5, hs10])]; first | rfl | simp [go_sem]) fun F7 => ?_
  refine lyp F7 rfl hC rfl (by omega) (wanted_none rfl) (v := Value.pointer (some ⟨a.pb, 0, none⟩)) (fun wr hwr => by simp only [execOp, (F7.eval 98 (by omega)).trans (show _ = Value.pointer (some ⟨a.pb, 0, none⟩) from by simp [upd, hs0, hs3, hs5, hs10])]; simp [go_sem]) fun F8 => ?_
  refine lyp F8 rfl hC rfl (by omega) (wanted_none rfl) (v := Value.pointer (some ⟨a.pb, 4, none⟩)) (fun wr hwr => by simp only [execOp, (F8.eval 100 (by omega)).trans (show _ = Value.pointer (some ⟨a.pb, 0, none⟩) from by simp [upd, hs0, hs3, hs5, hs10])]; simp [go_sem]) fun F9 => ?_
  refine lyp F9 rfl hC rfl (by omega) (wanted_none rfl) (v := Value.pointer (some ⟨a.pb, 5, none⟩)) (fun wr hwr => by simp only [execOp, (F9.eval 101 (by omega)).trans (show _ = Value.pointer (some ⟨a.pb, 4, none⟩) from by simp [upd, hs0, hs3, hs5, hs10]), (F9.eval 99 (by omega)).trans (show _ = Value.int .i64 1 from by simp [upd, hs0, hs3, hs5, hs10])]; simp [go_sem, Act.eval]) fun F10 => ?_
  refine lyp F10 rfl hC rfl (by omega) (wanted_none rfl) (v := Value.pointer (some ⟨a.q1, 0, none⟩)) (fun wr hwr => by simp only [execOp, (F10.eval 102 (by omega)).trans (show _ = Value.pointer (some ⟨a.pb, 5, none⟩) from by simp [upd, hs0, hs3, hs5, hs10])]; simp [go_sem, (show wr.cell? ⟨a.pb, 5, none⟩ = some (.pointer (some ⟨a.q1, 0, none⟩)) from hwr.1.cell 5)]) fun F11 => ?_
  refine lyp F11 rfl hC rfl (by omega) (wanted_none rfl) (v := Value.pointer (some ⟨w.heap.size, 1, none⟩)) (fun wr hwr => by simp only [execOp, (F11.eval 3 (by omega)).trans (show _ = Value.pointer (some ⟨w.heap.size, 0, none⟩) from by simp [upd, hs0, hs3, hs5, hs10])]; simp [go_sem]) fun F12 => ?_
  refine lyp F12 rfl hC rfl (by omega) (wanted_none rfl) (v := Value.int .i64 A) (fun wr hwr => by simp only [execOp, (F12.eval 104 (by omega)).trans (show _ = Value.pointer (some ⟨w.heap.size, 1, none⟩) from by simp [upd, hs0, hs3, hs5, hs10])]; simp [go_sem, (show wr.cell? ⟨w.heap.size, 1, none⟩ = some (Value.int .i64 A) from hwr.2.cell 1)]) fun F13 => ?_
  have hoX : X.ownsRow X1.heap.size 3 1 l _ _ := ownsRow_same HO1.out (fun g hg => hXB.block g (ownsRow_lt HO1.out hg).2)
  refine lcp F13 rfl hC rfl (by omega) (wanted_none rfl) (g := 45) (args := #[Value.pointer (some ⟨a.rb, 0, none⟩), Value.pointer (some ⟨a.q1, 0, none⟩), Value.int .i64 A]) (by simp only [execOp, resolve, invoke, List.map_toArray, List.map_cons, List.map_nil, (F13.eval 97 (by omega)).trans (show _ = Value.pointer (some ⟨a.rb, 0, none⟩) from by simp [upd, hs0, hs3, hs5, hs10]), (F13.eval 103 (by omega)).trans (show _ = Value.pointer (some ⟨a.q1, 0, none⟩) from by simp [upd, hs0, hs3, hs5, hs10]), (F13.eval 105 (by omega)).trans (show _ = Value.int .i64 A from by simp [upd, hs0, hs3, hs5, hs10])]; simp [go_sem, Act.eval]) (rexpire_any (qb := a.q1) (s := p.c.s1) X hY0.inv.core.rk HG.out.ok.b hY0.inv.core.q1 HG.out.ok.s1 hY0.inv.core.low A) ?_
  rintro e2 w2 ⟨u, rfl, ho2, hp2⟩
  obtain ⟨v2, hI2, hs2⟩ := hY0.inv.refStep true hp2
  have hY2 := hY0.step hI2 hs2
  have hC2 : Blk w2 a.pb (pairC a p) 61 ∧ Blk w2 w.heap.size (opC 6 A B true) 29 := hY2.cls
  have ho1' := row_kept (p := { p with c := p.c.put true { p.c.b with L := (xrun A p.c.s1 p.c.b.L).left } (xrun A p.c.s1 p.c.b.L).s }) hoX HP0.out hs2
  refine ⟨_, rfl, fun F14 => ?_⟩
  refine lcp F14 rfl hC2 rfl (by omega) (wanted_none rfl) (g := 32) (args := #[l, u]) (by simp only [execOp, resolve, invoke, List.map_toArray, List.map_cons, List.map_nil, (F14.eval 93 (by omega)).trans (show _ = l from by simp [upd, hs0, hs3, hs5, hs10]), (F14.eval 106 (by omega)).trans (show _ = u from by simp [upd, hs0, hs3, hs5, hs10])]; simp [go_sem, Act.eval]) (sameInts_any w2 ho1' ho2 (by have h5 := xrun_len A p.c.s1 p.c.b.L; have h6 := HG.out.ok.b.len; have h7 := HG.out.ok.b.r1; omega)) ?_
  rintro e3 w3 ⟨rfl, q3, rfl⟩
  have hY3 := hY2.below (below_drewN q3 (Below.refl _ _))
  have hC3 : Blk (w2.drewN q3) a.pb (pairC a p) 61 ∧ Blk (w2.drewN q3) w.heap.size (opC 6 A B true) 29 := hY3.cls
  refine ⟨_, rfl, fun F15 => ?_⟩
  refine lyp F15 rfl hC3 rfl (by omega) (wanted_none rfl) (v := Value.bool true) (fun wr hwr => by simp only [execOp, (F15.eval 107 (by omega)).trans (show _ = Value.bool true from by simp [upd, hs0, hs3, hs5, hs10])]; first | rfl | simp [go_sem]) fun F16 => ?_
  refine ⟨fun _ => hC3, ?_⟩
  refine hK _ _ ?_
  clear F0 F1 F2 F3 F4 F5 F6 F7 F8 F9 F10 F11 F12 F13 F14 F15 F16 hs0 hs3 hs5 hs10
  simp only [Act.put, List.setIfInBounds_toArray, List.set_cons_succ, List.set_cons_zero]
  have HY2 : Hid _ := hY3
  have HO2 : Hid _ := ho1'
  clear hK hC hC2 hC3 hY0 ho2 hp2 hI2 hs2 hY2 hY3 ho1' hoX hXB
  have hle : p.c.b.L.length ≤ 16 := by have := HG.out.ok.b.len; have := HG.out.ok.b.r1; omega
  have htl := xrun_len A p.c.s1 p.c.b.L
  have hnl : (numsOf p.c.b.me (xrun A p.c.s1 p.c.b.L).told).length = (xrun A p.c.s1 p.c.b.L).told.length := by simp [numsOf]
  have ho3 : (w2.drewN q3).ownsRow X1.heap.size 3 1 l (numsOf p.c.b.me (xrun A p.c.s1 p.c.b.L).told).length ((numsOf p.c.b.me (xrun A p.c.s1 p.c.b.L).told).map I) := by rw [hnl]; exact HO2.out
  have hY4 := HY2.out.float HG.out.fl (x := ⟨l, numsOf p.c.b.me (xrun A p.c.s1 p.c.b.L).told⟩) (ownsRow_mono ho3 HLX.out) (fun k e => ⟨HY2.out.fresh ho3 (fun k e => HP0.out k (Or.inr (Or.inr e))) k e, Nat.le_trans HWZ.out (ownsRow_lt ho3 e).1⟩)
  have hkp := keep_any (x := ⟨l, numsOf p.c.b.me (xrun A p.c.s1 p.c.b.L).told⟩) (w2.drewN q3) hY4.kst rfl (HG.out.full.fl HG.out.fl (by show (numsOf p.c.b.me (xrun A p.c.s1 p.c.b.L).told).length ≤ 16; omega)) ⟨HG.out.m0, by have := HG.out.m1; show p.mark ≤ 3000; omega⟩ (by have := HG.out.ls; show p.z.ls.length ≤ 3000; omega)
  have HY3 : Hid _ := hY4
  have HKP : Hid _ := hkp
  clear ho3 hY4 hkp htl hnl hle
  go_wp2_with fail
  refine Calls.mono HKP.out ?_
  rintro e w9 ⟨rfl, hk9⟩
  have HF : Hid _ := cpost_kept HG.out HY3.out hk9 HOK.out HMD.out
  clear hk9
  go_wp2_with fail
  go_ret
  exact ⟨rfl, HF.out⟩
end Go.Proofs.YtkdndfdofhnagaaDoor
