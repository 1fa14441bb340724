import Derived.Test.YtcjgicfmfjomgaaSnd
import Derived.Laws.Rows
import Derived.Deep.Cut
namespace Go.Proofs.Ytcjgicfmfjomgaa
open Go.RowKit Go.PlainAid Go.MapKept
set_option linter.unusedVariables false
set_option linter.unusedSimpArgs false
def segA (x : LV) (seq : Int) (v : Value) : Value := .agg #[.int .i64 x.me, .int .i64 x.peer, .int .i64 seq, .int .i64 (x.next - 1), v]
set_option maxRecDepth 100000 in
set_option maxHeartbeats 3200000 in
theorem segment_any {L lb cb mb : Nat} {uv v : Value} {x : LV} {s : List UInt8} (seq : Int) (w : World) (h : LM L lb cb mb uv x w) (hn : 1 ≤ x.next ∧ x.next ≤ 1099511627777) (hd : By w v s) (hsl : s.length ≤ 1000000) :
    Calls Try.prog 28 #[.pointer (some ⟨lb, 0, none⟩), .int .i64 seq, v] w fun e w' => ∃ v', e = .returned (segA x seq v') ∧ w'.ownsRow w.heap.size 5 1 v' s.length (s.map B) ∧ Below w.heap.size w w' := by
  obtain ⟨ao, k, c, hv, hk, hrest⟩ := id hd
  clear hrest
  subst hk
  subst hv
  obtain ⟨hn1, hn2⟩ := hn
  obtain ⟨X, hX⟩ : ∃ X, X = w.alloc (.cells #[.int .i64 0, .int .i64 0, .int .i64 0, .int .i64 0, .slice none 0 0] 45) := ⟨_, rfl⟩
  obtain ⟨ob, hob⟩ : ∃ ob, ob = w.heap.size := ⟨_, rfl⟩
  have hbX : Below w.heap.size w X := by rw [hX]; exact (Below.refl _ _).alloc (Nat.le_refl _) _
  have hBX : Blk X ob #[.int .i64 0, .int .i64 0, .int .i64 0, .int .i64 0, .slice none 0 0] 45 := by rw [hX, hob]; exact heap_alloc_new w _
  have hMX := h.more hbX
  have c0 : X.cell? ⟨lb, 0, none⟩ = some (.int .i64 x.me) := hMX.b.cell 0
  have c1 : X.cell? ⟨lb, 1, none⟩ = some (.int .i64 x.peer) := hMX.b.cell 1
  have c9 : X.cell? ⟨lb, 9, none⟩ = some (.int .i64 x.next) := hMX.b.cell 9
  have HBX : Hid (Blk X ob #[.int .i64 0, .int .i64 0, .int .i64 0, .int .i64 0, .slice none 0 0] 45) := hBX
  have HbX : Hid (Below w.heap.size w X) := hbX
  have HD : Hid (By X (.slice ao s.length c) s) := hd.keep hbX
  have HOB : Hid (ob = w.heap.size) := hob
  clear h hd hbX hBX hMX
  go_enter Try.func28, Try.ntmps28
  go_upto_region 1 with fail
  rw [← hX, ← hob]
  clear hX hob
  go_wp2_with fail
  rename_i K hK
  try rw [show ∀ a : Act, a.put none undef = a from fun _ => rfl]
  refine wp_region_mix (fun wz => Below X.heap.size X wz ∧ True) (fun i => i == 15 || i == 17) 17 (by kernel_rfl) rfl (by kernel_rfl) (by kernel_rfl) (by kernel_rfl) ?_
  refine withFrP (N := 24) rfl ?_
  intro f0 F0 hff
  have e0 : f0 0 = Value.pointer (some ⟨lb, 0, none⟩) := hff 0
  have e1 : f0 1 = Value.int .i64 seq := hff 1
  have e2 : f0 2 = Value.slice ao s.length c := hff 2
  have e6 : f0 6 = Value.pointer (some ⟨ob, 0, none⟩) := hff 6
  clear hff
  have HCC : (fun wz => Below X.heap.size X wz ∧ True) (({ X with drawn := X.drawn + 1 } : World)) := ⟨Below.drew (Below.refl _ _), trivial⟩
  have V0 : ∀ wz, Below X.heap.size X wz ∧ True → wz.cell? ⟨lb, 0, none⟩ = some (.int .i64 x.me) := fun wz hw => (hw.1.cell (p := ⟨lb, 0, none⟩) (World.block_lt_of_cell? X _ c0)).trans c0
  have V1 : ∀ wz, Below X.heap.size X wz ∧ True → wz.cell? ⟨lb, 1, none⟩ = some (.int .i64 x.peer) := fun wz hw => (hw.1.cell (p := ⟨lb, 1, none⟩) (World.block_lt_of_cell? X _ c1)).trans c1
  have V9 : ∀ wz, Below X.heap.size X wz ∧ True → wz.cell? ⟨lb, 9, none⟩ = some (.int .i64 x.next) := fun wz hw => (hw.1.cell (p := ⟨lb, 9, none⟩) (World.block_lt_of_cell? X _ c9)).trans c9
  have HCL : Hid _ := clone_any ({ X with drawn := X.drawn + 1 } : World) (HD.out.keep HCC.1) hsl
  refine lyp F0 rfl HCC rfl (by omega) (wanted_none rfl) (v := Value.pointer (some ⟨lb, 0, none⟩)) (fun wr hwr => by simp only [execOp, (F0.eval 0 (by omega)).trans (show _ = Value.pointer (some ⟨lb, 0, none⟩) from by simp [upd, e0, e1, e2, e6])]; first | rfl | simp [go_sem]) fun Fp1 => ?_
  refine lyp Fp1 rfl HCC rfl (by omega) (wanted_none rfl) (v := Value.pointer (some ⟨lb, 0, none⟩)) (fun wr hwr => by simp only [execOp, (Fp1.eval 7 (by omega)).trans (show _ = Value.pointer (some ⟨lb, 0, none⟩) from by simp [upd, e0, e1, e2, e6])]; simp [go_sem]) fun Fp2 => ?_
  refine lyp Fp2 rfl HCC rfl (by omega) (wanted_none rfl) (v := Value.pointer (some ⟨lb, 0, none⟩)) (fun wr hwr => by simp only [execOp, (Fp2.eval 8 (by omega)).trans (show _ = Value.pointer (some ⟨lb, 0, none⟩) from by simp [upd, e0, e1, e2, e6])]; simp [go_sem]) fun Fp3 => ?_
  refine lyp Fp3 rfl HCC rfl (by omega) (wanted_none rfl) (v := Value.int .i64 x.me) (fun wr hwr => by simp only [execOp, (Fp3.eval 9 (by omega)).trans (show _ = Value.pointer (some ⟨lb, 0, none⟩) from by simp [upd, e0, e1, e2, e6])]; simp [go_sem, V0 _ hwr]) fun Fp4 => ?_
  refine lyp Fp4 rfl HCC rfl (by omega) (wanted_none rfl) (v := Value.pointer (some ⟨lb, 0, none⟩)) (fun wr hwr => by simp only [execOp, (Fp4.eval 0 (by omega)).trans (show _ = Value.pointer (some ⟨lb, 0, none⟩) from by simp [upd, e0, e1, e2, e6])]; first | rfl | simp [go_sem]) fun Fp5 => ?_
  refine lyp Fp5 rfl HCC rfl (by omega) (wanted_none rfl) (v := Value.pointer (some ⟨lb, 0, none⟩)) (fun wr hwr => by simp only [execOp, (Fp5.eval 11 (by omega)).trans (show _ = Value.pointer (some ⟨lb, 0, none⟩) from by simp [upd, e0, e1, e2, e6])]; simp [go_sem]) fun Fp6 => ?_
  refine lyp Fp6 rfl HCC rfl (by omega) (wanted_none rfl) (v := Value.pointer (some ⟨lb, 1, none⟩)) (fun wr hwr => by simp only [execOp, (Fp6.eval 12 (by omega)).trans (show _ = Value.pointer (some ⟨lb, 0, none⟩) from by simp [upd, e0, e1, e2, e6])]; simp [go_sem]) fun Fp7 => ?_
  refine lyp Fp7 rfl HCC rfl (by omega) (wanted_none rfl) (v := Value.int .i64 x.peer) (fun wr hwr => by simp only [execOp, (Fp7.eval 13 (by omega)).trans (show _ = Value.pointer (some ⟨lb, 1, none⟩) from by simp [upd, e0, e1, e2, e6])]; simp [go_sem, V1 _ hwr]) fun Fp8 => ?_
  refine lyp Fp8 rfl HCC rfl (by omega) (wanted_none rfl) (v := Value.int .i64 seq) (fun wr hwr => by simp only [execOp, (Fp8.eval 1 (by omega)).trans (show _ = Value.int .i64 seq from by simp [upd, e0, e1, e2, e6])]; first | rfl | simp [go_sem]) fun Fp9 => ?_
  refine lyp Fp9 rfl HCC rfl (by omega) (wanted_none rfl) (v := Value.pointer (some ⟨lb, 0, none⟩)) (fun wr hwr => by simp only [execOp, (Fp9.eval 0 (by omega)).trans (show _ = Value.pointer (some ⟨lb, 0, none⟩) from by simp [upd, e0, e1, e2, e6])]; first | rfl | simp [go_sem]) fun Fp10 => ?_
  refine lyp Fp10 rfl HCC rfl (by omega) (wanted_none rfl) (v := Value.pointer (some ⟨lb, 0, none⟩)) (fun wr hwr => by simp only [execOp, (Fp10.eval 16 (by omega)).trans (show _ = Value.pointer (some ⟨lb, 0, none⟩) from by simp [upd, e0, e1, e2, e6])]; simp [go_sem]) fun Fp11 => ?_
  refine lyp Fp11 rfl HCC rfl (by omega) (wanted_none rfl) (v := Value.pointer (some ⟨lb, 9, none⟩)) (fun wr hwr => by simp only [execOp, (Fp11.eval 17 (by omega)).trans (show _ = Value.pointer (some ⟨lb, 0, none⟩) from by simp [upd, e0, e1, e2, e6])]; simp [go_sem]) fun Fp12 => ?_
  refine lyp Fp12 rfl HCC rfl (by omega) (wanted_none rfl) (v := Value.int .i64 x.next) (fun wr hwr => by simp only [execOp, (Fp12.eval 18 (by omega)).trans (show _ = Value.pointer (some ⟨lb, 9, none⟩) from by simp [upd, e0, e1, e2, e6])]; simp [go_sem, V9 _ hwr]) fun Fp13 => ?_
  refine lyp Fp13 rfl HCC rfl (by omega) (wanted_none rfl) (v := Value.int .i64 (x.next - 1)) (fun wr hwr => by simp only [execOp, (Fp13.eval 19 (by omega)).trans (show _ = Value.int .i64 x.next from by simp [upd, e0, e1, e2, e6])]; simp [go_sem, Act.eval, show IntKind.i64.wrap (x.next - 1) = x.next - 1 from by rw [IntKind.wrap_i64]; omega]) fun Fp14 => ?_
  refine lyp Fp14 rfl HCC rfl (by omega) (wanted_none rfl) (v := Value.slice ao s.length c) (fun wr hwr => by simp only [execOp, (Fp14.eval 2 (by omega)).trans (show _ = Value.slice ao s.length c from by simp [upd, e0, e1, e2, e6])]; first | rfl | simp [go_sem]) fun Fp15 => ?_
  skip
  refine lcp Fp15 rfl HCC rfl (by omega) (wanted_none rfl) (g := 32) (args := #[Value.slice ao s.length c]) (by simp only [execOp, resolve, invoke, List.map_toArray, List.map_cons, List.map_nil, (Fp15.eval 21 (by omega)).trans (show _ = Value.slice ao s.length c from by simp [upd, e0, e1, e2, e6])]; simp [go_sem, Act.eval]) HCL.out ?_
  rintro e w2 ⟨v2, rfl, hr2, hb2⟩
  obtain ⟨co, cc, hv2, _⟩ := own_slice hr2
  subst hv2
  refine ⟨_, rfl, fun Fp16 => ?_⟩
  have HC2 : (fun wz => Below X.heap.size X wz ∧ True) w2 := ⟨HCC.1.trans hb2, trivial⟩
  replace hr2 : w2.ownsRow X.heap.size 5 1 (.slice co s.length cc) s.length (s.map B) := hr2
  have hB2 : Blk w2 ob #[.int .i64 0, .int .i64 0, .int .i64 0, .int .i64 0, .slice none 0 0] 45 := Blk.below HBX.out HC2.1 HBX.out.lt
  refine lyp Fp16 rfl HC2 rfl (by omega) (wanted_none rfl) (v := Value.agg #[.int .i64 x.me, .int .i64 x.peer, .int .i64 seq, .int .i64 (x.next - 1), .slice co s.length cc]) (fun wr hwr => by simp only [execOp, List.map_toArray, List.map_cons, List.map_nil, (Fp16.eval 10 (by omega)).trans (show _ = Value.int .i64 x.me from by simp [upd, e0, e1, e2, e6]), (Fp16.eval 14 (by omega)).trans (show _ = Value.int .i64 x.peer from by simp [upd, e0, e1, e2, e6]), (Fp16.eval 15 (by omega)).trans (show _ = Value.int .i64 seq from by simp [upd, e0, e1, e2, e6]), (Fp16.eval 20 (by omega)).trans (show _ = Value.int .i64 (x.next - 1) from by simp [upd, e0, e1, e2, e6]), (Fp16.eval 22 (by omega)).trans (show _ = Value.slice co s.length cc from by simp [upd, e0, e1, e2, e6])]; simp [go_sem]) fun Fp17 => ?_
  have y0 := hB2.cell 0
  have f0 := hB2.frozen 0
  have y1 := hB2.cell 1
  have f1 := hB2.frozen 1
  have y2 := hB2.cell 2
  have f2 := hB2.frozen 2
  have y3 := hB2.cell 3
  have f3 := hB2.frozen 3
  have y4 := hB2.cell 4
  have f4 := hB2.frozen 4
  refine lst rfl HC2 rfl (wanted_none rfl) (w1 := ((((w2.setCell ⟨ob, 0, none⟩ (.int .i64 x.me)).setCell ⟨ob, 1, none⟩ (.int .i64 x.peer)).setCell ⟨ob, 2, none⟩ (.int .i64 seq)).setCell ⟨ob, 3, none⟩ (.int .i64 (x.next - 1))).setCell ⟨ob, 4, none⟩ (.slice co s.length cc)) (by simp only [execOp, (Fp17.eval 6 (by omega)).trans (show _ = Value.pointer (some ⟨ob, 0, none⟩) from by simp [upd, e0, e1, e2, e6]), (Fp17.eval 23 (by omega)).trans (show _ = Value.agg #[.int .i64 x.me, .int .i64 x.peer, .int .i64 seq, .int .i64 (x.next - 1), .slice co s.length cc] from by simp [upd, e0, e1, e2, e6])]; simp [go_sem, f0, f1, f2, f3, f4, y0, y1, y2, y3, y4]) ?_
  refine ⟨fun h => by omega, ?_⟩
  refine hK _ _ ?_
  clear F0 Fp1 Fp2 Fp3 Fp4 Fp5 Fp6 Fp7 Fp8 Fp9 Fp10 Fp11 Fp12 Fp13 Fp14 Fp15 Fp16 Fp17 e0 e1 e2 e6 HCC HCL V0 V1 V9 hb2 y0 y1 y2 y3 y4 f0 f1 f2 f3 f4
  simp only [Act.put, List.setIfInBounds_toArray, List.set_cons_succ, List.set_cons_zero]
  obtain ⟨Y, hY⟩ : ∃ Y, Y = ((((w2.setCell ⟨ob, 0, none⟩ (.int .i64 x.me)).setCell ⟨ob, 1, none⟩ (.int .i64 x.peer)).setCell ⟨ob, 2, none⟩ (.int .i64 seq)).setCell ⟨ob, 3, none⟩ (.int .i64 (x.next - 1))).setCell ⟨ob, 4, none⟩ (.slice co s.length cc) := ⟨_, rfl⟩
  rw [← hY]
  have HF : Hid (Below w.heap.size w Y) := show Below w.heap.size w Y from by
    rw [hY]
    refine (HbX.out.trans (HC2.1.mono HbX.out.size)).trans ?_
    have hsz : w.heap.size ≤ w2.heap.size := Nat.le_trans HbX.out.size HC2.1.size
    have hst : ∀ (W : World) (j : Nat) (u : Value), w.heap.size ≤ W.heap.size → Below w.heap.size W (W.setCell ⟨ob, j, none⟩ u) := fun W j u hW => (setCell_chg W ob j u).below hW (fun k hk => by rw [hk, HOB.out]; exact Nat.le_refl _)
    have z0 := hst w2 0 (.int .i64 x.me) hsz
    have z1 := hst _ 1 (.int .i64 x.peer) (Nat.le_trans hsz z0.size)
    have z2 := hst _ 2 (.int .i64 seq) (Nat.le_trans (Nat.le_trans hsz z0.size) z1.size)
    have z3 := hst _ 3 (.int .i64 (x.next - 1)) (Nat.le_trans (Nat.le_trans (Nat.le_trans hsz z0.size) z1.size) z2.size)
    have z4 := hst _ 4 (.slice co s.length cc) (Nat.le_trans (Nat.le_trans (Nat.le_trans (Nat.le_trans hsz z0.size) z1.size) z2.size) z3.size)
    exact (((z0.trans z1).trans z2).trans z3).trans z4
  have HBY : Hid (Blk Y ob #[.int .i64 x.me, .int .i64 x.peer, .int .i64 seq, .int .i64 (x.next - 1), .slice co s.length cc] 45) := show Blk Y ob #[.int .i64 x.me, .int .i64 x.peer, .int .i64 seq, .int .i64 (x.next - 1), .slice co s.length cc] 45 from by
    rw [hY]
    exact ((((hB2.set 0 _).set 1 _).set 2 _).set 3 _).set 4 _
  have HO : Hid (Y.ownsRow w.heap.size 5 1 (.slice co s.length cc) s.length (s.map B)) := show World.ownsRow _ _ _ _ _ _ _ from by
    have hne : ∀ g, (Value.slice co s.length cc).ownBlock = some g → g ≠ ob := fun g e e2 => by
      have h1 := (ownsRow_lt hr2 e).1
      have h2 := HBX.out.lt
      omega
    have h1 : w2.ownsRow w.heap.size 5 1 (.slice co s.length cc) s.length (s.map B) := ownsRow_mono hr2 HbX.out.size
    rw [hY]
    have st : ∀ (W : World) (j : Nat) (u : Value), W.ownsRow w.heap.size 5 1 (.slice co s.length cc) s.length (s.map B) → (W.setCell ⟨ob, j, none⟩ u).ownsRow w.heap.size 5 1 (.slice co s.length cc) s.length (s.map B) := fun W j u hW => ownsRow_same hW (fun g e => Below.heap_setCell _ _ _ _ (fun e2 => hne g e e2))
    exact st _ _ _ (st _ _ _ (st _ _ _ (st _ _ _ (st _ _ _ h1))))
  clear hY HC2 hB2 hr2 c0 c1 c9
  go_wp2_with fail
  exact bodyPost_ret (results_cell_row Try.results28 _ _ ob 45 _ (0, 0) _ rfl HBY.out Try.underlying45 rfl (by kernel_rfl)) rfl ⟨_, rfl, HO.out, HF.out⟩
end Go.Proofs.Ytcjgicfmfjomgaa
