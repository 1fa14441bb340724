import Derived.Test.YtjmbhaoehfdpoaaDoorVVw
namespace Go.Proofs.YtjmbhaoehfdpoaaDoor
open Go.RowKit Go.PlainAid Go.MapKept
set_option linter.unusedVariables false
set_option linter.unusedSimpArgs false
set_option maxRecDepth 100000 in
set_option maxHeartbeats 1600000 in
theorem keep_any {hb mb : Nat} {me N : Int} {L : List Ent} (r : Int) (e : Ent) (w : World) (hV : Vw hb mb me N L w) (hl : e.n.length ≤ 140737488355328) :
    Calls Tryd.prog 66 #[.pointer (some ⟨hb, 0, none⟩), .int .i64 r, viewV e] w fun q w' => q = .returned (.tuple #[]) ∧ Vw hb mb me N (putE { e with r := r } L) w' ∧ Chg (fun k => k = mb) w w' := by
  obtain ⟨er, n, c, rc, v, d, u, h⟩ := e
  simp only at hl
  unfold viewV
  simp only
  have HCL : Hid _ := fun w => clone_any n w (by omega)
  have hB := view_box ⟨er, n, c, rc, v, d, u, h⟩ w
  simp only at hB
  have hgr : Below w.heap.size w (w.alloc (.cells #[.string ⟨n.toArray⟩, .int .i64 c, .int .i64 rc, .int .i64 v, .int .i64 d, .int .i64 u, .int .i64 h] 86)) := (Below.refl _ _).alloc (Nat.le_refl _) _
  have HB : Hid _ := hB
  have HG : Hid _ := hgr
  have HVV : Hid _ := hV
  clear hB hgr hV
  go_enter Tryd.func66, Tryd.ntmps66
  go_wp2_with fail
  refine Calls.mono (HCL.out _) ?_
  rintro e w2 ⟨rfl, hb2⟩
  have hB2 : Blk w2 w.heap.size #[.string ⟨n.toArray⟩, .int .i64 c, .int .i64 rc, .int .i64 v, .int .i64 d, .int .i64 u, .int .i64 h] 86 := Blk.below HB.out hb2 (Blk.lt HB.out)
  have fz := hB2.frozen 0
  have hb3 : Below w.heap.size w (w2.setCell ⟨w.heap.size, 0, none⟩ (.string ⟨n.toArray⟩)) := by
    have q1 : Below w.heap.size w w2 := HG.out.trans (hb2.mono HG.out.size)
    exact q1.trans ⟨rfl, rfl, rfl, by simp [World.setCell], fun k hk => Below.heap_setCell _ _ _ _ (Nat.ne_of_lt hk)⟩
  have hB3 : Blk (w2.setCell ⟨w.heap.size, 0, none⟩ (.string ⟨n.toArray⟩)) w.heap.size #[.string ⟨n.toArray⟩, .int .i64 c, .int .i64 rc, .int .i64 v, .int .i64 d, .int .i64 u, .int .i64 h] 86 := hB2.set 0 (.string ⟨n.toArray⟩)
  have cz : w2.cell? ⟨w.heap.size, 0, none⟩ = some (.string ⟨n.toArray⟩) := hB2.cell 0
  have HH := HVV.out.more hb3
  have HV := box_cells (e := ⟨er, n, c, rc, v, d, u, h⟩) hB3
  have HB3 : Hid _ := hb3
  clear hB2 hb3 hB3 hb2 HB HG HVV HCL
  go_wp2_with fail
  generalize w2.setCell ⟨w.heap.size, 0, none⟩ (.string ⟨n.toArray⟩) = X at *
  obtain ⟨bx, hbx⟩ : ∃ bx, bx = w.heap.size := ⟨_, rfl⟩
  rw [← hbx] at HV ⊢
  clear cz fz
  try rw [show ∀ a : Act, a.put none undef = a from fun _ => rfl]
  refine wp_region_mix (fun wq => Below X.heap.size X wq) (fun i => i == 9) 9 (by kernel_rfl) rfl (by kernel_rfl) (by kernel_rfl) (by kernel_rfl) ?_
  refine withFrP (N := 19) rfl ?_
  intro f0 F0 hff
  have e0 : f0 0 = Value.pointer (some ⟨hb, 0, none⟩) := hff 0
  have e1 : f0 1 = Value.int .i64 r := hff 1
  have e5 : f0 5 = Value.pointer (some ⟨bx, 0, none⟩) := hff 5
  clear hff
  have HCC : (fun wq => Below X.heap.size X wq) (({ X with drawn := X.drawn + 1 } : World)) := (Below.drew (Below.refl X.heap.size X))
  have VB : ∀ wr, Below X.heap.size X wr → VAt wr bx 0 ⟨er, n, c, rc, v, d, u, h⟩ := fun wr hw => HV.keep (hw.block bx HV.lt)
  have VH : ∀ wr, Below X.heap.size X wr → wr.cell? ⟨hb, 2, none⟩ = some (.map (some mb)) := fun wr hw => (hw.cell (p := ⟨hb, 2, none⟩) (World.block_lt_of_cell? X _ HH.c2)).trans HH.c2
  obtain ⟨w4, hrun, hm4, hc4, hs4⟩ := HMap.put (w := ({ X with drawn := X.drawn + 1 } : World)) (HMap.same HH.map rfl) ⟨r, n, c, rc, v, d, u, h⟩
  unfold keyV viewV at hrun
  simp only at hrun
  refine lyp F0 rfl HCC rfl (by omega) (wanted_none rfl) (v := Value.pointer (some ⟨hb, 0, none⟩)) (fun wr hwr => by simp only [execOp, (F0.eval 0 (by omega)).trans (show _ = Value.pointer (some ⟨hb, 0, none⟩) from by simp [upd, e0, e1, e5])]; first | rfl | simp [go_sem]) fun F1 => ?_
  refine lyp F1 rfl HCC rfl (by omega) (wanted_none rfl) (v := Value.pointer (some ⟨hb, 0, none⟩)) (fun wr hwr => by simp only [execOp, (F1.eval 10 (by omega)).trans (show _ = Value.pointer (some ⟨hb, 0, none⟩) from by simp [upd, e0, e1, e5])]; simp [go_sem]) fun F2 => ?_
  refine lyp F2 rfl HCC rfl (by omega) (wanted_none rfl) (v := Value.pointer (some ⟨hb, 2, none⟩)) (fun wr hwr => by simp only [execOp, (F2.eval 11 (by omega)).trans (show _ = Value.pointer (some ⟨hb, 0, none⟩) from by simp [upd, e0, e1, e5])]; simp [go_sem]) fun F3 => ?_
  refine lyp F3 rfl HCC rfl (by omega) (wanted_none rfl) (v := Value.map (some mb)) (fun wr hwr => by simp only [execOp, (F3.eval 12 (by omega)).trans (show _ = Value.pointer (some ⟨hb, 2, none⟩) from by simp [upd, e0, e1, e5])]; simp [go_sem, VH wr hwr]) fun F4 => ?_
  refine lyp F4 rfl HCC rfl (by omega) (wanted_none rfl) (v := Value.int .i64 r) (fun wr hwr => by simp only [execOp, (F4.eval 1 (by omega)).trans (show _ = Value.int .i64 r from by simp [upd, e0, e1, e5])]; first | rfl | simp [go_sem]) fun F5 => ?_
  refine lyp F5 rfl HCC rfl (by omega) (wanted_none rfl) (v := Value.pointer (some ⟨bx, 0, none⟩)) (fun wr hwr => by simp only [execOp, (F5.eval 5 (by omega)).trans (show _ = Value.pointer (some ⟨bx, 0, none⟩) from by simp [upd, e0, e1, e5])]; simp [go_sem]) fun F6 => ?_
  refine lyp F6 rfl HCC rfl (by omega) (wanted_none rfl) (v := Value.string ⟨n.toArray⟩) (fun wr hwr => by simp only [execOp, (F6.eval 15 (by omega)).trans (show _ = Value.pointer (some ⟨bx, 0, none⟩) from by simp [upd, e0, e1, e5])]; simp [go_sem, (VB wr hwr).c0]) fun F7 => ?_
  refine lyp F7 rfl HCC rfl (by omega) (wanted_none rfl) (v := Value.agg #[.int .i64 r, .string ⟨n.toArray⟩]) (fun wr hwr => by simp only [execOp, (F7.eval 14 (by omega)).trans (show _ = Value.int .i64 r from by simp [upd, e0, e1, e5]), (F7.eval 16 (by omega)).trans (show _ = Value.string ⟨n.toArray⟩ from by simp [upd, e0, e1, e5])]; simp [go_sem, Act.eval]) fun F8 => ?_
  refine lyp F8 rfl HCC rfl (by omega) (wanted_none rfl) (v := Value.agg #[.string ⟨n.toArray⟩, .int .i64 c, .int .i64 rc, .int .i64 v, .int .i64 d, .int .i64 u, .int .i64 h]) (fun wr hwr => by simp only [execOp, (F8.eval 5 (by omega)).trans (show _ = Value.pointer (some ⟨bx, 0, none⟩) from by simp [upd, e0, e1, e5])]; simp [go_sem, (VB wr hwr).c0, (VB wr hwr).c1, (VB wr hwr).c2, (VB wr hwr).c3, (VB wr hwr).c4, (VB wr hwr).c5, (VB wr hwr).c6]) fun F9 => ?_
  refine lst rfl HCC rfl (wanted_none rfl) (w1 := w4) (by simp only [execOp, (F9.eval 13 (by omega)).trans (show _ = Value.map (some mb) from by simp [upd, e0, e1, e5]), (F9.eval 17 (by omega)).trans (show _ = Value.agg #[.int .i64 r, .string ⟨n.toArray⟩] from by simp [upd, e0, e1, e5]), (F9.eval 18 (by omega)).trans (show _ = Value.agg #[.string ⟨n.toArray⟩, .int .i64 c, .int .i64 rc, .int .i64 v, .int .i64 d, .int .i64 u, .int .i64 h] from by simp [upd, e0, e1, e5])]; simp [go_sem, show (Instr.mapUpdate 64 (.map (some mb)) (.agg #[.int .i64 r, .string ⟨n.toArray⟩]) (.agg #[.string ⟨n.toArray⟩, .int .i64 c, .int .i64 rc, .int .i64 v, .int .i64 d, .int .i64 u, .int .i64 h])).run Tryd.prog X.drew = .ok () w4 from hrun]) ?_
  refine ⟨fun h => by omega, ?_⟩
  clear F0 F1 F2 F3 F4 F5 F6 F7 F8 F9 e0 e1 e5 HCC VB VH
  simp only [Act.put, List.setIfInBounds_toArray, List.set_cons_succ, List.set_cons_zero]
  have hfin : Vw hb mb me N (putE ⟨r, n, c, rc, v, d, u, h⟩ L) w4 := ⟨hc4.blk (show Blk _ hb _ 66 from HH.blk) HH.ne, hm4⟩
  have hch : Chg (fun k => k = mb) w w4 := ((Chg.ofBelow (fun k => k = mb) HB3.out).drewN 1).trans hc4 (fun _ _ e => e)
  have HFI : Hid _ := hfin
  have HCH : Hid _ := hch
  clear hfin hch hc4 hm4 hrun hs4 HH HV
  go_wp2_with fail
  first | go_end0 | go_ret
  exact ⟨rfl, HFI.out, HCH.out⟩
end Go.Proofs.YtjmbhaoehfdpoaaDoor
