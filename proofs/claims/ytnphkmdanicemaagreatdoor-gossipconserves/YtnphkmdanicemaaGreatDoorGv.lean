import Derived.Test.YtnphkmdanicemaaGreatDoorJE
namespace Go.Proofs.YtnphkmdanicemaaGreatDoor
open Go.RowKit Go.PlainAid Go.MapKept
set_option linter.unusedVariables false
set_option linter.unusedSimpArgs false
set_option maxRecDepth 100000 in
set_option maxHeartbeats 6400000 in
theorem ggive_any {S : Led.Sens} {Ls : Nat} {gb lb : Nat} {s : Led.LS} (wd wu : Int) (w : World) (hB : Blk w lb s.cs 82) (ho : s.Ok) (hd : IntKind.i64.wrap s.d = s.d) (hu : IntKind.i64.wrap s.u = s.u) (hS : Led.Sen S Ls w) (hL : Ls ≤ lb) :
    Calls Tryz.prog 23 #[.pointer (some ⟨gb, 0, none⟩), .pointer (some ⟨lb, 0, none⟩), .agg #[.int .i64 wd, .int .i64 wu]] w fun e w' => e = .returned (.agg #[.int .i64 (giveI s.d wd), .int .i64 (giveI s.u wu)]) ∧ Blk w' lb (s.onext (giveI s.d wd) (giveI s.u wu)).cs 82 ∧ Chg (fun k => k = lb) w w' := by
  obtain ⟨b5, hb5⟩ : ∃ b, b = w.heap.size := ⟨_, rfl⟩
  obtain ⟨b6, hb6⟩ : ∃ b, b = b5 + 1 := ⟨_, rfl⟩
  obtain ⟨X0, hX0⟩ : ∃ X, X = (w.alloc (.cells #[.int .i64 wd, .int .i64 wu] 37)).alloc (.cells #[.int .i64 0, .int .i64 0] 37) := ⟨_, rfl⟩
  have hbX0 : Below w.heap.size w X0 := by rw [hX0]; exact ((Below.refl _ _).alloc (Nat.le_refl _) _).alloc (by simp) _
  have hB5 : Blk X0 b5 #[.int .i64 wd, .int .i64 wu] 37 := by rw [hX0, hb5]; exact (Below.heap_alloc _ _ _ (by simp)).trans (heap_alloc_new w _)
  have hB6 : Blk X0 b6 #[.int .i64 0, .int .i64 0] 37 := by rw [hX0, hb6, hb5]; have := heap_alloc_new (w.alloc (.cells #[.int .i64 wd, .int .i64 wu] 37)) (.cells #[.int .i64 0, .int .i64 0] 37); rwa [World.size_alloc] at this
  have HRI : Hid _ := Led.rights_any X0 (hB.below hbX0 hB.lt)
  have HG1 : Hid (∀ W, _) := fun W => give_any s.d wd hd W
  have HG2 : Hid (∀ W, _) := fun W => give_any s.u wu hu W
  have HON : Hid (∀ W g1 g2, Below w.heap.size w W → Calls Tryz.prog 36 #[.pointer (some ⟨lb, 0, none⟩), .agg #[.int .i64 g1, .int .i64 g2]] W fun r w' => r = .returned (.int .i64 (s.ocode g1 g2)) ∧ Blk w' lb (s.onext g1 g2).cs 82 ∧ Led.Stq lb W w') := fun W g1 g2 hb => Led.out_any W (hS.below (hb.mono (Nat.le_of_lt (Nat.lt_of_le_of_lt hL hB.lt)))) (hB.below hb hB.lt) ho hL g1 g2
  have HB : Hid (Blk w lb s.cs 82) := hB
  have HLO : Hid (lb < b5 ∧ b5 = w.heap.size ∧ b6 = b5 + 1) := ⟨by rw [hb5]; exact hB.lt, hb5, hb6⟩
  have HX0 : Hid (Below w.heap.size w X0) := hbX0
  have HB50 : Hid (Blk X0 b5 #[.int .i64 wd, .int .i64 wu] 37) := hB5
  have HB60 : Hid (Blk X0 b6 #[.int .i64 0, .int .i64 0] 37) := hB6
  generalize giveI s.d wd = g1 at *
  generalize giveI s.u wu = g2 at *
  clear hB ho hd hu hbX0 hB5 hB6 hS hL
  go_enter Tryz.func23, Tryz.ntmps23
  go_upto_region 1 with fail
  rw [← hX0, ← hb5, ← hb6]
  clear hX0 hb5 hb6
  go_wp2_with fail
  refine Calls.mono HRI.out ?_
  rintro e9 V0 ⟨rfl, hb0⟩
  obtain ⟨b7, hb7⟩ : ∃ b, b = V0.heap.size := ⟨_, rfl⟩
  obtain ⟨X, hX⟩ : ∃ X, X = V0.alloc (.cells #[.int .i64 s.d, .int .i64 s.u] 37) := ⟨_, rfl⟩
  have hbx : Below V0.heap.size V0 X := by rw [hX]; exact (Below.refl _ _).alloc (Nat.le_refl _) _
  have hbX : Below X0.heap.size X0 X := hb0.trans (hbx.mono hb0.size)
  have HB7 : Hid (Blk X b7 #[.int .i64 s.d, .int .i64 s.u] 37) := show Blk X b7 #[.int .i64 s.d, .int .i64 s.u] 37 from by rw [hX, hb7]; exact heap_alloc_new V0 _
  have HB5 : Hid (Blk X b5 #[.int .i64 wd, .int .i64 wu] 37) := HB50.out.below hbX HB50.out.lt
  have HB6 : Hid (Blk X b6 #[.int .i64 0, .int .i64 0] 37) := HB60.out.below hbX HB60.out.lt
  have HBX : Hid (Below w.heap.size w X) := HX0.out.trans (hbX.mono HX0.out.size)
  go_upto_region 2 with fail
  rw [← hX, ← hb7]
  clear hX hb7 hbx hbX hb0 HRI HB50 HB60 HX0
  go_wp2_with fail
  rename_i K hK
  try rw [show ∀ a : Act, a.put none undef = a from fun _ => rfl]
  have hrest : ∀ (a : Act) (f' : Nat → Value) (Y : World) (bx : Nat), Fr 26 a f' → f' 1 = Value.pointer (some ⟨lb, 0, none⟩) → f' 6 = Value.pointer (some ⟨b6, 0, none⟩) → f' 8 = Value.pointer (some ⟨bx, 0, none⟩) → Blk Y bx #[.int .i64 g1, .int .i64 g2] 37 → Below X.heap.size X Y → X.heap.size ≤ bx → K a Y := by
    intro a f' Y bx F' k1 k6 k8 hBx hCx hlx
    refine hK _ _ ?_
    rw [F'.lit, show ((List.range 26).map f').toArray = #[f' 0, f' 1, f' 2, f' 3, f' 4, f' 5, f' 6, f' 7, f' 8, f' 9, f' 10, f' 11, f' 12, f' 13, f' 14, f' 15, f' 16, f' 17, f' 18, f' 19, f' 20, f' 21, f' 22, f' 23, f' 24, f' 25] from rfl, k1, k6, k8]
    have hwY : Below w.heap.size w Y := HBX.out.trans (hCx.mono HBX.out.size)
    have HO : Hid _ := HON.out Y g1 g2 hwY
    have y0 : Y.cell? ⟨bx, 0, none⟩ = some (.int .i64 g1) := hBx.cell 0
    have y1 : Y.cell? ⟨bx, 1, none⟩ = some (.int .i64 g2) := hBx.cell 1
    have HBx : Hid (Blk Y bx #[.int .i64 g1, .int .i64 g2] 37) := hBx
    have HB6Y : Hid (Blk Y b6 #[.int .i64 0, .int .i64 0] 37) := HB6.out.below hCx HB6.out.lt
    have HWY : Hid (Below w.heap.size w Y) := hwY
    have HBL : Hid (Blk Y lb s.cs 82) := HB.out.below hwY HB.out.lt
    have HNX : Hid (b6 ≠ bx) := show b6 ≠ bx from by have := HB6.out.lt; omega
    clear hK F' k1 k6 k8 hBx hCx hlx hwY
    go_wp2_with fail
    refine Calls.mono HO.out ?_
    rintro e9 U ⟨rfl, hU, hst⟩
    have hcU := Stq_chg hst
    have hBxU : Blk U bx #[.int .i64 g1, .int .i64 g2] 37 := hcU.blk HBx.out (Blk.ne_t HBx.out HBL.out (by decide))
    have hB6U : Blk U b6 #[.int .i64 0, .int .i64 0] 37 := hcU.blk HB6Y.out (Blk.ne_t HB6Y.out HBL.out (by decide))
    have u0 : U.cell? ⟨bx, 0, none⟩ = some (.int .i64 g1) := hBxU.cell 0
    have u1 : U.cell? ⟨bx, 1, none⟩ = some (.int .i64 g2) := hBxU.cell 1
    have v0 : U.cell? ⟨b6, 0, none⟩ = some (.int .i64 0) := hB6U.cell 0
    have v1 : U.cell? ⟨b6, 1, none⟩ = some (.int .i64 0) := hB6U.cell 1
    have f0 : U.frozen? ⟨b6, 0, none⟩ = false := hB6U.frozen 0
    have f1 : U.frozen? ⟨b6, 1, none⟩ = false := hB6U.frozen 1
    have HBU6 : Hid (Blk ((U.setCell ⟨b6, 0, none⟩ (.int .i64 g1)).setCell ⟨b6, 1, none⟩ (.int .i64 g2)) b6 #[.int .i64 g1, .int .i64 g2] 37) := (hB6U.set 0 (.int .i64 g1)).set 1 (.int .i64 g2)
    have hc6 : Chg (fun k => k = b6) U ((U.setCell ⟨b6, 0, none⟩ (.int .i64 g1)).setCell ⟨b6, 1, none⟩ (.int .i64 g2)) := (setCell_chg U b6 0 _).trans (setCell_chg _ b6 1 _) (fun _ _ e => e)
    have HLU : Hid (Blk ((U.setCell ⟨b6, 0, none⟩ (.int .i64 g1)).setCell ⟨b6, 1, none⟩ (.int .i64 g2)) lb (s.onext g1 g2).cs 82) := hc6.blk hU (by have := HLO.out; omega)
    have HCF : Hid (Chg (fun k => k = lb) w ((U.setCell ⟨b6, 0, none⟩ (.int .i64 g1)).setCell ⟨b6, 1, none⟩ (.int .i64 g2))) := ((Chg.ofBelow _ HWY.out).trans hcU (fun _ _ e => e)).trans hc6 (fun j hj e => by have := HLO.out; omega)
    clear hU hst hcU hBxU hB6U hc6 y0 y1
    go_wp2_with fail
    refine bodyPost_ret (results_cell_row Tryz.results23 _ _ b6 37 _ (0, 0) _ rfl HBU6.out Tryz.underlying37 rfl (by kernel_rfl)) rfl ?_
    exact ⟨rfl, HLU.out, HCF.out⟩
  refine wp_region_plan (fun wq => Blk wq b7 #[.int .i64 s.d, .int .i64 s.u] 37 ∧ Blk wq b5 #[.int .i64 wd, .int .i64 wu] 37 ∧ Below X.heap.size X wq) (fun i => i == 4 || i == 9 || i == 11 || i == 12) 12 (.one 0 (.one 1 (.one 2 (.one 3 (.one 5 (.one 6 (.one 7 (.one 8 (.two 4 11 (.two 9 11 (.one 10 (.one 11 (.one 12 (.done)))) (.one 9 (.one 10 (.one 12 (.done))))) (.one 4 (.one 9 (.one 10 (.one 12 (.done))))))))))))) ) (by kernel_rfl) rfl (by kernel_rfl) (by kernel_rfl) rfl (by kernel_rfl) ?_
  refine withFrG (N := 26) rfl ?_
  intro a0 f0 F0 hff
  have hs1 : f0 1 = Value.pointer (some ⟨lb, 0, none⟩) := hff 1
  have hs5 : f0 5 = Value.pointer (some ⟨b5, 0, none⟩) := hff 5
  have hs6 : f0 6 = Value.pointer (some ⟨b6, 0, none⟩) := hff 6
  have hs7 : f0 7 = Value.pointer (some ⟨b7, 0, none⟩) := hff 7
  clear hff
  have hC0 : (fun wq => Blk wq b7 #[.int .i64 s.d, .int .i64 s.u] 37 ∧ Blk wq b5 #[.int .i64 wd, .int .i64 wu] 37 ∧ Below X.heap.size X wq) ({ X with drawn := X.drawn + 1 } : World) := ⟨HB7.out, HB5.out, Below.drew (Below.refl X.heap.size X)⟩
  refine py (k := 0) rfl F0 rfl hC0 rfl (by omega) (wanted_none rfl) (v := Value.pointer (some ⟨b7, 0, none⟩)) (fun wr hwr => by simp only [execOp, (F0.eval 7 (by omega)).trans (show _ = Value.pointer (some ⟨b7, 0, none⟩) from by simp [upd, hs1, hs5, hs6, hs7])]; simp [go_sem]) fun a1 F1 => ?_
  refine py (k := 1) rfl F1 rfl hC0 rfl (by omega) (wanted_none rfl) (v := Value.int .i64 s.d) (fun wr hwr => by simp only [execOp, (F1.eval 11 (by omega)).trans (show _ = Value.pointer (some ⟨b7, 0, none⟩) from by simp [upd, hs1, hs5, hs6, hs7])]; simp [go_sem, show wr.cell? ⟨b7, 0, none⟩ = some (.int .i64 s.d) from hwr.1.cell 0]) fun a2 F2 => ?_
  refine py (k := 2) rfl F2 rfl hC0 rfl (by omega) (wanted_none rfl) (v := Value.pointer (some ⟨b5, 0, none⟩)) (fun wr hwr => by simp only [execOp, (F2.eval 5 (by omega)).trans (show _ = Value.pointer (some ⟨b5, 0, none⟩) from by simp [upd, hs1, hs5, hs6, hs7])]; simp [go_sem]) fun a3 F3 => ?_
  refine py (k := 3) rfl F3 rfl hC0 rfl (by omega) (wanted_none rfl) (v := Value.int .i64 wd) (fun wr hwr => by simp only [execOp, (F3.eval 13 (by omega)).trans (show _ = Value.pointer (some ⟨b5, 0, none⟩) from by simp [upd, hs1, hs5, hs6, hs7])]; simp [go_sem, show wr.cell? ⟨b5, 0, none⟩ = some (.int .i64 wd) from hwr.2.1.cell 0]) fun a4 F4 => ?_
  refine py (k := 5) rfl F4 rfl hC0 rfl (by omega) (wanted_none rfl) (v := Value.pointer (some ⟨b7, 1, none⟩)) (fun wr hwr => by simp only [execOp, (F4.eval 7 (by omega)).trans (show _ = Value.pointer (some ⟨b7, 0, none⟩) from by simp [upd, hs1, hs5, hs6, hs7])]; simp [go_sem]) fun a5 F5 => ?_
  refine py (k := 6) rfl F5 rfl hC0 rfl (by omega) (wanted_none rfl) (v := Value.int .i64 s.u) (fun wr hwr => by simp only [execOp, (F5.eval 16 (by omega)).trans (show _ = Value.pointer (some ⟨b7, 1, none⟩) from by simp [upd, hs1, hs5, hs6, hs7])]; simp [go_sem, show wr.cell? ⟨b7, 1, none⟩ = some (.int .i64 s.u) from hwr.1.cell 1]) fun a6 F6 => ?_
  refine py (k := 7) rfl F6 rfl hC0 rfl (by omega) (wanted_none rfl) (v := Value.pointer (some ⟨b5, 1, none⟩)) (fun wr hwr => by simp only [execOp, (F6.eval 5 (by omega)).trans (show _ = Value.pointer (some ⟨b5, 0, none⟩) from by simp [upd, hs1, hs5, hs6, hs7])]; simp [go_sem]) fun a7 F7 => ?_
  refine py (k := 8) rfl F7 rfl hC0 rfl (by omega) (wanted_none rfl) (v := Value.int .i64 wu) (fun wr hwr => by simp only [execOp, (F7.eval 18 (by omega)).trans (show _ = Value.pointer (some ⟨b5, 1, none⟩) from by simp [upd, hs1, hs5, hs6, hs7])]; simp [go_sem, show wr.cell? ⟨b5, 1, none⟩ = some (.int .i64 wu) from hwr.2.1.cell 1]) fun a8 F8 => ?_
  refine pfork hC0 ?_ ?_
  · refine pc' (k := 4) rfl F8 rfl rfl (by omega) (wanted_none rfl) (g := 46) (args := #[.int .i64 s.d, .int .i64 wd]) (by simp only [execOp, resolve, invoke, List.map_toArray, List.map_cons, List.map_nil, (F8.eval 12 (by omega)).trans (show _ = Value.int .i64 s.d from by simp [upd, hs1, hs5, hs6, hs7]), (F8.eval 14 (by omega)).trans (show _ = Value.int .i64 wd from by simp [upd, hs1, hs5, hs6, hs7])]; simp [go_sem, Act.eval]) (HG1.out ({ X with drawn := X.drawn + 1 } : World)) ?_
    rintro e9 V1 ⟨rfl, hv1⟩
    refine ⟨_, rfl, fun aA1 FA1 => ?_⟩
    have hC1 : (fun wq => Blk wq b7 #[.int .i64 s.d, .int .i64 s.u] 37 ∧ Blk wq b5 #[.int .i64 wd, .int .i64 wu] 37 ∧ Below X.heap.size X wq) V1 := by rw [hv1]; exact hC0
    refine pfork hC1 ?_ ?_
    · refine pc' (k := 9) rfl FA1 rfl rfl (by omega) (wanted_none rfl) (g := 46) (args := #[.int .i64 s.u, .int .i64 wu]) (by simp only [execOp, resolve, invoke, List.map_toArray, List.map_cons, List.map_nil, (FA1.eval 17 (by omega)).trans (show _ = Value.int .i64 s.u from by simp [upd, hs1, hs5, hs6, hs7]), (FA1.eval 19 (by omega)).trans (show _ = Value.int .i64 wu from by simp [upd, hs1, hs5, hs6, hs7])]; simp [go_sem, Act.eval]) (HG2.out V1) ?_
      rintro e9 V2 ⟨rfl, hv2⟩
      refine ⟨_, rfl, fun aB1 FB1 => ?_⟩
      have hC2 : (fun wq => Blk wq b7 #[.int .i64 s.d, .int .i64 s.u] 37 ∧ Blk wq b5 #[.int .i64 wd, .int .i64 wu] 37 ∧ Below X.heap.size X wq) V2 := by rw [hv2]; exact hC1
      refine py (k := 10) rfl FB1 rfl hC2 rfl (by omega) (wanted_none rfl) (v := Value.agg #[.int .i64 g1, .int .i64 g2]) (fun wr hwr => by simp only [execOp, List.map_toArray, List.map_cons, List.map_nil, (FB1.eval 15 (by omega)).trans (show _ = Value.int .i64 g1 from by simp [upd, hs1, hs5, hs6, hs7]), (FB1.eval 20 (by omega)).trans (show _ = Value.int .i64 g2 from by simp [upd, hs1, hs5, hs6, hs7])]; simp [go_sem]; try rfl) fun aB2 FB2 => ?_
      refine pe (k := 11) rfl FB2 rfl hC2 rfl (by omega) (wanted_none rfl) (v := Value.pointer (some ⟨V2.heap.size, 0, none⟩)) (w1 := V2.alloc (.cells #[.int .i64 0, .int .i64 0] 37)) (by simp only [execOp]; simp [go_sem, zero36]) fun aB3 FB3 => ?_
      have hBz : Blk (V2.alloc (.cells #[.int .i64 0, .int .i64 0] 37)) V2.heap.size #[.int .i64 0, .int .i64 0] 37 := heap_alloc_new V2 _
      have hbz : Below V2.heap.size V2 (V2.alloc (.cells #[.int .i64 0, .int .i64 0] 37)) := (Below.refl _ _).alloc (Nat.le_refl _) _
      have hCz : (fun wq => Blk wq b7 #[.int .i64 s.d, .int .i64 s.u] 37 ∧ Blk wq b5 #[.int .i64 wd, .int .i64 wu] 37 ∧ Below X.heap.size X wq) (V2.alloc (.cells #[.int .i64 0, .int .i64 0] 37)) := ⟨hC2.1.below hbz hC2.1.lt, hC2.2.1.below hbz hC2.2.1.lt, hC2.2.2.trans (hbz.mono hC2.2.2.size)⟩
      have hlz : X.heap.size ≤ V2.heap.size := hC2.2.2.size
      obtain ⟨Y, hY⟩ : ∃ Y, Y = ((World.setCell (V2.alloc (.cells #[.int .i64 0, .int .i64 0] 37)) ⟨V2.heap.size, 0, none⟩ (.int .i64 g1)).setCell ⟨V2.heap.size, 1, none⟩ (.int .i64 g2)) := ⟨_, rfl⟩
      have hBy : Blk Y V2.heap.size #[.int .i64 g1, .int .i64 g2] 37 := by rw [hY]; exact (Blk.set hBz 0 (.int .i64 g1)).set 1 (.int .i64 g2)
      have hCy : Below X.heap.size X Y := by rw [hY]; exact set2_below hCz.2.2 hlz _ _
      refine ps (k := 12) rfl rfl hCz rfl (wanted_none rfl) (w1 := Y) (by rw [hY]; exact storeR hBz g1 g2 rfl ((FB3.eval 8 (by omega)).trans (show _ = Value.pointer (some ⟨V2.heap.size, 0, none⟩) from by simp [upd, hs1, hs5, hs6, hs7])) ((FB3.eval 21 (by omega)).trans (show _ = Value.agg #[.int .i64 g1, .int .i64 g2] from by simp [upd, hs1, hs5, hs6, hs7]))) ?_
      refine pdone (fun h => by cases h) ?_
      exact hrest _ _ Y V2.heap.size FB3 (show _ = Value.pointer (some ⟨lb, 0, none⟩) from by simp [upd, hs1, hs5, hs6, hs7]) (show _ = Value.pointer (some ⟨b6, 0, none⟩) from by simp [upd, hs1, hs5, hs6, hs7]) (show _ = Value.pointer (some ⟨V2.heap.size, 0, none⟩) from by simp [upd, hs1, hs5, hs6, hs7]) hBy hCy hlz
    · refine pe' (k := 11) rfl FA1 rfl rfl (by omega) (wanted_none rfl) (v := Value.pointer (some ⟨V1.heap.size, 0, none⟩)) (w1 := V1.alloc (.cells #[.int .i64 0, .int .i64 0] 37)) (by simp only [execOp]; simp [go_sem, zero36]) fun aC1 FC1 => ?_
      have hBz : Blk (V1.alloc (.cells #[.int .i64 0, .int .i64 0] 37)) V1.heap.size #[.int .i64 0, .int .i64 0] 37 := heap_alloc_new V1 _
      have hbz : Below V1.heap.size V1 (V1.alloc (.cells #[.int .i64 0, .int .i64 0] 37)) := (Below.refl _ _).alloc (Nat.le_refl _) _
      have hCz : (fun wq => Blk wq b7 #[.int .i64 s.d, .int .i64 s.u] 37 ∧ Blk wq b5 #[.int .i64 wd, .int .i64 wu] 37 ∧ Below X.heap.size X wq) (V1.alloc (.cells #[.int .i64 0, .int .i64 0] 37)) := ⟨hC1.1.below hbz hC1.1.lt, hC1.2.1.below hbz hC1.2.1.lt, hC1.2.2.trans (hbz.mono hC1.2.2.size)⟩
      have hlz : X.heap.size ≤ V1.heap.size := hC1.2.2.size
      refine pc (k := 9) rfl FC1 rfl hCz rfl (by omega) (wanted_none rfl) (g := 46) (args := #[.int .i64 s.u, .int .i64 wu]) (by simp only [execOp, resolve, invoke, List.map_toArray, List.map_cons, List.map_nil, (FC1.eval 17 (by omega)).trans (show _ = Value.int .i64 s.u from by simp [upd, hs1, hs5, hs6, hs7]), (FC1.eval 19 (by omega)).trans (show _ = Value.int .i64 wu from by simp [upd, hs1, hs5, hs6, hs7])]; simp [go_sem, Act.eval]) (HG2.out (V1.alloc (.cells #[.int .i64 0, .int .i64 0] 37))) ?_
      rintro e9 V2 ⟨rfl, hv2⟩
      refine ⟨_, rfl, fun aC2 FC2 => ?_⟩
      have hC2 : (fun wq => Blk wq b7 #[.int .i64 s.d, .int .i64 s.u] 37 ∧ Blk wq b5 #[.int .i64 wd, .int .i64 wu] 37 ∧ Below X.heap.size X wq) V2 := by rw [hv2]; exact hCz
      have hB2 : Blk V2 V1.heap.size #[.int .i64 0, .int .i64 0] 37 := by rw [hv2]; exact hBz
      refine py (k := 10) rfl FC2 rfl hC2 rfl (by omega) (wanted_none rfl) (v := Value.agg #[.int .i64 g1, .int .i64 g2]) (fun wr hwr => by simp only [execOp, List.map_toArray, List.map_cons, List.map_nil, (FC2.eval 15 (by omega)).trans (show _ = Value.int .i64 g1 from by simp [upd, hs1, hs5, hs6, hs7]), (FC2.eval 20 (by omega)).trans (show _ = Value.int .i64 g2 from by simp [upd, hs1, hs5, hs6, hs7])]; simp [go_sem]; try rfl) fun aC3 FC3 => ?_
      obtain ⟨Y, hY⟩ : ∃ Y, Y = ((World.setCell V2 ⟨V1.heap.size, 0, none⟩ (.int .i64 g1)).setCell ⟨V1.heap.size, 1, none⟩ (.int .i64 g2)) := ⟨_, rfl⟩
      have hBy : Blk Y V1.heap.size #[.int .i64 g1, .int .i64 g2] 37 := by rw [hY]; exact (Blk.set hB2 0 (.int .i64 g1)).set 1 (.int .i64 g2)
      have hCy : Below X.heap.size X Y := by rw [hY]; exact set2_below hC2.2.2 hlz _ _
      refine ps (k := 12) rfl rfl hC2 rfl (wanted_none rfl) (w1 := Y) (by rw [hY]; exact storeR hB2 g1 g2 rfl ((FC3.eval 8 (by omega)).trans (show _ = Value.pointer (some ⟨V1.heap.size, 0, none⟩) from by simp [upd, hs1, hs5, hs6, hs7])) ((FC3.eval 21 (by omega)).trans (show _ = Value.agg #[.int .i64 g1, .int .i64 g2] from by simp [upd, hs1, hs5, hs6, hs7]))) ?_
      refine pdone (fun h => by cases h) ?_
      exact hrest _ _ Y V1.heap.size FC3 (show _ = Value.pointer (some ⟨lb, 0, none⟩) from by simp [upd, hs1, hs5, hs6, hs7]) (show _ = Value.pointer (some ⟨b6, 0, none⟩) from by simp [upd, hs1, hs5, hs6, hs7]) (show _ = Value.pointer (some ⟨V1.heap.size, 0, none⟩) from by simp [upd, hs1, hs5, hs6, hs7]) hBy hCy hlz
  · refine pe' (k := 11) rfl F8 rfl rfl (by omega) (wanted_none rfl) (v := Value.pointer (some ⟨({ X with drawn := X.drawn + 1 } : World).heap.size, 0, none⟩)) (w1 := ({ X with drawn := X.drawn + 1 } : World).alloc (.cells #[.int .i64 0, .int .i64 0] 37)) (by simp only [execOp]; simp [go_sem, zero36]) fun aD1 FD1 => ?_
    have hBz : Blk (({ X with drawn := X.drawn + 1 } : World).alloc (.cells #[.int .i64 0, .int .i64 0] 37)) ({ X with drawn := X.drawn + 1 } : World).heap.size #[.int .i64 0, .int .i64 0] 37 := heap_alloc_new ({ X with drawn := X.drawn + 1 } : World) _
    have hbz : Below ({ X with drawn := X.drawn + 1 } : World).heap.size ({ X with drawn := X.drawn + 1 } : World) (({ X with drawn := X.drawn + 1 } : World).alloc (.cells #[.int .i64 0, .int .i64 0] 37)) := (Below.refl _ _).alloc (Nat.le_refl _) _
    have hCz : (fun wq => Blk wq b7 #[.int .i64 s.d, .int .i64 s.u] 37 ∧ Blk wq b5 #[.int .i64 wd, .int .i64 wu] 37 ∧ Below X.heap.size X wq) (({ X with drawn := X.drawn + 1 } : World).alloc (.cells #[.int .i64 0, .int .i64 0] 37)) := ⟨hC0.1.below hbz hC0.1.lt, hC0.2.1.below hbz hC0.2.1.lt, hC0.2.2.trans (hbz.mono hC0.2.2.size)⟩
    have hlz : X.heap.size ≤ ({ X with drawn := X.drawn + 1 } : World).heap.size := hC0.2.2.size
    refine pc (k := 4) rfl FD1 rfl hCz rfl (by omega) (wanted_none rfl) (g := 46) (args := #[.int .i64 s.d, .int .i64 wd]) (by simp only [execOp, resolve, invoke, List.map_toArray, List.map_cons, List.map_nil, (FD1.eval 12 (by omega)).trans (show _ = Value.int .i64 s.d from by simp [upd, hs1, hs5, hs6, hs7]), (FD1.eval 14 (by omega)).trans (show _ = Value.int .i64 wd from by simp [upd, hs1, hs5, hs6, hs7])]; simp [go_sem, Act.eval]) (HG1.out (({ X with drawn := X.drawn + 1 } : World).alloc (.cells #[.int .i64 0, .int .i64 0] 37))) ?_
    rintro e9 V1 ⟨rfl, hv1⟩
    refine ⟨_, rfl, fun aD2 FD2 => ?_⟩
    have hC1 : (fun wq => Blk wq b7 #[.int .i64 s.d, .int .i64 s.u] 37 ∧ Blk wq b5 #[.int .i64 wd, .int .i64 wu] 37 ∧ Below X.heap.size X wq) V1 := by rw [hv1]; exact hCz
    have hB1 : Blk V1 ({ X with drawn := X.drawn + 1 } : World).heap.size #[.int .i64 0, .int .i64 0] 37 := by rw [hv1]; exact hBz
    refine pc (k := 9) rfl FD2 rfl hC1 rfl (by omega) (wanted_none rfl) (g := 46) (args := #[.int .i64 s.u, .int .i64 wu]) (by simp only [execOp, resolve, invoke, List.map_toArray, List.map_cons, List.map_nil, (FD2.eval 17 (by omega)).trans (show _ = Value.int .i64 s.u from by simp [upd, hs1, hs5, hs6, hs7]), (FD2.eval 19 (by omega)).trans (show _ = Value.int .i64 wu from by simp [upd, hs1, hs5, hs6, hs7])]; simp [go_sem, Act.eval]) (HG2.out V1) ?_
    rintro e9 V2 ⟨rfl, hv2⟩
    refine ⟨_, rfl, fun aD3 FD3 => ?_⟩
    have hC2 : (fun wq => Blk wq b7 #[.int .i64 s.d, .int .i64 s.u] 37 ∧ Blk wq b5 #[.int .i64 wd, .int .i64 wu] 37 ∧ Below X.heap.size X wq) V2 := by rw [hv2]; exact hC1
    have hB2 : Blk V2 ({ X with drawn := X.drawn + 1 } : World).heap.size #[.int .i64 0, .int .i64 0] 37 := by rw [hv2]; exact hB1
    refine py (k := 10) rfl FD3 rfl hC2 rfl (by omega) (wanted_none rfl) (v := Value.agg #[.int .i64 g1, .int .i64 g2]) (fun wr hwr => by simp only [execOp, List.map_toArray, List.map_cons, List.map_nil, (FD3.eval 15 (by omega)).trans (show _ = Value.int .i64 g1 from by simp [upd, hs1, hs5, hs6, hs7]), (FD3.eval 20 (by omega)).trans (show _ = Value.int .i64 g2 from by simp [upd, hs1, hs5, hs6, hs7])]; simp [go_sem]; try rfl) fun aD4 FD4 => ?_
    obtain ⟨Y, hY⟩ : ∃ Y, Y = ((World.setCell V2 ⟨({ X with drawn := X.drawn + 1 } : World).heap.size, 0, none⟩ (.int .i64 g1)).setCell ⟨({ X with drawn := X.drawn + 1 } : World).heap.size, 1, none⟩ (.int .i64 g2)) := ⟨_, rfl⟩
    have hBy : Blk Y ({ X with drawn := X.drawn + 1 } : World).heap.size #[.int .i64 g1, .int .i64 g2] 37 := by rw [hY]; exact (Blk.set hB2 0 (.int .i64 g1)).set 1 (.int .i64 g2)
    have hCy : Below X.heap.size X Y := by rw [hY]; exact set2_below hC2.2.2 hlz _ _
    refine ps (k := 12) rfl rfl hC2 rfl (wanted_none rfl) (w1 := Y) (by rw [hY]; exact storeR hB2 g1 g2 rfl ((FD4.eval 8 (by omega)).trans (show _ = Value.pointer (some ⟨({ X with drawn := X.drawn + 1 } : World).heap.size, 0, none⟩) from by simp [upd, hs1, hs5, hs6, hs7])) ((FD4.eval 21 (by omega)).trans (show _ = Value.agg #[.int .i64 g1, .int .i64 g2] from by simp [upd, hs1, hs5, hs6, hs7]))) ?_
    refine pdone (fun h => by cases h) ?_
    exact hrest _ _ Y ({ X with drawn := X.drawn + 1 } : World).heap.size FD4 (show _ = Value.pointer (some ⟨lb, 0, none⟩) from by simp [upd, hs1, hs5, hs6, hs7]) (show _ = Value.pointer (some ⟨b6, 0, none⟩) from by simp [upd, hs1, hs5, hs6, hs7]) (show _ = Value.pointer (some ⟨({ X with drawn := X.drawn + 1 } : World).heap.size, 0, none⟩) from by simp [upd, hs1, hs5, hs6, hs7]) hBy hCy hlz
end Go.Proofs.YtnphkmdanicemaaGreatDoor
