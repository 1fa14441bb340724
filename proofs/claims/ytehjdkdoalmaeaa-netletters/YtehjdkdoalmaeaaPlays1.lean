import Derived.Test.YtehjdkdoalmaeaaPlays0
namespace Go.Proofs.Ytehjdkdoalmaeaa
open Go.RowKit Go.PlainAid
set_option linter.unusedVariables false
set_option linter.unusedSimpArgs false
set_option maxRecDepth 100000 in
set_option maxHeartbeats 6400000 in
theorem plays_del {L pb hbn hbr room n : Nat} {s : PS} (w : World) (h : PInv L pb hbn hbr room s w) (hF : PFull s) (hc : PCnt n s) (hn : n ≤ 3000) (hLw : L ≤ w.heap.size) (o : OpA) (hk : o.kind = 2) (f t er : Int) (lv1 lr2 : List LetV) (bs : List UInt8) (hbs : bs.length ≤ 1048576)
    (hcall1 : BagCall L pb hbn hbr room 13 s (opC o) w o.i f t er lv1 bs) (hcall2 : RefCall L pb hbn hbr room 33 s (opC o) w o.i f t er lr2 bs) (hag : ∀ s' : PS, s'.lv = lv1 → s'.lr = lr2 → PAg room s') :
    Calls Try.prog 23 #[.pointer (some ⟨pb, 0, none⟩), .agg (opC o)] w fun e w' => e = .returned (.bool true) ∧ ∃ s', PPost L pb hbn hbr room n s s' w w' := by
  obtain ⟨kind, who, oi, oj, ol⟩ := o
  simp only at hk
  subst hk
  have hY0 : YSt L pb hbn hbr room s s (opC ⟨2, who, oi, oj, ol⟩) w (w.alloc (.cells (opC ⟨2, who, oi, oj, ol⟩) 43)) := ⟨h.below ((Below.refl _ _).alloc (Nat.le_refl _) _), PStp.ofBelow ((Below.refl _ _).alloc (Nat.le_refl _) _), heap_alloc_new w _, fun q => by have := h.lt _ q; omega⟩
  show Calls Try.prog 23 #[.pointer (some ⟨pb, 0, none⟩), .agg #[.int .i64 2, .int .i64 who, .int .i64 oi, .int .i64 oj, .int .i64 ol.f, .int .i64 ol.t, .slice ol.ao ol.bs.length ol.cap]] w _
  have HY : Hid _ := hY0
  clear hY0 h
  go_enter Try.func23, Try.ntmps23
  go_wp2_with fail
  have hY0 := HY.out
  clear HY
  have hW0 : w.alloc (.cells #[.int .i64 2, .int .i64 who, .int .i64 oi, .int .i64 oj, .int .i64 ol.f, .int .i64 ol.t, .slice ol.ao ol.bs.length ol.cap] 43) = w.alloc (.cells (opC ⟨2, who, oi, oj, ol⟩) 43) := rfl
  try rw [hW0]
  generalize w.alloc (.cells (opC ⟨2, who, oi, oj, ol⟩) 43) = W0 at *
  rename_i K hK
  try rw [show ∀ a : Act, a.put none undef = a from fun _ => rfl]
  have hrest : ∀ (a : Act) (f' : Nat → Value) (W : World) (Bl : Nat) (s1 : PS) (d : Value), Fr 151 a f' → f' 0 = Value.pointer (some ⟨pb, 0, none⟩) → f' 3 = Value.pointer (some ⟨w.heap.size, 0, none⟩) → f' 5 = Value.pointer (some ⟨Bl, 0, none⟩) → f' 6 = Value.int .i64 er → YSt L pb hbn hbr room s s1 (opC ⟨2, who, oi, oj, ol⟩) w W → Blk W Bl (letC f t d) 31 → ¬ s1.has pb hbn hbr Bl → w.heap.size < Bl → Ans s s1 lv1 d bs → K a W := by
    intro a f' W Bl s1 d F' k0 k3 kb ke  hYBl hBBl hnBl hlBl hA
    refine hK _ _ ?_
    rw [F'.lit, show ((List.range 151).map f').toArray = #[f' 0, f' 1, f' 2, f' 3, f' 4, f' 5, f' 6, f' 7, f' 8, f' 9, f' 10, f' 11, f' 12, f' 13, f' 14, f' 15, f' 16, f' 17, f' 18, f' 19, f' 20, f' 21, f' 22, f' 23, f' 24, f' 25, f' 26, f' 27, f' 28, f' 29, f' 30, f' 31, f' 32, f' 33, f' 34, f' 35, f' 36, f' 37, f' 38, f' 39, f' 40, f' 41, f' 42, f' 43, f' 44, f' 45, f' 46, f' 47, f' 48, f' 49, f' 50, f' 51, f' 52, f' 53, f' 54, f' 55, f' 56, f' 57, f' 58, f' 59, f' 60, f' 61, f' 62, f' 63, f' 64, f' 65, f' 66, f' 67, f' 68, f' 69, f' 70, f' 71, f' 72, f' 73, f' 74, f' 75, f' 76, f' 77, f' 78, f' 79, f' 80, f' 81, f' 82, f' 83, f' 84, f' 85, f' 86, f' 87, f' 88, f' 89, f' 90, f' 91, f' 92, f' 93, f' 94, f' 95, f' 96, f' 97, f' 98, f' 99, f' 100, f' 101, f' 102, f' 103, f' 104, f' 105, f' 106, f' 107, f' 108, f' 109, f' 110, f' 111, f' 112, f' 113, f' 114, f' 115, f' 116, f' 117, f' 118, f' 119, f' 120, f' 121, f' 122, f' 123, f' 124, f' 125, f' 126, f' 127, f' 128, f' 129, f' 130, f' 131, f' 132, f' 133, f' 134, f' 135, f' 136, f' 137, f' 138, f' 139, f' 140, f' 141, f' 142, f' 143, f' 144, f' 145, f' 146, f' 147, f' 148, f' 149, f' 150] from rfl, k0, k3, kb, ke]
    clear hK F' k0 k3 kb ke 
    go_wp2_with fail
    rename_i K hK
    try rw [show ∀ a : Act, a.put none undef = a from fun _ => rfl]
    have hrest : ∀ (a : Act) (f' : Nat → Value) (W : World) (Br : Nat) (s2 : PS) (d2 : Value), Fr 151 a f' → f' 0 = Value.pointer (some ⟨pb, 0, none⟩) → f' 3 = Value.pointer (some ⟨w.heap.size, 0, none⟩) → f' 7 = Value.pointer (some ⟨Br, 0, none⟩) → f' 8 = Value.int .i64 er → f' 5 = Value.pointer (some ⟨Bl, 0, none⟩) → f' 6 = Value.int .i64 er → YSt L pb hbn hbr room s s2 (opC ⟨2, who, oi, oj, ol⟩) w W → Blk W Br (letC f t d2) 31 → ¬ s2.has pb hbn hbr Br → w.heap.size < Br → W.ownsRow L 5 1 d2 bs.length (bs.map B) → Blk W Bl (letC f t d) 31 → RAns s1 s2 lr2 → K a W := by
      intro a f' W Br s2 d2 F' k0 k3 kb ke k5 k6 hYBr hBBr hnBr hlBr hrow hBl2 hR
      refine hK _ _ ?_
      rw [F'.lit, show ((List.range 151).map f').toArray = #[f' 0, f' 1, f' 2, f' 3, f' 4, f' 5, f' 6, f' 7, f' 8, f' 9, f' 10, f' 11, f' 12, f' 13, f' 14, f' 15, f' 16, f' 17, f' 18, f' 19, f' 20, f' 21, f' 22, f' 23, f' 24, f' 25, f' 26, f' 27, f' 28, f' 29, f' 30, f' 31, f' 32, f' 33, f' 34, f' 35, f' 36, f' 37, f' 38, f' 39, f' 40, f' 41, f' 42, f' 43, f' 44, f' 45, f' 46, f' 47, f' 48, f' 49, f' 50, f' 51, f' 52, f' 53, f' 54, f' 55, f' 56, f' 57, f' 58, f' 59, f' 60, f' 61, f' 62, f' 63, f' 64, f' 65, f' 66, f' 67, f' 68, f' 69, f' 70, f' 71, f' 72, f' 73, f' 74, f' 75, f' 76, f' 77, f' 78, f' 79, f' 80, f' 81, f' 82, f' 83, f' 84, f' 85, f' 86, f' 87, f' 88, f' 89, f' 90, f' 91, f' 92, f' 93, f' 94, f' 95, f' 96, f' 97, f' 98, f' 99, f' 100, f' 101, f' 102, f' 103, f' 104, f' 105, f' 106, f' 107, f' 108, f' 109, f' 110, f' 111, f' 112, f' 113, f' 114, f' 115, f' 116, f' 117, f' 118, f' 119, f' 120, f' 121, f' 122, f' 123, f' 124, f' 125, f' 126, f' 127, f' 128, f' 129, f' 130, f' 131, f' 132, f' 133, f' 134, f' 135, f' 136, f' 137, f' 138, f' 139, f' 140, f' 141, f' 142, f' 143, f' 144, f' 145, f' 146, f' 147, f' 148, f' 149, f' 150] from rfl, k0, k3, kb, ke, k5, k6]
      clear hK F' k0 k3 kb ke k5 k6
      obtain ⟨ao2, c2, hd2, _, _, hfr2, _⟩ := own_from hrow
      subst hd2
      have hs2 := hA.rest.trans hR.rest
      have hlet := letter_any W hYBr.inv (hs2.full hF) (hs2.cnt hc) hn (Nat.le_trans hLw hYBr.stp.size) d bs (by rw [hR.fl, hA.fl]) hbs f t er ao2 c2 hfr2
      have e0 : Blk W Bl #[.int .i64 f, .int .i64 t, d] 31 := hBl2
      have e1 : Blk W Br #[.int .i64 f, .int .i64 t, .slice ao2 bs.length c2] 31 := hBBr
      have hd1 : ∃ xo xc, d = .slice xo bs.length xc := by obtain ⟨xo, xc, q, _⟩ := own_slice (hYBr.inv.float ⟨d, bs⟩ (by rw [hR.fl, hA.fl]; simp)); exact ⟨xo, xc, q⟩
      obtain ⟨xo, xc, rfl⟩ := hd1
      have a0 := e0.cell 0
      have a1 := e0.cell 1
      have a2 := e0.cell 2
      have q0 := e1.cell 0
      have q1 := e1.cell 1
      have q2 := e1.cell 2
      simp only [List.getElem?_toArray, List.getElem?_cons_zero, List.getElem?_cons_succ] at a0 a1 a2 q0 q1 q2
      have HL : Hid _ := hlet
      have HS := hYBr.stp
      have hlv := (hR.lv.trans hA.lv)
      have hlr := hR.lr
      clear hlet hYBr hYBl hBBr hBBl e0 e1 hrow hfr2 hBl2 hA hR
      go_wp2_with fail
      refine (Calls.mono HL.out ?_)
      rintro e34 w' ⟨rfl, s', hp⟩
      clear HL a0 a1 a2 q0 q1 q2
      go_wp2_with fail
      go_ret
      exact ⟨rfl, s', hp.inv, hag s' (hp.lv.trans hlv) (hp.lr.trans hlr), hp.full, hp.cnt, HS.trans hp.stp, hp.fl⟩
    clear hK
    refine wp_region_plan (fun wr => wr.cell? ⟨pb, 1, none⟩ = some (Value.pointer (some ⟨hbr, 0, none⟩)) ∧ wr.cell? ⟨w.heap.size, 2, none⟩ = some (Value.int .i64 oi)) (fun i => i == 6 || i == 10 || i == 11 || i == 12) 12 (.one 0 (.one 1 (.one 2 (.one 3 (.one 4 (.one 5 (.two 6 10 (.one 7 (.one 8 (.one 9 (.one 10 (.one 11 (.one 12 .done)))))) (.one 6 (.one 7 (.one 8 (.one 9 (.one 11 (.one 12 .done))))))))))))) (by kernel_rfl) rfl (by kernel_rfl) (by kernel_rfl) rfl (by kernel_rfl) ?_
    have hCof : ∀ (W : World) (s' : PS), YSt L pb hbn hbr room s s' (opC ⟨2, who, oi, oj, ol⟩) w W → (W.cell? ⟨pb, 1, none⟩ = some (Value.pointer (some ⟨hbr, 0, none⟩)) ∧ W.cell? ⟨w.heap.size, 2, none⟩ = some (Value.int .i64 oi)) := fun W s' h => ⟨h.cell 1, h.bo.cell 2⟩
    have hX := hYBl.drew
    have hBlX : Blk ({ W with drawn := W.drawn + 1 } : World) Bl (letC f t d) 31 := hBBl
    generalize ({ W with drawn := W.drawn + 1 } : World) = X at *
    have hC := hCof X _ hX
    have hLX : L ≤ X.heap.size := Nat.le_trans hLw hX.stp.size
    have hwX : w.heap.size < X.heap.size := hX.bo.lt
    refine withFrG (N := 151) rfl ?_
    intro a0 f0 F0 hff
    have hs0 : f0 0 = Value.pointer (some ⟨pb, 0, none⟩) := hff 0
    have hs3 : f0 3 = Value.pointer (some ⟨w.heap.size, 0, none⟩) := hff 3
    have hs5 : f0 5 = Value.pointer (some ⟨Bl, 0, none⟩) := hff 5
    have hs6 : f0 6 = Value.int .i64 er := hff 6
    clear hff
    refine py (k := 0) rfl F0 rfl hC rfl (by omega) (wanted_none rfl) (v := Value.pointer (some ⟨pb, 0, none⟩)) (fun wr hwr => by simp only [execOp, (F0.eval 0 (by omega)).trans (show _ = Value.pointer (some ⟨pb, 0, none⟩) from by simp [upd, hs0, hs3, hs5, hs6])]; first | rfl | simp [go_sem]) fun a1 F1 => ?_
    refine py (k := 1) rfl F1 rfl hC rfl (by omega) (wanted_none rfl) (v := Value.pointer (some ⟨pb, 0, none⟩)) (fun wr hwr => by simp only [execOp, (F1.eval 34 (by omega)).trans (show _ = Value.pointer (some ⟨pb, 0, none⟩) from by simp [upd, hs0, hs3, hs5, hs6])]; first | rfl | simp [go_sem]) fun a2 F2 => ?_
    refine py (k := 2) rfl F2 rfl hC rfl (by omega) (wanted_none rfl) (v := Value.pointer (some ⟨pb, 1, none⟩)) (fun wr hwr => by simp only [execOp, (F2.eval 35 (by omega)).trans (show _ = Value.pointer (some ⟨pb, 0, none⟩) from by simp [upd, hs0, hs3, hs5, hs6])]; first | rfl | simp [go_sem]) fun a3 F3 => ?_
    refine py (k := 3) rfl F3 rfl hC rfl (by omega) (wanted_none rfl) (v := Value.pointer (some ⟨hbr, 0, none⟩)) (fun wr hwr => by simp only [execOp, (F3.eval 36 (by omega)).trans (show _ = Value.pointer (some ⟨pb, 1, none⟩) from by simp [upd, hs0, hs3, hs5, hs6])]; simp [go_sem, hwr.1]) fun a4 F4 => ?_
    refine py (k := 4) rfl F4 rfl hC rfl (by omega) (wanted_none rfl) (v := Value.pointer (some ⟨w.heap.size, 2, none⟩)) (fun wr hwr => by simp only [execOp, (F4.eval 3 (by omega)).trans (show _ = Value.pointer (some ⟨w.heap.size, 0, none⟩) from by simp [upd, hs0, hs3, hs5, hs6])]; first | rfl | simp [go_sem]) fun a5 F5 => ?_
    refine py (k := 5) rfl F5 rfl hC rfl (by omega) (wanted_none rfl) (v := Value.int .i64 oi) (fun wr hwr => by simp only [execOp, (F5.eval 38 (by omega)).trans (show _ = Value.pointer (some ⟨w.heap.size, 2, none⟩) from by simp [upd, hs0, hs3, hs5, hs6])]; simp [go_sem, hwr.2]) fun a6 F6 => ?_
    refine pfork hC ?_ ?_
    · refine pc' (k := 6) rfl F6 rfl rfl (by omega) (wanted_none rfl) (g := 33) (args := #[Value.pointer (some ⟨hbr, 0, none⟩), Value.int .i64 oi]) (by simp only [execOp, resolve, invoke, List.map_toArray, List.map_cons, List.map_nil, (F6.eval 37 (by omega)).trans (show _ = Value.pointer (some ⟨hbr, 0, none⟩) from by simp [upd, hs0, hs3, hs5, hs6]), (F6.eval 39 (by omega)).trans (show _ = Value.int .i64 oi from by simp [upd, hs0, hs3, hs5, hs6])]; simp [go_sem, Act.eval]) (hcall2 X s1 hX hA.lr) ?_
      rintro e6 Yw ⟨s2, d2, rfl, hYc, hSc, hrow, hR⟩
      have hCc := hCof Yw _ hYc
      refine ⟨_, rfl, fun ap1 Fp1 => ?_⟩
      refine py (k := 7) rfl Fp1 rfl hCc rfl (by omega) (wanted_none rfl) (v := Value.tuple #[.agg (letC f t d2), .int .i64 er]) (fun wr hwr => by simp only [execOp, (Fp1.eval 40 (by omega)).trans (show _ = Value.tuple #[.agg (letC f t d2), .int .i64 er] from by simp [upd, hs0, hs3, hs5, hs6])]; first | rfl | simp [go_sem]) fun ap2 Fp2 => ?_
      refine py (k := 8) rfl Fp2 rfl hCc rfl (by omega) (wanted_none rfl) (v := Value.agg (letC f t d2)) (fun wr hwr => by simp only [execOp, (Fp2.eval 33 (by omega)).trans (show _ = Value.tuple #[.agg (letC f t d2), .int .i64 er] from by simp [upd, hs0, hs3, hs5, hs6])]; simp [go_sem]) fun ap3 Fp3 => ?_
      refine py (k := 9) rfl Fp3 rfl hCc rfl (by omega) (wanted_none rfl) (v := Value.int .i64 er) (fun wr hwr => by simp only [execOp, (Fp3.eval 33 (by omega)).trans (show _ = Value.tuple #[.agg (letC f t d2), .int .i64 er] from by simp [upd, hs0, hs3, hs5, hs6])]; simp [go_sem]) fun ap4 Fp4 => ?_
      refine pe (k := 10) rfl Fp4 rfl hCc rfl (by omega) (wanted_none rfl) (v := Value.pointer (some ⟨Yw.heap.size, 0, none⟩)) (w1 := Yw.alloc (.cells #[.int .i64 0, .int .i64 0, .slice none 0 0] 31)) (by simp only [execOp]; simp [go_sem]) fun ap5 Fp5 => ?_
      have hYa := hYc.alloc (.cells #[.int .i64 0, .int .i64 0, .slice none 0 0] 31)
      have hCa := hCof _ _ hYa
      have hBa : (Yw.alloc (.cells #[.int .i64 0, .int .i64 0, .slice none 0 0] 31)).heap[Yw.heap.size]? = some (.cells #[.int .i64 0, .int .i64 0, .slice none 0 0] 31) := heap_alloc_new Yw _
      have hXY := hSc.size
      have hnb : ¬ s2.has pb hbn hbr Yw.heap.size := fun q => by have := hYc.inv.lt _ q; omega
      have hall : (letC f t d2).all (·.oneCell') = true := by obtain ⟨_, _, q, _⟩ := own_slice hrow; rw [q]; simp [letC, Value.oneCell']
      refine ps (k := 11) rfl rfl hCa rfl (wanted_none rfl) (w1 := (Yw.alloc (.cells #[.int .i64 0, .int .i64 0, .slice none 0 0] 31)).setRow Yw.heap.size (letC f t d2)) (by simp only [execOp, (Fp5.eval 7 (by omega)).trans (show _ = Value.pointer (some ⟨Yw.heap.size, 0, none⟩) from by simp [upd, hs0, hs3, hs5, hs6]), (Fp5.eval 41 (by omega)).trans (show _ = Value.agg (letC f t d2) from by simp [upd, hs0, hs3, hs5, hs6]), Instr.storeAt, Instr.sureAddr, Sem.run_bind, Sem.run_pure, Result.andThen_ok, run_storeVar_row (P := Try.prog) (Yw.alloc (.cells #[.int .i64 0, .int .i64 0, .slice none 0 0] 31)) Yw.heap.size 31 31 _ (letC f t d2) hBa size31 rfl hall]) ?_
      have hYs := hYa.setRow hnb (by omega) (letC f t d2)
      have hCs := hCof _ _ hYs
      refine pe (k := 12) rfl Fp5 rfl hCs rfl (by omega) (wanted_none rfl) (v := Value.int .i64 er) (w1 := (Yw.alloc (.cells #[.int .i64 0, .int .i64 0, .slice none 0 0] 31)).setRow Yw.heap.size (letC f t d2)) (by simp only [execOp, (Fp5.eval 42 (by omega)).trans (show _ = Value.int .i64 er from by simp [upd, hs0, hs3, hs5, hs6])]; first | rfl | simp [go_sem]) fun ap6 Fp6 => ?_
      exact pdone (fun q => by simp at q) (hrest _ _ _ Yw.heap.size s2 d2 Fp6 (show _ = Value.pointer (some ⟨pb, 0, none⟩) from by simp [upd, hs0, hs3, hs5, hs6]) (show _ = Value.pointer (some ⟨w.heap.size, 0, none⟩) from by simp [upd, hs0, hs3, hs5, hs6]) (show _ = Value.pointer (some ⟨Yw.heap.size, 0, none⟩) from by simp [upd, hs0, hs3, hs5, hs6]) (show _ = Value.int .i64 er from by simp [upd, hs0, hs3, hs5, hs6]) (show _ = Value.pointer (some ⟨Bl, 0, none⟩) from by simp [upd, hs0, hs3, hs5, hs6]) (show _ = Value.int .i64 er from by simp [upd, hs0, hs3, hs5, hs6]) hYs (setRow_heap _ _ _ _ 31 _ hBa) hnb (by omega) (ownsRow_mono (ownsRow_same hrow fun j hj => (heap_setRow_other _ _ _ (by have := (hrow.lt j hj).2; omega)).trans (Below.heap_alloc _ _ _ (hrow.lt j hj).2)) hLX) ((heap_setRow_other _ _ _ (by have := hSc.size; have := hBlX.lt; omega)).trans ((Below.heap_alloc _ _ _ (by have := hSc.size; have := hBlX.lt; omega)).trans ((hSc.block _ hBlX.lt hnBl).trans hBlX))) hR)
    · refine pe' (k := 10) rfl F6 rfl rfl (by omega) (wanted_none rfl) (v := Value.pointer (some ⟨X.heap.size, 0, none⟩)) (w1 := X.alloc (.cells #[.int .i64 0, .int .i64 0, .slice none 0 0] 31)) (by simp only [execOp]; simp [go_sem]) fun aq1 Fq1 => ?_
      have hXa := hX.alloc (.cells #[.int .i64 0, .int .i64 0, .slice none 0 0] 31)
      have hCx := hCof _ _ hXa
      have hBx : (X.alloc (.cells #[.int .i64 0, .int .i64 0, .slice none 0 0] 31)).heap[X.heap.size]? = some (.cells #[.int .i64 0, .int .i64 0, .slice none 0 0] 31) := heap_alloc_new X _
      have hnx : ¬ s1.has pb hbn hbr X.heap.size := fun q => by have := hX.inv.lt _ q; omega
      have hszx : (X.alloc (.cells #[.int .i64 0, .int .i64 0, .slice none 0 0] 31)).heap.size = X.heap.size + 1 := World.size_alloc _ _
      refine pc (k := 6) rfl Fq1 rfl hCx rfl (by omega) (wanted_none rfl) (g := 33) (args := #[Value.pointer (some ⟨hbr, 0, none⟩), Value.int .i64 oi]) (by simp only [execOp, resolve, invoke, List.map_toArray, List.map_cons, List.map_nil, (Fq1.eval 37 (by omega)).trans (show _ = Value.pointer (some ⟨hbr, 0, none⟩) from by simp [upd, hs0, hs3, hs5, hs6]), (Fq1.eval 39 (by omega)).trans (show _ = Value.int .i64 oi from by simp [upd, hs0, hs3, hs5, hs6])]; simp [go_sem, Act.eval]) (hcall2 _ s1 hXa hA.lr) ?_
      rintro e6 Yw ⟨s2, d2, rfl, hYc, hSc, hrow, hR⟩
      have hCa := hCof Yw _ hYc
      refine ⟨_, rfl, fun aq2 Fq2 => ?_⟩
      refine py (k := 7) rfl Fq2 rfl hCa rfl (by omega) (wanted_none rfl) (v := Value.tuple #[.agg (letC f t d2), .int .i64 er]) (fun wr hwr => by simp only [execOp, (Fq2.eval 40 (by omega)).trans (show _ = Value.tuple #[.agg (letC f t d2), .int .i64 er] from by simp [upd, hs0, hs3, hs5, hs6])]; first | rfl | simp [go_sem]) fun aq3 Fq3 => ?_
      refine py (k := 8) rfl Fq3 rfl hCa rfl (by omega) (wanted_none rfl) (v := Value.agg (letC f t d2)) (fun wr hwr => by simp only [execOp, (Fq3.eval 33 (by omega)).trans (show _ = Value.tuple #[.agg (letC f t d2), .int .i64 er] from by simp [upd, hs0, hs3, hs5, hs6])]; simp [go_sem]) fun aq4 Fq4 => ?_
      refine py (k := 9) rfl Fq4 rfl hCa rfl (by omega) (wanted_none rfl) (v := Value.int .i64 er) (fun wr hwr => by simp only [execOp, (Fq4.eval 33 (by omega)).trans (show _ = Value.tuple #[.agg (letC f t d2), .int .i64 er] from by simp [upd, hs0, hs3, hs5, hs6])]; simp [go_sem]) fun aq5 Fq5 => ?_
      have hXY := hSc.size
      have hBa : Yw.heap[X.heap.size]? = some (.cells #[.int .i64 0, .int .i64 0, .slice none 0 0] 31) := (hSc.block _ (by omega) hnx).trans hBx
      have hnb : ¬ s2.has pb hbn hbr X.heap.size := fun q => (hSc.has _ q).elim hnx (fun r => by omega)
      have hall : (letC f t d2).all (·.oneCell') = true := by obtain ⟨_, _, q, _⟩ := own_slice hrow; rw [q]; simp [letC, Value.oneCell']
      refine ps (k := 11) rfl rfl hCa rfl (wanted_none rfl) (w1 := Yw.setRow X.heap.size (letC f t d2)) (by simp only [execOp, (Fq5.eval 7 (by omega)).trans (show _ = Value.pointer (some ⟨X.heap.size, 0, none⟩) from by simp [upd, hs0, hs3, hs5, hs6]), (Fq5.eval 41 (by omega)).trans (show _ = Value.agg (letC f t d2) from by simp [upd, hs0, hs3, hs5, hs6]), Instr.storeAt, Instr.sureAddr, Sem.run_bind, Sem.run_pure, Result.andThen_ok, run_storeVar_row (P := Try.prog) Yw X.heap.size 31 31 _ (letC f t d2) hBa size31 rfl hall]) ?_
      have hYs := hYc.setRow hnb (by omega) (letC f t d2)
      have hCs := hCof _ _ hYs
      refine pe (k := 12) rfl Fq5 rfl hCs rfl (by omega) (wanted_none rfl) (v := Value.int .i64 er) (w1 := Yw.setRow X.heap.size (letC f t d2)) (by simp only [execOp, (Fq5.eval 42 (by omega)).trans (show _ = Value.int .i64 er from by simp [upd, hs0, hs3, hs5, hs6])]; first | rfl | simp [go_sem]) fun aq6 Fq6 => ?_
      exact pdone (fun q => by simp at q) (hrest _ _ _ X.heap.size s2 d2 Fq6 (show _ = Value.pointer (some ⟨pb, 0, none⟩) from by simp [upd, hs0, hs3, hs5, hs6]) (show _ = Value.pointer (some ⟨w.heap.size, 0, none⟩) from by simp [upd, hs0, hs3, hs5, hs6]) (show _ = Value.pointer (some ⟨X.heap.size, 0, none⟩) from by simp [upd, hs0, hs3, hs5, hs6]) (show _ = Value.int .i64 er from by simp [upd, hs0, hs3, hs5, hs6]) (show _ = Value.pointer (some ⟨Bl, 0, none⟩) from by simp [upd, hs0, hs3, hs5, hs6]) (show _ = Value.int .i64 er from by simp [upd, hs0, hs3, hs5, hs6]) hYs (setRow_heap _ _ _ _ 31 _ hBa) hnb (by omega) (ownsRow_mono (ownsRow_same hrow fun j hj => heap_setRow_other _ _ _ (by have := (hrow.lt j hj).1; omega)) (by omega)) ((heap_setRow_other _ _ _ (by have := hBlX.lt; omega)).trans ((hSc.block _ (by have := hBlX.lt; omega) hnBl).trans ((Below.heap_alloc _ _ _ hBlX.lt).trans hBlX))) hR)
  clear hK
  refine wp_region_plan (fun wr => wr.cell? ⟨pb, 0, none⟩ = some (Value.pointer (some ⟨hbn, 0, none⟩)) ∧ wr.cell? ⟨w.heap.size, 2, none⟩ = some (Value.int .i64 oi)) (fun i => i == 6 || i == 10 || i == 11 || i == 12) 12 (.one 0 (.one 1 (.one 2 (.one 3 (.one 4 (.one 5 (.two 6 10 (.one 7 (.one 8 (.one 9 (.one 10 (.one 11 (.one 12 .done)))))) (.one 6 (.one 7 (.one 8 (.one 9 (.one 11 (.one 12 .done))))))))))))) (by kernel_rfl) rfl (by kernel_rfl) (by kernel_rfl) rfl (by kernel_rfl) ?_
  have hCof : ∀ (W : World) (s' : PS), YSt L pb hbn hbr room s s' (opC ⟨2, who, oi, oj, ol⟩) w W → (W.cell? ⟨pb, 0, none⟩ = some (Value.pointer (some ⟨hbn, 0, none⟩)) ∧ W.cell? ⟨w.heap.size, 2, none⟩ = some (Value.int .i64 oi)) := fun W s' h => ⟨h.cell 0, h.bo.cell 2⟩
  have hX := hY0.drew
  generalize ({ W0 with drawn := W0.drawn + 1 } : World) = X at *
  have hC := hCof X _ hX
  have hLX : L ≤ X.heap.size := Nat.le_trans hLw hX.stp.size
  have hwX : w.heap.size < X.heap.size := hX.bo.lt
  refine withFrG (N := 151) rfl ?_
  intro a0 f0 F0 hff
  have hs0 : f0 0 = Value.pointer (some ⟨pb, 0, none⟩) := hff 0
  have hs3 : f0 3 = Value.pointer (some ⟨w.heap.size, 0, none⟩) := hff 3
  clear hff
  refine py (k := 0) rfl F0 rfl hC rfl (by omega) (wanted_none rfl) (v := Value.pointer (some ⟨pb, 0, none⟩)) (fun wr hwr => by simp only [execOp, (F0.eval 0 (by omega)).trans (show _ = Value.pointer (some ⟨pb, 0, none⟩) from by simp [upd, hs0, hs3])]; first | rfl | simp [go_sem]) fun a1 F1 => ?_
  refine py (k := 1) rfl F1 rfl hC rfl (by omega) (wanted_none rfl) (v := Value.pointer (some ⟨pb, 0, none⟩)) (fun wr hwr => by simp only [execOp, (F1.eval 24 (by omega)).trans (show _ = Value.pointer (some ⟨pb, 0, none⟩) from by simp [upd, hs0, hs3])]; first | rfl | simp [go_sem]) fun a2 F2 => ?_
  refine py (k := 2) rfl F2 rfl hC rfl (by omega) (wanted_none rfl) (v := Value.pointer (some ⟨pb, 0, none⟩)) (fun wr hwr => by simp only [execOp, (F2.eval 25 (by omega)).trans (show _ = Value.pointer (some ⟨pb, 0, none⟩) from by simp [upd, hs0, hs3])]; first | rfl | simp [go_sem]) fun a3 F3 => ?_
  refine py (k := 3) rfl F3 rfl hC rfl (by omega) (wanted_none rfl) (v := Value.pointer (some ⟨hbn, 0, none⟩)) (fun wr hwr => by simp only [execOp, (F3.eval 26 (by omega)).trans (show _ = Value.pointer (some ⟨pb, 0, none⟩) from by simp [upd, hs0, hs3])]; simp [go_sem, hwr.1]) fun a4 F4 => ?_
  refine py (k := 4) rfl F4 rfl hC rfl (by omega) (wanted_none rfl) (v := Value.pointer (some ⟨w.heap.size, 2, none⟩)) (fun wr hwr => by simp only [execOp, (F4.eval 3 (by omega)).trans (show _ = Value.pointer (some ⟨w.heap.size, 0, none⟩) from by simp [upd, hs0, hs3])]; first | rfl | simp [go_sem]) fun a5 F5 => ?_
  refine py (k := 5) rfl F5 rfl hC rfl (by omega) (wanted_none rfl) (v := Value.int .i64 oi) (fun wr hwr => by simp only [execOp, (F5.eval 28 (by omega)).trans (show _ = Value.pointer (some ⟨w.heap.size, 2, none⟩) from by simp [upd, hs0, hs3])]; simp [go_sem, hwr.2]) fun a6 F6 => ?_
  refine pfork hC ?_ ?_
  · refine pc' (k := 6) rfl F6 rfl rfl (by omega) (wanted_none rfl) (g := 13) (args := #[Value.pointer (some ⟨hbn, 0, none⟩), Value.int .i64 oi]) (by simp only [execOp, resolve, invoke, List.map_toArray, List.map_cons, List.map_nil, (F6.eval 27 (by omega)).trans (show _ = Value.pointer (some ⟨hbn, 0, none⟩) from by simp [upd, hs0, hs3]), (F6.eval 29 (by omega)).trans (show _ = Value.int .i64 oi from by simp [upd, hs0, hs3])]; simp [go_sem, Act.eval]) (hcall1 X hX) ?_
    rintro e6 Yw ⟨s1, d, rfl, hYc, hSc, hA⟩
    have hCc := hCof Yw _ hYc
    refine ⟨_, rfl, fun ap1 Fp1 => ?_⟩
    refine py (k := 7) rfl Fp1 rfl hCc rfl (by omega) (wanted_none rfl) (v := Value.tuple #[.agg (letC f t d), .int .i64 er]) (fun wr hwr => by simp only [execOp, (Fp1.eval 30 (by omega)).trans (show _ = Value.tuple #[.agg (letC f t d), .int .i64 er] from by simp [upd, hs0, hs3])]; first | rfl | simp [go_sem]) fun ap2 Fp2 => ?_
    refine py (k := 8) rfl Fp2 rfl hCc rfl (by omega) (wanted_none rfl) (v := Value.agg (letC f t d)) (fun wr hwr => by simp only [execOp, (Fp2.eval 23 (by omega)).trans (show _ = Value.tuple #[.agg (letC f t d), .int .i64 er] from by simp [upd, hs0, hs3])]; simp [go_sem]) fun ap3 Fp3 => ?_
    refine py (k := 9) rfl Fp3 rfl hCc rfl (by omega) (wanted_none rfl) (v := Value.int .i64 er) (fun wr hwr => by simp only [execOp, (Fp3.eval 23 (by omega)).trans (show _ = Value.tuple #[.agg (letC f t d), .int .i64 er] from by simp [upd, hs0, hs3])]; simp [go_sem]) fun ap4 Fp4 => ?_
    refine pe (k := 10) rfl Fp4 rfl hCc rfl (by omega) (wanted_none rfl) (v := Value.pointer (some ⟨Yw.heap.size, 0, none⟩)) (w1 := Yw.alloc (.cells #[.int .i64 0, .int .i64 0, .slice none 0 0] 31)) (by simp only [execOp]; simp [go_sem]) fun ap5 Fp5 => ?_
    have hYa := hYc.alloc (.cells #[.int .i64 0, .int .i64 0, .slice none 0 0] 31)
    have hCa := hCof _ _ hYa
    have hBa : (Yw.alloc (.cells #[.int .i64 0, .int .i64 0, .slice none 0 0] 31)).heap[Yw.heap.size]? = some (.cells #[.int .i64 0, .int .i64 0, .slice none 0 0] 31) := heap_alloc_new Yw _
    have hXY := hSc.size
    have hnb : ¬ s1.has pb hbn hbr Yw.heap.size := fun q => by have := hYc.inv.lt _ q; omega
    have hall : (letC f t d).all (·.oneCell') = true := by obtain ⟨_, _, q, _⟩ := own_slice (hYc.inv.float ⟨d, bs⟩ (by rw [hA.fl]; simp)); have q' : d = _ := q; rw [q']; simp [letC, Value.oneCell']
    refine ps (k := 11) rfl rfl hCa rfl (wanted_none rfl) (w1 := (Yw.alloc (.cells #[.int .i64 0, .int .i64 0, .slice none 0 0] 31)).setRow Yw.heap.size (letC f t d)) (by simp only [execOp, (Fp5.eval 5 (by omega)).trans (show _ = Value.pointer (some ⟨Yw.heap.size, 0, none⟩) from by simp [upd, hs0, hs3]), (Fp5.eval 31 (by omega)).trans (show _ = Value.agg (letC f t d) from by simp [upd, hs0, hs3]), Instr.storeAt, Instr.sureAddr, Sem.run_bind, Sem.run_pure, Result.andThen_ok, run_storeVar_row (P := Try.prog) (Yw.alloc (.cells #[.int .i64 0, .int .i64 0, .slice none 0 0] 31)) Yw.heap.size 31 31 _ (letC f t d) hBa size31 rfl hall]) ?_
    have hYs := hYa.setRow hnb (by omega) (letC f t d)
    have hCs := hCof _ _ hYs
    refine pe (k := 12) rfl Fp5 rfl hCs rfl (by omega) (wanted_none rfl) (v := Value.int .i64 er) (w1 := (Yw.alloc (.cells #[.int .i64 0, .int .i64 0, .slice none 0 0] 31)).setRow Yw.heap.size (letC f t d)) (by simp only [execOp, (Fp5.eval 32 (by omega)).trans (show _ = Value.int .i64 er from by simp [upd, hs0, hs3])]; first | rfl | simp [go_sem]) fun ap6 Fp6 => ?_
    exact pdone (fun q => by simp at q) (hrest _ _ _ Yw.heap.size s1 d Fp6 (show _ = Value.pointer (some ⟨pb, 0, none⟩) from by simp [upd, hs0, hs3]) (show _ = Value.pointer (some ⟨w.heap.size, 0, none⟩) from by simp [upd, hs0, hs3]) (show _ = Value.pointer (some ⟨Yw.heap.size, 0, none⟩) from by simp [upd, hs0, hs3]) (show _ = Value.int .i64 er from by simp [upd, hs0, hs3]) hYs (setRow_heap _ _ _ _ 31 _ hBa) hnb (by omega) hA)
  · refine pe' (k := 10) rfl F6 rfl rfl (by omega) (wanted_none rfl) (v := Value.pointer (some ⟨X.heap.size, 0, none⟩)) (w1 := X.alloc (.cells #[.int .i64 0, .int .i64 0, .slice none 0 0] 31)) (by simp only [execOp]; simp [go_sem]) fun aq1 Fq1 => ?_
    have hXa := hX.alloc (.cells #[.int .i64 0, .int .i64 0, .slice none 0 0] 31)
    have hCx := hCof _ _ hXa
    have hBx : (X.alloc (.cells #[.int .i64 0, .int .i64 0, .slice none 0 0] 31)).heap[X.heap.size]? = some (.cells #[.int .i64 0, .int .i64 0, .slice none 0 0] 31) := heap_alloc_new X _
    have hnx : ¬ s.has pb hbn hbr X.heap.size := fun q => by have := hX.inv.lt _ q; omega
    have hszx : (X.alloc (.cells #[.int .i64 0, .int .i64 0, .slice none 0 0] 31)).heap.size = X.heap.size + 1 := World.size_alloc _ _
    refine pc (k := 6) rfl Fq1 rfl hCx rfl (by omega) (wanted_none rfl) (g := 13) (args := #[Value.pointer (some ⟨hbn, 0, none⟩), Value.int .i64 oi]) (by simp only [execOp, resolve, invoke, List.map_toArray, List.map_cons, List.map_nil, (Fq1.eval 27 (by omega)).trans (show _ = Value.pointer (some ⟨hbn, 0, none⟩) from by simp [upd, hs0, hs3]), (Fq1.eval 29 (by omega)).trans (show _ = Value.int .i64 oi from by simp [upd, hs0, hs3])]; simp [go_sem, Act.eval]) (hcall1 _ hXa) ?_
    rintro e6 Yw ⟨s1, d, rfl, hYc, hSc, hA⟩
    have hCa := hCof Yw _ hYc
    refine ⟨_, rfl, fun aq2 Fq2 => ?_⟩
    refine py (k := 7) rfl Fq2 rfl hCa rfl (by omega) (wanted_none rfl) (v := Value.tuple #[.agg (letC f t d), .int .i64 er]) (fun wr hwr => by simp only [execOp, (Fq2.eval 30 (by omega)).trans (show _ = Value.tuple #[.agg (letC f t d), .int .i64 er] from by simp [upd, hs0, hs3])]; first | rfl | simp [go_sem]) fun aq3 Fq3 => ?_
    refine py (k := 8) rfl Fq3 rfl hCa rfl (by omega) (wanted_none rfl) (v := Value.agg (letC f t d)) (fun wr hwr => by simp only [execOp, (Fq3.eval 23 (by omega)).trans (show _ = Value.tuple #[.agg (letC f t d), .int .i64 er] from by simp [upd, hs0, hs3])]; simp [go_sem]) fun aq4 Fq4 => ?_
    refine py (k := 9) rfl Fq4 rfl hCa rfl (by omega) (wanted_none rfl) (v := Value.int .i64 er) (fun wr hwr => by simp only [execOp, (Fq4.eval 23 (by omega)).trans (show _ = Value.tuple #[.agg (letC f t d), .int .i64 er] from by simp [upd, hs0, hs3])]; simp [go_sem]) fun aq5 Fq5 => ?_
    have hXY := hSc.size
    have hBa : Yw.heap[X.heap.size]? = some (.cells #[.int .i64 0, .int .i64 0, .slice none 0 0] 31) := (hSc.block _ (by omega) hnx).trans hBx
    have hnb : ¬ s1.has pb hbn hbr X.heap.size := fun q => (hSc.has _ q).elim hnx (fun r => by omega)
    have hall : (letC f t d).all (·.oneCell') = true := by obtain ⟨_, _, q, _⟩ := own_slice (hYc.inv.float ⟨d, bs⟩ (by rw [hA.fl]; simp)); have q' : d = _ := q; rw [q']; simp [letC, Value.oneCell']
    refine ps (k := 11) rfl rfl hCa rfl (wanted_none rfl) (w1 := Yw.setRow X.heap.size (letC f t d)) (by simp only [execOp, (Fq5.eval 5 (by omega)).trans (show _ = Value.pointer (some ⟨X.heap.size, 0, none⟩) from by simp [upd, hs0, hs3]), (Fq5.eval 31 (by omega)).trans (show _ = Value.agg (letC f t d) from by simp [upd, hs0, hs3]), Instr.storeAt, Instr.sureAddr, Sem.run_bind, Sem.run_pure, Result.andThen_ok, run_storeVar_row (P := Try.prog) Yw X.heap.size 31 31 _ (letC f t d) hBa size31 rfl hall]) ?_
    have hYs := hYc.setRow hnb (by omega) (letC f t d)
    have hCs := hCof _ _ hYs
    refine pe (k := 12) rfl Fq5 rfl hCs rfl (by omega) (wanted_none rfl) (v := Value.int .i64 er) (w1 := Yw.setRow X.heap.size (letC f t d)) (by simp only [execOp, (Fq5.eval 32 (by omega)).trans (show _ = Value.int .i64 er from by simp [upd, hs0, hs3])]; first | rfl | simp [go_sem]) fun aq6 Fq6 => ?_
    exact pdone (fun q => by simp at q) (hrest _ _ _ X.heap.size s1 d Fq6 (show _ = Value.pointer (some ⟨pb, 0, none⟩) from by simp [upd, hs0, hs3]) (show _ = Value.pointer (some ⟨w.heap.size, 0, none⟩) from by simp [upd, hs0, hs3]) (show _ = Value.pointer (some ⟨X.heap.size, 0, none⟩) from by simp [upd, hs0, hs3]) (show _ = Value.int .i64 er from by simp [upd, hs0, hs3]) hYs (setRow_heap _ _ _ _ 31 _ hBa) hnb (by omega) hA)
end Go.Proofs.Ytehjdkdoalmaeaa
