import Derived.Test.YtnphkmdanicemaaGreatDoorG0
import Derived.Test.YtnphkmdanicemaaGreatDoorJM
import Derived.Test.YtnphkmdanicemaaGreatDoorVPlan
import Derived.Deep.Cut
namespace Go.Proofs.YtnphkmdanicemaaGreatDoor
open Go.RowKit Go.PlainAid Go.MapKept
set_option linter.unusedVariables false
set_option linter.unusedSimpArgs false
/-- What is lacking behind a Need. -/
def needN (k : List UInt8) (d u : Int) (L : GL) : GL := if okC d = true ∧ okC u = true then (if max (lk k L).1 d = (lk k L).1 ∧ max (lk k L).2 u = (lk k L).2 then L else Gm.putM k (max (lk k L).1 d, max (lk k L).2 u) L) else L
theorem lk_putM (k n : List UInt8) (v : Rg) (L : GL) : lk n (Gm.putM k v L) = if n = k then v else lk n L := by
  unfold lk
  rw [Gm.look_putM]
  by_cases h : n = k
  · rw [if_pos h, if_pos h]; rfl
  · rw [if_neg h, if_neg h]
theorem lk_rmK (k n : List UInt8) {L : GL} (h : Gm.KD L) : lk n (Gm.rmK k L) = if n = k then (0, 0) else lk n L := by
  unfold lk
  rw [Gm.look_rmK k n L h]
  by_cases h : n = k
  · rw [if_pos h, if_pos h]; rfl
  · rw [if_neg h, if_neg h]
theorem lk_need (k n : List UInt8) (d u : Int) (L : GL) : lk n (needN k d u L) = if n = k ∧ okC d = true ∧ okC u = true then (max (lk n L).1 d, max (lk n L).2 u) else lk n L := by
  unfold needN
  by_cases ho : okC d = true ∧ okC u = true
  · rw [if_pos ho]
    by_cases he : max (lk k L).1 d = (lk k L).1 ∧ max (lk k L).2 u = (lk k L).2
    · rw [if_pos he]
      by_cases hn : n = k
      · rw [if_pos ⟨hn, ho⟩, hn, he.1, he.2]
      · rw [if_neg (fun e => hn e.1)]
    · rw [if_neg he, lk_putM]
      by_cases hn : n = k
      · rw [if_pos hn, if_pos ⟨hn, ho⟩, hn]
      · rw [if_neg hn, if_neg (fun e => hn e.1)]
  · rw [if_neg ho, if_neg (fun e => ho e.2)]
theorem need_kd {k : List UInt8} {d u : Int} {L : GL} (h : Gm.KD L) : Gm.KD (needN k d u L) := by
  unfold needN
  split
  · split
    · exact h
    · exact h.putM
  · exact h
set_option maxRecDepth 100000 in
set_option maxHeartbeats 3200000 in
theorem need_any {gb mb : Nat} {me n : Int} {L : GL} (k : List UInt8) (d u : Int) (w : World) (h : Gs gb mb me n L w) (hkl : k.length ≤ 281474976710656) :
    Calls Tryz.prog 8 #[.pointer (some ⟨gb, 0, none⟩), .string ⟨k.toArray⟩, .agg #[.int .i64 d, .int .i64 u]] w fun e w' => e = .returned (.tuple #[]) ∧ Gs gb mb me n (needN k d u L) w' ∧ Chg (fun b => b = mb) w w' := by
  obtain ⟨rb, hrb⟩ : ∃ rb, rb = w.heap.size := ⟨_, rfl⟩
  obtain ⟨X, hX⟩ : ∃ X, X = w.alloc (.cells #[.int .i64 d, .int .i64 u] 37) := ⟨_, rfl⟩
  have hbX : Below w.heap.size w X := by rw [hX]; exact (Below.refl _ _).alloc (Nat.le_refl _) _
  have hBr : Blk X rb #[.int .i64 d, .int .i64 u] 37 := by rw [hX, hrb]; exact heap_alloc_new w _
  have HG : Hid (Gs gb mb me n L X) := h.more hbX
  have HBX0 : Hid (Below w.heap.size w X) := hbX
  have x0 : X.cell? ⟨rb, 0, none⟩ = some (.int .i64 d) := hBr.cell 0
  have x1 : X.cell? ⟨rb, 1, none⟩ = some (.int .i64 u) := hBr.cell 1
  have g2 : X.cell? ⟨gb, 2, none⟩ = some (.map (some mb)) := HG.out.blk.cell 2
  have HBR : Hid (Blk X rb #[.int .i64 d, .int .i64 u] 37) := hBr
  have HCN : Hid (∀ k W, Calls Tryz.prog 20 #[.int .i64 k] W fun r w' => r = .returned (.bool (okC k)) ∧ w' = W) := isCount_any
  have HST : Hid (∀ w', Below w.heap.size w w' → Gs gb mb me n L w' ∧ Chg (fun b => b = mb) w w') := fun w' hb => ⟨h.more hb, Chg.ofBelow _ hb⟩
  obtain ⟨LN, hLN⟩ : ∃ LN, LN = needN k d u L := ⟨_, rfl⟩
  rw [← hLN]
  by_cases h1 : okC d = true
  · by_cases h2 : okC u = true
    · have hN : needN k d u L = if max (lk k L).1 d = (lk k L).1 ∧ max (lk k L).2 u = (lk k L).2 then L else Gm.putM k (max (lk k L).1 d, max (lk k L).2 u) L := by unfold needN; rw [if_pos ⟨h1, h2⟩]
      rw [hN] at hLN
      have hlk := HG.out.look k
      generalize hl1 : (lk k L).1 = l1 at *
      generalize hl2 : (lk k L).2 = l2 at *
      obtain ⟨m1, hm1⟩ : ∃ m1, m1 = max l1 d := ⟨_, rfl⟩
      obtain ⟨m2, hm2⟩ : ∃ m2, m2 = max l2 u := ⟨_, rfl⟩
      have HN1 : Hid (m1 = max l1 d) := hm1
      have HN2 : Hid (m2 = max l2 u) := hm2
      obtain ⟨X1, hX1⟩ : ∃ X1, X1 = X.alloc (.cells #[.int .i64 l1, .int .i64 l2] 37) := ⟨_, rfl⟩
      obtain ⟨ab, hab⟩ : ∃ ab, ab = X.heap.size := ⟨_, rfl⟩
      have hb1 : Below X.heap.size X X1 := by rw [hX1]; exact (Below.refl _ _).alloc (Nat.le_refl _) _
      have hB1 : Blk X1 ab #[.int .i64 l1, .int .i64 l2] 37 := by rw [hX1, hab]; exact heap_alloc_new X _
      obtain ⟨Y, hY⟩ : ∃ Y, Y = X1.alloc (.cells #[.int .i64 m1, .int .i64 m2] 37) := ⟨_, rfl⟩
      obtain ⟨bx, hbx⟩ : ∃ bx, bx = X1.heap.size := ⟨_, rfl⟩
      have hb2 : Below X1.heap.size X1 Y := by rw [hY]; exact (Below.refl _ _).alloc (Nat.le_refl _) _
      have HBX : Hid (Blk Y bx #[.int .i64 m1, .int .i64 m2] 37) := show Blk Y bx #[.int .i64 m1, .int .i64 m2] 37 from by rw [hY, hbx]; exact heap_alloc_new X1 _
      have HWY : Hid (Below w.heap.size w Y) := HBX0.out.trans ((hb1.trans (hb2.mono hb1.size)).mono HBX0.out.size)
      have HGY : Hid (Gs gb mb me n L Y) := h.more HWY.out
      have a0 : X1.cell? ⟨ab, 0, none⟩ = some (.int .i64 l1) := hB1.cell 0
      have a1 : X1.cell? ⟨ab, 1, none⟩ = some (.int .i64 l2) := hB1.cell 1
      have r0 : X1.cell? ⟨rb, 0, none⟩ = some (.int .i64 d) := (hBr.below hb1 hBr.lt).cell 0
      have r1 : X1.cell? ⟨rb, 1, none⟩ = some (.int .i64 u) := (hBr.below hb1 hBr.lt).cell 1
      have y0 : Y.cell? ⟨ab, 0, none⟩ = some (.int .i64 l1) := (hB1.below hb2 hB1.lt).cell 0
      have y1 : Y.cell? ⟨ab, 1, none⟩ = some (.int .i64 l2) := (hB1.below hb2 hB1.lt).cell 1
      have z0 : Y.cell? ⟨bx, 0, none⟩ = some (.int .i64 m1) := HBX.out.cell 0
      have z1 : Y.cell? ⟨bx, 1, none⟩ = some (.int .i64 m2) := HBX.out.cell 1
      rw [← hm1, ← hm2] at hLN
      have HLN : Hid (LN = if m1 = l1 ∧ m2 = l2 then L else Gm.putM k (m1, m2) L) := hLN
      clear h hbX hBr hb1 hb2 hB1 hN hl1 hl2 hLN
      go_enter Tryz.func8, Tryz.ntmps8
      go_upto_region 1 with fail
      rw [← hX, ← hrb]
      clear hX hrb
      go_wp2_with fail
      refine Calls.mono (HCN.out d X) ?_
      rintro e9 w9 ⟨rfl, hw9⟩
      replace hw9 := hw9.symm
      subst hw9
      rw [h1]
      go_wp2_with fail
      refine Calls.mono (HCN.out u X) ?_
      rintro e9 w9 ⟨rfl, hw9⟩
      replace hw9 := hw9.symm
      subst hw9
      rw [h2]
      clear h1 h2 HCN
      go_upto_region 3 with fail
      rw [← hX1, ← hab]
      clear hX1 hab x0 x1 g2 hlk
      go_upto_region 4 with fail
      rw [← hm1, ← hm2, ← hY, ← hbx]
      clear hY hbx a0 a1 r0 r1 hm1 hm2
      by_cases k1 : m1 = l1
      · by_cases k2 : m2 = l2
        · subst k1 k2
          go_wp2_with fail
          first | go_end0 | go_ret
          have hL : LN = L := by rw [HLN.out]; simp
          exact ⟨rfl, hL ▸ (HST.out _ HWY.out).1, (HST.out _ HWY.out).2⟩
        · have HL : Hid (LN = Gm.putM k (m1, m2) L) := show LN = Gm.putM k (m1, m2) L from by rw [HLN.out, if_neg (fun e => k2 e.2)]
          have k2' : ¬ l2 = m2 := fun e => k2 e.symm
          subst k1
          go_wp2_with fail
          try rw [show ∀ a : Act, a.put none undef = a from fun _ => rfl]
          refine wp_region_mix (fun wq => wq.cell? ⟨gb, 2, none⟩ = some (.map (some mb)) ∧ Blk wq bx #[.int .i64 m1, .int .i64 m2] 37) (fun i => i == 5 || i == 7) 7 (by kernel_rfl) rfl (by kernel_rfl) (by kernel_rfl) (by kernel_rfl) ?_
          refine withFrP (N := 45) rfl ?_
          intro f0 F0 hff
          have ee0 : f0 0 = Value.pointer (some ⟨gb, 0, none⟩) := hff 0
          have ee1 : f0 1 = Value.string ⟨k.toArray⟩ := hff 1
          have ee7 : f0 7 = Value.pointer (some ⟨bx, 0, none⟩) := hff 7
          clear hff
          have HCC : (fun wq => wq.cell? ⟨gb, 2, none⟩ = some (.map (some mb)) ∧ Blk wq bx #[.int .i64 m1, .int .i64 m2] 37) (({ Y with drawn := Y.drawn + 1 } : World)) := ⟨HGY.out.blk.cell 2, HBX.out⟩
          refine lyp F0 rfl HCC rfl (by omega) (wanted_none rfl) (v := Value.pointer (some ⟨gb, 0, none⟩)) (fun wr hwr => by simp only [execOp, (F0.eval 0 (by omega)).trans (show _ = Value.pointer (some ⟨gb, 0, none⟩) from by simp [upd, ee0, ee1, ee7])]; first | rfl | simp [go_sem]) fun F1 => ?_
          refine lyp F1 rfl HCC rfl (by omega) (wanted_none rfl) (v := Value.pointer (some ⟨gb, 0, none⟩)) (fun wr hwr => by simp only [execOp, (F1.eval 38 (by omega)).trans (show _ = Value.pointer (some ⟨gb, 0, none⟩) from by simp [upd, ee0, ee1, ee7])]; simp [go_sem]) fun F2 => ?_
          refine lyp F2 rfl HCC rfl (by omega) (wanted_none rfl) (v := Value.pointer (some ⟨gb, 2, none⟩)) (fun wr hwr => by simp only [execOp, (F2.eval 39 (by omega)).trans (show _ = Value.pointer (some ⟨gb, 0, none⟩) from by simp [upd, ee0, ee1, ee7])]; simp [go_sem]) fun F3 => ?_
          refine lyp F3 rfl HCC rfl (by omega) (wanted_none rfl) (v := Value.map (some mb)) (fun wr hwr => by simp only [execOp, (F3.eval 40 (by omega)).trans (show _ = Value.pointer (some ⟨gb, 2, none⟩) from by simp [upd, ee0, ee1, ee7])]; simp [go_sem, hwr.1]) fun F4 => ?_
          refine lyp F4 rfl HCC rfl (by omega) (wanted_none rfl) (v := Value.string ⟨k.toArray⟩) (fun wr hwr => by simp only [execOp, (F4.eval 1 (by omega)).trans (show _ = Value.string ⟨k.toArray⟩ from by simp [upd, ee0, ee1, ee7])]; first | rfl | simp [go_sem]) fun F5 => ?_
          refine lcp F5 rfl HCC rfl (by omega) (wanted_none rfl) (g := 21) (args := #[Value.string ⟨k.toArray⟩]) (by simp only [execOp, resolve, invoke, List.map_toArray, List.map_cons, List.map_nil, (F5.eval 42 (by omega)).trans (show _ = Value.string ⟨k.toArray⟩ from by simp [upd, ee0, ee1, ee7])]; simp [go_sem, Act.eval]) (clone_any k (({ Y with drawn := Y.drawn + 1 } : World)) hkl) ?_
          rintro e9 V ⟨rfl, hbV0⟩
          have hbV : Below Y.heap.size Y V := (show Below Y.heap.size Y (({ Y with drawn := Y.drawn + 1 } : World)) from Below.drew (Below.refl _ _)).trans hbV0
          refine ⟨_, rfl, fun F6 => ?_⟩
          have HGV := HGY.out.more hbV
          have HC2 : (fun wq => wq.cell? ⟨gb, 2, none⟩ = some (.map (some mb)) ∧ Blk wq bx #[.int .i64 m1, .int .i64 m2] 37) V := ⟨HGV.blk.cell 2, HBX.out.below hbV HBX.out.lt⟩
          refine lyp F6 rfl HC2 rfl (by omega) (wanted_none rfl) (v := Value.agg #[.int .i64 m1, .int .i64 m2]) (fun wr hwr => by simp only [execOp, (F6.eval 7 (by omega)).trans (show _ = Value.pointer (some ⟨bx, 0, none⟩) from by simp [upd, ee0, ee1, ee7])]; simp [go_sem, show wr.cell? ⟨bx, 0, none⟩ = some (.int .i64 m1) from hwr.2.cell 0, show wr.cell? ⟨bx, 1, none⟩ = some (.int .i64 m2) from hwr.2.cell 1]) fun F7 => ?_
          obtain ⟨w4, hrun, hm4, hc4, hs4⟩ := HGV.map.putM k ((m1, m2) : Rg)
          have hrun : (Instr.mapUpdate 70 (.map (some mb)) (.string ⟨k.toArray⟩) (.agg #[.int .i64 m1, .int .i64 m2])).run Tryz.prog V = .ok () w4 := hrun
          refine lst rfl HC2 rfl (wanted_none rfl) (w1 := w4) (by simp only [execOp, (F7.eval 41 (by omega)).trans (show _ = Value.map (some mb) from by simp [upd, ee0, ee1, ee7]), (F7.eval 43 (by omega)).trans (show _ = Value.string ⟨k.toArray⟩ from by simp [upd, ee0, ee1, ee7]), (F7.eval 44 (by omega)).trans (show _ = Value.agg #[.int .i64 m1, .int .i64 m2] from by simp [upd, ee0, ee1, ee7])]; simp only [Sem.run_bind, Sem.run_pure, Result.andThen_ok, hrun]; try rfl) ?_
          refine ⟨fun h => by simp at h, ?_⟩
          clear F0 F1 F2 F3 F4 F5 F6 F7 ee0 ee1 ee7 HCC HC2 hbV0
          simp only [Act.put, List.setIfInBounds_toArray, List.set_cons_succ, List.set_cons_zero]
          have HFI : Hid (Gs gb mb me n (Gm.putM k (m1, m2) L) w4) := HGV.set hc4 hm4
          have HCH : Hid (Chg (fun b => b = mb) w w4) := (Chg.ofBelow _ (HWY.out.trans (hbV.mono HWY.out.size))).trans hc4 (fun _ _ e => e)
          clear hc4 hm4 hs4 hrun HGV hbV
          go_wp2_with fail
          first | go_end0 | go_ret
          exact ⟨rfl, HL.out ▸ HFI.out, HCH.out⟩
      · have HL : Hid (LN = Gm.putM k (m1, m2) L) := show LN = Gm.putM k (m1, m2) L from by rw [HLN.out, if_neg (fun e => k1 e.1)]
        have k1' : ¬ l1 = m1 := fun e => k1 e.symm
        go_wp2_with fail
        try rw [show ∀ a : Act, a.put none undef = a from fun _ => rfl]
        refine wp_region_mix (fun wq => wq.cell? ⟨gb, 2, none⟩ = some (.map (some mb)) ∧ Blk wq bx #[.int .i64 m1, .int .i64 m2] 37) (fun i => i == 5 || i == 7) 7 (by kernel_rfl) rfl (by kernel_rfl) (by kernel_rfl) (by kernel_rfl) ?_
        refine withFrP (N := 45) rfl ?_
        intro f0 F0 hff
        have ee0 : f0 0 = Value.pointer (some ⟨gb, 0, none⟩) := hff 0
        have ee1 : f0 1 = Value.string ⟨k.toArray⟩ := hff 1
        have ee7 : f0 7 = Value.pointer (some ⟨bx, 0, none⟩) := hff 7
        clear hff
        have HCC : (fun wq => wq.cell? ⟨gb, 2, none⟩ = some (.map (some mb)) ∧ Blk wq bx #[.int .i64 m1, .int .i64 m2] 37) (({ Y with drawn := Y.drawn + 1 } : World)) := ⟨HGY.out.blk.cell 2, HBX.out⟩
        refine lyp F0 rfl HCC rfl (by omega) (wanted_none rfl) (v := Value.pointer (some ⟨gb, 0, none⟩)) (fun wr hwr => by simp only [execOp, (F0.eval 0 (by omega)).trans (show _ = Value.pointer (some ⟨gb, 0, none⟩) from by simp [upd, ee0, ee1, ee7])]; first | rfl | simp [go_sem]) fun F1 => ?_
        refine lyp F1 rfl HCC rfl (by omega) (wanted_none rfl) (v := Value.pointer (some ⟨gb, 0, none⟩)) (fun wr hwr => by simp only [execOp, (F1.eval 38 (by omega)).trans (show _ = Value.pointer (some ⟨gb, 0, none⟩) from by simp [upd, ee0, ee1, ee7])]; simp [go_sem]) fun F2 => ?_
        refine lyp F2 rfl HCC rfl (by omega) (wanted_none rfl) (v := Value.pointer (some ⟨gb, 2, none⟩)) (fun wr hwr => by simp only [execOp, (F2.eval 39 (by omega)).trans (show _ = Value.pointer (some ⟨gb, 0, none⟩) from by simp [upd, ee0, ee1, ee7])]; simp [go_sem]) fun F3 => ?_
        refine lyp F3 rfl HCC rfl (by omega) (wanted_none rfl) (v := Value.map (some mb)) (fun wr hwr => by simp only [execOp, (F3.eval 40 (by omega)).trans (show _ = Value.pointer (some ⟨gb, 2, none⟩) from by simp [upd, ee0, ee1, ee7])]; simp [go_sem, hwr.1]) fun F4 => ?_
        refine lyp F4 rfl HCC rfl (by omega) (wanted_none rfl) (v := Value.string ⟨k.toArray⟩) (fun wr hwr => by simp only [execOp, (F4.eval 1 (by omega)).trans (show _ = Value.string ⟨k.toArray⟩ from by simp [upd, ee0, ee1, ee7])]; first | rfl | simp [go_sem]) fun F5 => ?_
        refine lcp F5 rfl HCC rfl (by omega) (wanted_none rfl) (g := 21) (args := #[Value.string ⟨k.toArray⟩]) (by simp only [execOp, resolve, invoke, List.map_toArray, List.map_cons, List.map_nil, (F5.eval 42 (by omega)).trans (show _ = Value.string ⟨k.toArray⟩ from by simp [upd, ee0, ee1, ee7])]; simp [go_sem, Act.eval]) (clone_any k (({ Y with drawn := Y.drawn + 1 } : World)) hkl) ?_
        rintro e9 V ⟨rfl, hbV0⟩
        have hbV : Below Y.heap.size Y V := (show Below Y.heap.size Y (({ Y with drawn := Y.drawn + 1 } : World)) from Below.drew (Below.refl _ _)).trans hbV0
        refine ⟨_, rfl, fun F6 => ?_⟩
        have HGV := HGY.out.more hbV
        have HC2 : (fun wq => wq.cell? ⟨gb, 2, none⟩ = some (.map (some mb)) ∧ Blk wq bx #[.int .i64 m1, .int .i64 m2] 37) V := ⟨HGV.blk.cell 2, HBX.out.below hbV HBX.out.lt⟩
        refine lyp F6 rfl HC2 rfl (by omega) (wanted_none rfl) (v := Value.agg #[.int .i64 m1, .int .i64 m2]) (fun wr hwr => by simp only [execOp, (F6.eval 7 (by omega)).trans (show _ = Value.pointer (some ⟨bx, 0, none⟩) from by simp [upd, ee0, ee1, ee7])]; simp [go_sem, show wr.cell? ⟨bx, 0, none⟩ = some (.int .i64 m1) from hwr.2.cell 0, show wr.cell? ⟨bx, 1, none⟩ = some (.int .i64 m2) from hwr.2.cell 1]) fun F7 => ?_
        obtain ⟨w4, hrun, hm4, hc4, hs4⟩ := HGV.map.putM k ((m1, m2) : Rg)
        have hrun : (Instr.mapUpdate 70 (.map (some mb)) (.string ⟨k.toArray⟩) (.agg #[.int .i64 m1, .int .i64 m2])).run Tryz.prog V = .ok () w4 := hrun
        refine lst rfl HC2 rfl (wanted_none rfl) (w1 := w4) (by simp only [execOp, (F7.eval 41 (by omega)).trans (show _ = Value.map (some mb) from by simp [upd, ee0, ee1, ee7]), (F7.eval 43 (by omega)).trans (show _ = Value.string ⟨k.toArray⟩ from by simp [upd, ee0, ee1, ee7]), (F7.eval 44 (by omega)).trans (show _ = Value.agg #[.int .i64 m1, .int .i64 m2] from by simp [upd, ee0, ee1, ee7])]; simp only [Sem.run_bind, Sem.run_pure, Result.andThen_ok, hrun]; try rfl) ?_
        refine ⟨fun h => by simp at h, ?_⟩
        clear F0 F1 F2 F3 F4 F5 F6 F7 ee0 ee1 ee7 HCC HC2 hbV0
        simp only [Act.put, List.setIfInBounds_toArray, List.set_cons_succ, List.set_cons_zero]
        have HFI : Hid (Gs gb mb me n (Gm.putM k (m1, m2) L) w4) := HGV.set hc4 hm4
        have HCH : Hid (Chg (fun b => b = mb) w w4) := (Chg.ofBelow _ (HWY.out.trans (hbV.mono HWY.out.size))).trans hc4 (fun _ _ e => e)
        clear hc4 hm4 hs4 hrun HGV hbV
        go_wp2_with fail
        first | go_end0 | go_ret
        exact ⟨rfl, HL.out ▸ HFI.out, HCH.out⟩
    · have hN : needN k d u L = L := by unfold needN; rw [if_neg (fun e => h2 e.2)]
      obtain rfl : LN = L := hLN.trans hN
      have h2' : okC u = false := by simpa using h2
      clear h hbX hBr hN hLN
      go_enter Tryz.func8, Tryz.ntmps8
      go_upto_region 1 with fail
      rw [← hX, ← hrb]
      clear hX hrb
      go_wp2_with fail
      refine Calls.mono (HCN.out d X) ?_
      rintro e9 w9 ⟨rfl, hw9⟩
      replace hw9 := hw9.symm
      subst hw9
      rw [h1]
      go_wp2_with fail
      refine Calls.mono (HCN.out u X) ?_
      rintro e9 w9 ⟨rfl, hw9⟩
      replace hw9 := hw9.symm
      subst hw9
      rw [h2']
      go_wp2_with fail
      exact bodyPost_ret (results_none rfl _ _ _) rfl ⟨rfl, HST.out _ HBX0.out⟩
  · have hN : needN k d u L = L := by unfold needN; rw [if_neg (fun e => h1 e.1)]
    obtain rfl : LN = L := hLN.trans hN
    have h1' : okC d = false := by simpa using h1
    clear h hbX hBr hN hLN
    go_enter Tryz.func8, Tryz.ntmps8
    go_upto_region 1 with fail
    rw [← hX, ← hrb]
    clear hX hrb
    go_wp2_with fail
    refine Calls.mono (HCN.out d X) ?_
    rintro e9 w9 ⟨rfl, hw9⟩
    replace hw9 := hw9.symm
    subst hw9
    rw [h1']
    go_wp2_with fail
    exact bodyPost_ret (results_none rfl _ _ _) rfl ⟨rfl, HST.out _ HBX0.out⟩
end Go.Proofs.YtnphkmdanicemaaGreatDoor
