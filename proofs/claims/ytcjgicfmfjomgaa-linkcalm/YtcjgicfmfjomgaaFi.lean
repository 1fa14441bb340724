import Derived.Test.YtcjgicfmfjomgaaOu
namespace Go.Proofs.Ytcjgicfmfjomgaa
open Go.RowKit Go.PlainAid Go.MapKept
set_option linter.unusedVariables false
set_option linter.unusedSimpArgs false
set_option maxRecDepth 100000 in
set_option maxHeartbeats 3200000 in
theorem fits_yes {L lb cb mb : Nat} {uv : Value} {x : LV} (q a : Int) (ao : Option Addr) (n c : Nat) (w : World) (h : LM L lb cb mb uv x w) (hb : 0 ≤ x.acked ∧ x.acked ≤ 1099511627776) (hu : x.under.length ≤ 1000) (hq : 0 ≤ q ∧ q ≤ 1099511627776) (ha : 0 ≤ a ∧ a ≤ x.acked + (x.under.length : Int)) (hz : q = 0 → n = 0) (hn : n ≤ 4000) :
    Calls Try.prog 36 #[.pointer (some ⟨lb, 0, none⟩), .agg #[.int .i64 x.peer, .int .i64 x.me, .int .i64 q, .int .i64 a, .slice ao n c]] w fun e w' => e = .returned (.bool true) ∧ Below w.heap.size w w' := by
  obtain ⟨X, hX⟩ : ∃ X, X = w.alloc (.cells #[.int .i64 x.peer, .int .i64 x.me, .int .i64 q, .int .i64 a, .slice ao n c] 45) := ⟨_, rfl⟩
  obtain ⟨bx, hbx⟩ : ∃ bx, bx = w.heap.size := ⟨_, rfl⟩
  have hbX : Below w.heap.size w X := by rw [hX]; exact (Below.refl _ _).alloc (Nat.le_refl _) _
  have hBX : Blk X bx #[.int .i64 x.peer, .int .i64 x.me, .int .i64 q, .int .i64 a, .slice ao n c] 45 := by rw [hX, hbx]; exact heap_alloc_new w _
  have hMX := h.more hbX
  have HBX : Hid (Blk X bx #[.int .i64 x.peer, .int .i64 x.me, .int .i64 q, .int .i64 a, .slice ao n c] 45) := hBX
  have HM : Hid (LM L lb cb mb uv x X) := hMX
  have HbX : Hid (Below w.heap.size w X) := hbX
  have b0 : X.cell? ⟨bx, 0, none⟩ = some (.int .i64 x.peer) := hBX.cell 0
  have b1 : X.cell? ⟨bx, 1, none⟩ = some (.int .i64 x.me) := hBX.cell 1
  have l0 : X.cell? ⟨lb, 0, none⟩ = some (.int .i64 x.me) := hMX.b.cell 0
  have l1 : X.cell? ⟨lb, 1, none⟩ = some (.int .i64 x.peer) := hMX.b.cell 1
  obtain ⟨hq1, hq2⟩ := hq
  obtain ⟨ha1, ha2⟩ := ha
  have HHZ : Hid (q = 0 → n = 0) := hz
  clear h hbX hBX hMX hz
  go_enter Try.func36, Try.ntmps36
  go_upto_region 1 with fail
  rw [← hX, ← hbx]
  clear hX hbx
  go_wp2_with fail
  go_quiet (fail)
  rename_i nq
  have b2 : (X.drewN nq).cell? ⟨bx, 2, none⟩ = some (.int .i64 q) := HBX.out.cell 2
  have HX1 : Hid (Below X.heap.size X (X.drewN nq)) := ⟨rfl, rfl, rfl, Nat.le_refl _, fun _ _ => rfl⟩
  clear b0 b1 l0 l1
  generalize X.drewN nq = X1 at *
  have hq2' : ¬ (1099511627776 : Int) < q := by omega
  have hq1' : ¬ q < 0 := by omega
  go_wp2_with fail
  rename_i K hK
  try rw [show ∀ a : Act, a.put none undef = a from fun _ => rfl]
  refine wp_region_mix (fun wz => Below X.heap.size X wz) (fun i => i == 7 || i == 99) 99 (by kernel_rfl) rfl (by kernel_rfl) (by kernel_rfl) (by kernel_rfl) ?_
  refine withFrP (N := 56) rfl ?_
  intro f0 F0 hff
  have e0 : f0 0 = Value.pointer (some ⟨lb, 0, none⟩) := hff 0
  have e3 : f0 3 = Value.pointer (some ⟨bx, 0, none⟩) := hff 3
  clear hff
  have HCC : (fun wz => Below X.heap.size X wz) (({ X1 with drawn := X1.drawn + 1 } : World)) := Below.drew HX1.out
  have HGO : Hid _ := gone_any ({ X1 with drawn := X1.drawn + 1 } : World) (HM.out.more HCC) hb hu
  have VA : ∀ wz, Below X.heap.size X wz → wz.cell? ⟨bx, 3, none⟩ = some (.int .i64 a) := fun wz hw => (Blk.below HBX.out hw HBX.out.lt).cell 3
  refine lyp F0 rfl HCC rfl (by omega) (wanted_none rfl) (v := Value.pointer (some ⟨bx, 3, none⟩)) (fun wr hwr => by simp only [execOp, (F0.eval 3 (by omega)).trans (show _ = Value.pointer (some ⟨bx, 0, none⟩) from by simp [upd, e0, e3])]; simp [go_sem]) fun Fp1 => ?_
  refine lyp Fp1 rfl HCC rfl (by omega) (wanted_none rfl) (v := Value.int .i64 a) (fun wr hwr => by simp only [execOp, (Fp1.eval 32 (by omega)).trans (show _ = Value.pointer (some ⟨bx, 3, none⟩) from by simp [upd, e0, e3])]; simp [go_sem, VA _ hwr]) fun Fp2 => ?_
  refine lyp Fp2 rfl HCC rfl (by omega) (wanted_none rfl) (v := Value.bool false) (fun wr hwr => by simp only [execOp, (Fp2.eval 33 (by omega)).trans (show _ = Value.int .i64 a from by simp [upd, e0, e3])]; simp [go_sem, Act.eval]; omega) fun Fp3 => ?_
  refine lyp Fp3 rfl HCC rfl (by omega) (wanted_none rfl) (v := Value.bool false) (fun wr hwr => by simp only [execOp, (Fp3.eval 34 (by omega)).trans (show _ = Value.bool false from by simp [upd, e0, e3])]; first | rfl | simp [go_sem]) fun Fp4 => ?_
  refine lyp Fp4 rfl HCC rfl (by omega) (want_yes Fp4 rfl (e := 35) rfl (by omega) (show _ = Value.bool false from by simp [upd, e0, e3])) (v := Value.pointer (some ⟨bx, 3, none⟩)) (fun wr hwr => by simp only [execOp, (Fp4.eval 3 (by omega)).trans (show _ = Value.pointer (some ⟨bx, 0, none⟩) from by simp [upd, e0, e3])]; simp [go_sem]) fun Fp5 => ?_
  refine lyp Fp5 rfl HCC rfl (by omega) (want_yes Fp5 rfl (e := 35) rfl (by omega) (show _ = Value.bool false from by simp [upd, e0, e3])) (v := Value.int .i64 a) (fun wr hwr => by simp only [execOp, (Fp5.eval 36 (by omega)).trans (show _ = Value.pointer (some ⟨bx, 3, none⟩) from by simp [upd, e0, e3])]; simp [go_sem, VA _ hwr]) fun Fp6 => ?_
  refine lyp Fp6 rfl HCC rfl (by omega) (want_yes Fp6 rfl (e := 35) rfl (by omega) (show _ = Value.bool false from by simp [upd, e0, e3])) (v := Value.pointer (some ⟨lb, 0, none⟩)) (fun wr hwr => by simp only [execOp, (Fp6.eval 0 (by omega)).trans (show _ = Value.pointer (some ⟨lb, 0, none⟩) from by simp [upd, e0, e3])]; first | rfl | simp [go_sem]) fun Fp7 => ?_
  refine lcp Fp7 rfl HCC rfl (by omega) (want_yes Fp7 rfl (e := 35) rfl (by omega) (show _ = Value.bool false from by simp [upd, e0, e3])) (g := 40) (args := #[Value.pointer (some ⟨lb, 0, none⟩)]) (by simp only [execOp, resolve, invoke, List.map_toArray, List.map_cons, List.map_nil, (Fp7.eval 38 (by omega)).trans (show _ = Value.pointer (some ⟨lb, 0, none⟩) from by simp [upd, e0, e3])]; simp [go_sem, Act.eval]) HGO.out ?_
  rintro e w2 ⟨rfl, q2, hq2⟩
  refine ⟨_, rfl, fun Fp8 => ?_⟩
  have HC2 : (fun wz => Below X.heap.size X wz) w2 := HCC.trans (by rw [hq2]; exact ⟨rfl, rfl, rfl, Nat.le_refl _, fun _ _ => rfl⟩)
  refine lyp Fp8 rfl HC2 rfl (by omega) (want_yes Fp8 rfl (e := 35) rfl (by omega) (show _ = Value.bool false from by simp [upd, e0, e3])) (v := Value.bool false) (fun wr hwr => by simp only [execOp, (Fp8.eval 37 (by omega)).trans (show _ = Value.int .i64 a from by simp [upd, e0, e3]), (Fp8.eval 39 (by omega)).trans (show _ = Value.int .i64 (x.acked + (x.under.length : Int)) from by simp [upd, e0, e3])]; simp [go_sem, Act.eval]; omega) fun Fp9 => ?_
  refine lyp Fp9 rfl HC2 rfl (by omega) (wanted_none rfl) (v := Value.bool false) (fun wr hwr => by simp only [execOp, (Fp9.eval 35 (by omega)).trans (show _ = Value.bool false from by simp [upd, e0, e3]), (Fp9.eval 40 (by omega)).trans (show _ = Value.bool false from by simp [upd, e0, e3])]; simp [go_sem, Act.eval]) fun Fp10 => ?_
  refine lyp Fp10 rfl HC2 rfl (by omega) (wanted_none rfl) (v := Value.bool false) (fun wr hwr => by simp only [execOp, (Fp10.eval 41 (by omega)).trans (show _ = Value.bool false from by simp [upd, e0, e3])]; first | rfl | simp [go_sem]) fun Fp11 => ?_
  refine ⟨fun _ => HC2, ?_⟩
  refine hK _ _ ?_
  clear F0 Fp1 Fp2 Fp3 Fp4 Fp5 Fp6 Fp7 Fp8 Fp9 Fp10 Fp11 e0 e3 
  simp only [Act.put, List.setIfInBounds_toArray, List.set_cons_succ, List.set_cons_zero]
  have HF : Hid (Below w.heap.size w w2) := show Below w.heap.size w w2 from HbX.out.trans (HC2.mono HbX.out.size)
  have z2 : w2.cell? ⟨bx, 2, none⟩ = some (.int .i64 q) := (Blk.below HBX.out HC2 HBX.out.lt).cell 2
  have z4 : w2.cell? ⟨bx, 4, none⟩ = some (.slice ao n c) := (Blk.below HBX.out HC2 HBX.out.lt).cell 4
  clear HCC HC2 HGO VA hq2 HX1 b2 HM HBX
  by_cases h0 : q = 0
  · have hn0 := HHZ.out h0
    subst h0
    subst hn0
    go_wp2_with fail
    go_ret
    exact ⟨rfl, HF.out⟩
  · have h0b : (q == 0) = false := by simpa using h0
    go_wp2_with fail
    go_ret
    refine ⟨?_, HF.out⟩
    simp
    omega
end Go.Proofs.Ytcjgicfmfjomgaa
