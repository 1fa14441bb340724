import Derived.Test.YtcjgicfmfjomgaaLk1
namespace Go.Proofs.Ytcjgicfmfjomgaa
open Go.RowKit Go.PlainAid Go.MapKept
set_option linter.unusedVariables false
set_option linter.unusedSimpArgs false
def mayGo (x : LV) : Bool := decide (x.box.length + x.under.length < x.win) && decide (x.acked + (x.under.length : Int) + (x.box.length : Int) ≠ 1099511627776)
set_option maxRecDepth 100000 in
set_option maxHeartbeats 3200000 in
theorem mouth_any {L lb cb mb : Nat} {uv : Value} {x : LV} (w : World) (h : LM L lb cb mb uv x w) (hb : 0 ≤ x.acked ∧ x.acked ≤ 1099511627776) (hw : x.win ≤ 16) (hs : x.box.length + x.under.length ≤ x.win) :
    Calls Try.prog 31 #[.pointer (some ⟨lb, 0, none⟩)] w fun e w' => e = .returned (.chan (if mayGo x = true then some cb else none)) ∧ Below w.heap.size w w' := by
  have hx : x.box.length ≤ 1000 := by omega
  have hu : x.under.length ≤ 1000 := by omega
  have HM : Hid _ := h
  have c4 : w.cell? ⟨lb, 4, none⟩ = some (.chan (some cb)) := h.b.cell 4
  obtain ⟨s, r, hc⟩ := h.c
  have V4 : ∀ wz, Below w.heap.size w wz → wz.cell? ⟨lb, 4, none⟩ = some (.chan (some cb)) := fun wz hw => (hw.cell (p := ⟨lb, 4, none⟩) (World.block_lt_of_cell? w _ c4)).trans c4
  have VL : ∀ wz, Below w.heap.size w wz → ∀ ty, (Builtin.len_ #[74] ty #[.chan (some cb)]).run Try.prog wz = .ok (.int .i64 (x.box.length : Int)) wz := fun wz hw ty => len_chan ty wz ((hw.block cb h.clt).trans hc)
  obtain ⟨hb1, hb2⟩ := id hb
  clear h hc
  by_cases hz : (x.win : Int) - (x.box.length : Int) - (x.under.length : Int) = 0
  · have hmg : mayGo x = false := by unfold mayGo; simp; omega
    rw [hmg]
    clear hmg
    go_enter Try.func31, Try.ntmps31
    go_wp2_with fail
    rename_i K hK
    try rw [show ∀ a : Act, a.put none undef = a from fun _ => rfl]
    refine wp_region_mix (fun wz => Below w.heap.size w wz) (fun i => i == 1 || i == 99) 99 (by kernel_rfl) rfl (by kernel_rfl) (by kernel_rfl) (by kernel_rfl) ?_
    refine withFrP (N := 21) rfl ?_
    intro f0 F0 hff
    have e0 : f0 0 = Value.pointer (some ⟨lb, 0, none⟩) := hff 0
    clear hff
    have HCC : (fun wz => Below w.heap.size w wz) (({ w with drawn := w.drawn + 1 } : World)) := Below.drew (Below.refl _ _)
    have HRO : Hid _ := room_any ({ w with drawn := w.drawn + 1 } : World) (HM.out.more HCC) hw hx hu
    refine lyp F0 rfl HCC rfl (by omega) (wanted_none rfl) (v := Value.pointer (some ⟨lb, 0, none⟩)) (fun wr hwr => by simp only [execOp, (F0.eval 0 (by omega)).trans (show _ = Value.pointer (some ⟨lb, 0, none⟩) from by simp [upd, e0])]; first | rfl | simp [go_sem]) fun Fp1 => ?_
    refine lcp Fp1 rfl HCC rfl (by omega) (wanted_none rfl) (g := 12) (args := #[Value.pointer (some ⟨lb, 0, none⟩)]) (by simp only [execOp, resolve, invoke, List.map_toArray, List.map_cons, List.map_nil, (Fp1.eval 3 (by omega)).trans (show _ = Value.pointer (some ⟨lb, 0, none⟩) from by simp [upd, e0])]; simp [go_sem, Act.eval]) HRO.out ?_
    rintro e w1 ⟨rfl, q1, hq1⟩
    refine ⟨_, rfl, fun Fp2 => ?_⟩
    have HC1 : (fun wz => Below w.heap.size w wz) w1 := HCC.trans (by rw [hq1]; exact ⟨rfl, rfl, rfl, Nat.le_refl _, fun _ _ => rfl⟩)
    refine lyp Fp2 rfl HC1 rfl (by omega) (wanted_none rfl) (v := Value.bool true) (fun wr hwr => by simp only [execOp, (Fp2.eval 4 (by omega)).trans (show _ = Value.int .i64 ((x.win : Int) - (x.box.length : Int) - (x.under.length : Int)) from by simp [upd, e0])]; simp [go_sem, Act.eval, hz]) fun Fp3 => ?_
    refine lyp Fp3 rfl HC1 rfl (by omega) (wanted_none rfl) (v := Value.bool true) (fun wr hwr => by simp only [execOp, (Fp3.eval 5 (by omega)).trans (show _ = Value.bool true from by simp [upd, e0])]; first | rfl | simp [go_sem]) fun Fp4 => ?_
    refine lnp Fp4 rfl HC1 rfl (by omega) (want_no Fp4 rfl (e := 6) rfl (by omega) (show _ = Value.bool true from by simp [upd, e0]) (by decide)) fun Fp5 => ?_
    refine lnp Fp5 rfl HC1 rfl (by omega) (want_no Fp5 rfl (e := 6) rfl (by omega) (show _ = Value.bool true from by simp [upd, e0]) (by decide)) fun Fp6 => ?_
    refine lnp Fp6 rfl HC1 rfl (by omega) (want_no Fp6 rfl (e := 6) rfl (by omega) (show _ = Value.bool true from by simp [upd, e0]) (by decide)) fun Fp7 => ?_
    refine lnp Fp7 rfl HC1 rfl (by omega) (want_no Fp7 rfl (e := 6) rfl (by omega) (show _ = Value.bool true from by simp [upd, e0]) (by decide)) fun Fp8 => ?_
    refine lnp Fp8 rfl HC1 rfl (by omega) (want_no Fp8 rfl (e := 6) rfl (by omega) (show _ = Value.bool true from by simp [upd, e0]) (by decide)) fun Fp9 => ?_
    refine lnp Fp9 rfl HC1 rfl (by omega) (want_no Fp9 rfl (e := 6) rfl (by omega) (show _ = Value.bool true from by simp [upd, e0]) (by decide)) fun Fp10 => ?_
    refine lnp Fp10 rfl HC1 rfl (by omega) (want_no Fp10 rfl (e := 6) rfl (by omega) (show _ = Value.bool true from by simp [upd, e0]) (by decide)) fun Fp11 => ?_
    refine lnp Fp11 rfl HC1 rfl (by omega) (want_no Fp11 rfl (e := 6) rfl (by omega) (show _ = Value.bool true from by simp [upd, e0]) (by decide)) fun Fp12 => ?_
    refine lnp Fp12 rfl HC1 rfl (by omega) (want_no Fp12 rfl (e := 6) rfl (by omega) (show _ = Value.bool true from by simp [upd, e0]) (by decide)) fun Fp13 => ?_
    refine lyp Fp13 rfl HC1 rfl (by omega) (wanted_none rfl) (v := Value.bool true) (fun wr hwr => by simp only [execOp, (Fp13.eval 6 (by omega)).trans (show _ = Value.bool true from by simp [upd, e0])]; simp [go_sem, Act.eval]) fun Fp14 => ?_
    refine ⟨fun _ => HC1, ?_⟩
    refine hK _ _ ?_
    clear F0 Fp1 Fp2 Fp3 Fp4 Fp5 Fp6 Fp7 Fp8 Fp9 Fp10 Fp11 Fp12 Fp13 Fp14 e0 
    simp only [Act.put, List.setIfInBounds_toArray, List.set_cons_succ, List.set_cons_zero]
    have HF : Hid (Below w.heap.size w w1) := HC1
    clear HC1 HCC HRO V4 VL hq1
    go_wp2_with fail
    go_ret
    exact ⟨rfl, HF.out⟩
  · by_cases hf : x.acked + (x.under.length : Int) + (x.box.length : Int) = 1099511627776
    · have hmg : mayGo x = false := by unfold mayGo; simp; omega
      rw [hmg]
      clear hmg
      go_enter Try.func31, Try.ntmps31
      go_wp2_with fail
      rename_i K hK
      try rw [show ∀ a : Act, a.put none undef = a from fun _ => rfl]
      refine wp_region_mix (fun wz => Below w.heap.size w wz) (fun i => i == 1 || i == 5 || i == 99) 99 (by kernel_rfl) rfl (by kernel_rfl) (by kernel_rfl) (by kernel_rfl) ?_
      refine withFrP (N := 21) rfl ?_
      intro f0 F0 hff
      have e0 : f0 0 = Value.pointer (some ⟨lb, 0, none⟩) := hff 0
      clear hff
      have HCC : (fun wz => Below w.heap.size w wz) (({ w with drawn := w.drawn + 1 } : World)) := Below.drew (Below.refl _ _)
      have HRO : Hid _ := room_any ({ w with drawn := w.drawn + 1 } : World) (HM.out.more HCC) hw hx hu
      refine lyp F0 rfl HCC rfl (by omega) (wanted_none rfl) (v := Value.pointer (some ⟨lb, 0, none⟩)) (fun wr hwr => by simp only [execOp, (F0.eval 0 (by omega)).trans (show _ = Value.pointer (some ⟨lb, 0, none⟩) from by simp [upd, e0])]; first | rfl | simp [go_sem]) fun Fp1 => ?_
      refine lcp Fp1 rfl HCC rfl (by omega) (wanted_none rfl) (g := 12) (args := #[Value.pointer (some ⟨lb, 0, none⟩)]) (by simp only [execOp, resolve, invoke, List.map_toArray, List.map_cons, List.map_nil, (Fp1.eval 3 (by omega)).trans (show _ = Value.pointer (some ⟨lb, 0, none⟩) from by simp [upd, e0])]; simp [go_sem, Act.eval]) HRO.out ?_
      rintro e w1 ⟨rfl, q1, hq1⟩
      refine ⟨_, rfl, fun Fp2 => ?_⟩
      have HC1 : (fun wz => Below w.heap.size w wz) w1 := HCC.trans (by rw [hq1]; exact ⟨rfl, rfl, rfl, Nat.le_refl _, fun _ _ => rfl⟩)
      have HGO : Hid _ := gone_any w1 (HM.out.more HC1) hb hu
      refine lyp Fp2 rfl HC1 rfl (by omega) (wanted_none rfl) (v := Value.bool false) (fun wr hwr => by simp only [execOp, (Fp2.eval 4 (by omega)).trans (show _ = Value.int .i64 ((x.win : Int) - (x.box.length : Int) - (x.under.length : Int)) from by simp [upd, e0])]; simp [go_sem, Act.eval, hz]) fun Fp3 => ?_
      refine lyp Fp3 rfl HC1 rfl (by omega) (wanted_none rfl) (v := Value.bool false) (fun wr hwr => by simp only [execOp, (Fp3.eval 5 (by omega)).trans (show _ = Value.bool false from by simp [upd, e0])]; first | rfl | simp [go_sem]) fun Fp4 => ?_
      refine lyp Fp4 rfl HC1 rfl (by omega) (want_yes Fp4 rfl (e := 6) rfl (by omega) (show _ = Value.bool false from by simp [upd, e0])) (v := Value.pointer (some ⟨lb, 0, none⟩)) (fun wr hwr => by simp only [execOp, (Fp4.eval 0 (by omega)).trans (show _ = Value.pointer (some ⟨lb, 0, none⟩) from by simp [upd, e0])]; first | rfl | simp [go_sem]) fun Fp5 => ?_
      refine lcp Fp5 rfl HC1 rfl (by omega) (want_yes Fp5 rfl (e := 6) rfl (by omega) (show _ = Value.bool false from by simp [upd, e0])) (g := 40) (args := #[Value.pointer (some ⟨lb, 0, none⟩)]) (by simp only [execOp, resolve, invoke, List.map_toArray, List.map_cons, List.map_nil, (Fp5.eval 7 (by omega)).trans (show _ = Value.pointer (some ⟨lb, 0, none⟩) from by simp [upd, e0])]; simp [go_sem, Act.eval]) HGO.out ?_
      rintro e w2 ⟨rfl, q2, hq2⟩
      refine ⟨_, rfl, fun Fp6 => ?_⟩
      have HC2 : (fun wz => Below w.heap.size w wz) w2 := HC1.trans (by rw [hq2]; exact ⟨rfl, rfl, rfl, Nat.le_refl _, fun _ _ => rfl⟩)
      refine lyp Fp6 rfl HC2 rfl (by omega) (want_yes Fp6 rfl (e := 6) rfl (by omega) (show _ = Value.bool false from by simp [upd, e0])) (v := Value.pointer (some ⟨lb, 0, none⟩)) (fun wr hwr => by simp only [execOp, (Fp6.eval 0 (by omega)).trans (show _ = Value.pointer (some ⟨lb, 0, none⟩) from by simp [upd, e0])]; first | rfl | simp [go_sem]) fun Fp7 => ?_
      refine lyp Fp7 rfl HC2 rfl (by omega) (want_yes Fp7 rfl (e := 6) rfl (by omega) (show _ = Value.bool false from by simp [upd, e0])) (v := Value.pointer (some ⟨lb, 0, none⟩)) (fun wr hwr => by simp only [execOp, (Fp7.eval 9 (by omega)).trans (show _ = Value.pointer (some ⟨lb, 0, none⟩) from by simp [upd, e0])]; simp [go_sem]) fun Fp8 => ?_
      refine lyp Fp8 rfl HC2 rfl (by omega) (want_yes Fp8 rfl (e := 6) rfl (by omega) (show _ = Value.bool false from by simp [upd, e0])) (v := Value.pointer (some ⟨lb, 4, none⟩)) (fun wr hwr => by simp only [execOp, (Fp8.eval 10 (by omega)).trans (show _ = Value.pointer (some ⟨lb, 0, none⟩) from by simp [upd, e0])]; simp [go_sem]) fun Fp9 => ?_
      refine lyp Fp9 rfl HC2 rfl (by omega) (want_yes Fp9 rfl (e := 6) rfl (by omega) (show _ = Value.bool false from by simp [upd, e0])) (v := Value.chan (some cb)) (fun wr hwr => by simp only [execOp, (Fp9.eval 11 (by omega)).trans (show _ = Value.pointer (some ⟨lb, 4, none⟩) from by simp [upd, e0])]; simp [go_sem, V4 _ hwr]) fun Fp10 => ?_
      refine lyp Fp10 rfl HC2 rfl (by omega) (want_yes Fp10 rfl (e := 6) rfl (by omega) (show _ = Value.bool false from by simp [upd, e0])) (v := Value.int .i64 (x.box.length : Int)) (fun wr hwr => by simp only [execOp, resolve, invoke, builtin, List.map_toArray, List.map_cons, List.map_nil, (Fp10.eval 12 (by omega)).trans (show _ = Value.chan (some cb) from by simp [upd, e0])]; simp only [Sem.run_bind, Sem.run_pure, Result.andThen_ok, VL _ hwr]; try rfl) fun Fp11 => ?_
      refine lyp Fp11 rfl HC2 rfl (by omega) (want_yes Fp11 rfl (e := 6) rfl (by omega) (show _ = Value.bool false from by simp [upd, e0])) (v := Value.int .i64 ((x.acked + (x.under.length : Int)) + (x.box.length : Int))) (fun wr hwr => by simp only [execOp, (Fp11.eval 8 (by omega)).trans (show _ = Value.int .i64 (x.acked + (x.under.length : Int)) from by simp [upd, e0]), (Fp11.eval 13 (by omega)).trans (show _ = Value.int .i64 (x.box.length : Int) from by simp [upd, e0])]; simp [go_sem, Act.eval, show IntKind.i64.wrap ((x.acked + (x.under.length : Int)) + (x.box.length : Int)) = (x.acked + (x.under.length : Int)) + (x.box.length : Int) from by rw [IntKind.wrap_i64]; omega]) fun Fp12 => ?_
      refine lyp Fp12 rfl HC2 rfl (by omega) (want_yes Fp12 rfl (e := 6) rfl (by omega) (show _ = Value.bool false from by simp [upd, e0])) (v := Value.bool true) (fun wr hwr => by simp only [execOp, (Fp12.eval 14 (by omega)).trans (show _ = Value.int .i64 ((x.acked + (x.under.length : Int)) + (x.box.length : Int)) from by simp [upd, e0])]; simp [go_sem, Act.eval, hf]) fun Fp13 => ?_
      refine lyp Fp13 rfl HC2 rfl (by omega) (wanted_none rfl) (v := Value.bool true) (fun wr hwr => by simp only [execOp, (Fp13.eval 6 (by omega)).trans (show _ = Value.bool false from by simp [upd, e0]), (Fp13.eval 15 (by omega)).trans (show _ = Value.bool true from by simp [upd, e0])]; simp [go_sem, Act.eval]) fun Fp14 => ?_
      refine ⟨fun _ => HC2, ?_⟩
      refine hK _ _ ?_
      clear F0 Fp1 Fp2 Fp3 Fp4 Fp5 Fp6 Fp7 Fp8 Fp9 Fp10 Fp11 Fp12 Fp13 Fp14 e0 
      simp only [Act.put, List.setIfInBounds_toArray, List.set_cons_succ, List.set_cons_zero]
      have HF : Hid (Below w.heap.size w w2) := HC2
      clear HC1 HC2 HCC HRO HGO V4 VL hq1 hq2
      go_wp2_with fail
      go_ret
      exact ⟨rfl, HF.out⟩
    · have hmg : mayGo x = true := by unfold mayGo; simp; omega
      rw [hmg]
      clear hmg
      go_enter Try.func31, Try.ntmps31
      go_wp2_with fail
      rename_i K hK
      try rw [show ∀ a : Act, a.put none undef = a from fun _ => rfl]
      refine wp_region_mix (fun wz => Below w.heap.size w wz) (fun i => i == 1 || i == 5 || i == 99) 99 (by kernel_rfl) rfl (by kernel_rfl) (by kernel_rfl) (by kernel_rfl) ?_
      refine withFrP (N := 21) rfl ?_
      intro f0 F0 hff
      have e0 : f0 0 = Value.pointer (some ⟨lb, 0, none⟩) := hff 0
      clear hff
      have HCC : (fun wz => Below w.heap.size w wz) (({ w with drawn := w.drawn + 1 } : World)) := Below.drew (Below.refl _ _)
      have HRO : Hid _ := room_any ({ w with drawn := w.drawn + 1 } : World) (HM.out.more HCC) hw hx hu
      refine lyp F0 rfl HCC rfl (by omega) (wanted_none rfl) (v := Value.pointer (some ⟨lb, 0, none⟩)) (fun wr hwr => by simp only [execOp, (F0.eval 0 (by omega)).trans (show _ = Value.pointer (some ⟨lb, 0, none⟩) from by simp [upd, e0])]; first | rfl | simp [go_sem]) fun Fp1 => ?_
      refine lcp Fp1 rfl HCC rfl (by omega) (wanted_none rfl) (g := 12) (args := #[Value.pointer (some ⟨lb, 0, none⟩)]) (by simp only [execOp, resolve, invoke, List.map_toArray, List.map_cons, List.map_nil, (Fp1.eval 3 (by omega)).trans (show _ = Value.pointer (some ⟨lb, 0, none⟩) from by simp [upd, e0])]; simp [go_sem, Act.eval]) HRO.out ?_
      rintro e w1 ⟨rfl, q1, hq1⟩
      refine ⟨_, rfl, fun Fp2 => ?_⟩
      have HC1 : (fun wz => Below w.heap.size w wz) w1 := HCC.trans (by rw [hq1]; exact ⟨rfl, rfl, rfl, Nat.le_refl _, fun _ _ => rfl⟩)
      have HGO : Hid _ := gone_any w1 (HM.out.more HC1) hb hu
      refine lyp Fp2 rfl HC1 rfl (by omega) (wanted_none rfl) (v := Value.bool false) (fun wr hwr => by simp only [execOp, (Fp2.eval 4 (by omega)).trans (show _ = Value.int .i64 ((x.win : Int) - (x.box.length : Int) - (x.under.length : Int)) from by simp [upd, e0])]; simp [go_sem, Act.eval, hz]) fun Fp3 => ?_
      refine lyp Fp3 rfl HC1 rfl (by omega) (wanted_none rfl) (v := Value.bool false) (fun wr hwr => by simp only [execOp, (Fp3.eval 5 (by omega)).trans (show _ = Value.bool false from by simp [upd, e0])]; first | rfl | simp [go_sem]) fun Fp4 => ?_
      refine lyp Fp4 rfl HC1 rfl (by omega) (want_yes Fp4 rfl (e := 6) rfl (by omega) (show _ = Value.bool false from by simp [upd, e0])) (v := Value.pointer (some ⟨lb, 0, none⟩)) (fun wr hwr => by simp only [execOp, (Fp4.eval 0 (by omega)).trans (show _ = Value.pointer (some ⟨lb, 0, none⟩) from by simp [upd, e0])]; first | rfl | simp [go_sem]) fun Fp5 => ?_
      refine lcp Fp5 rfl HC1 rfl (by omega) (want_yes Fp5 rfl (e := 6) rfl (by omega) (show _ = Value.bool false from by simp [upd, e0])) (g := 40) (args := #[Value.pointer (some ⟨lb, 0, none⟩)]) (by simp only [execOp, resolve, invoke, List.map_toArray, List.map_cons, List.map_nil, (Fp5.eval 7 (by omega)).trans (show _ = Value.pointer (some ⟨lb, 0, none⟩) from by simp [upd, e0])]; simp [go_sem, Act.eval]) HGO.out ?_
      rintro e w2 ⟨rfl, q2, hq2⟩
      refine ⟨_, rfl, fun Fp6 => ?_⟩
      have HC2 : (fun wz => Below w.heap.size w wz) w2 := HC1.trans (by rw [hq2]; exact ⟨rfl, rfl, rfl, Nat.le_refl _, fun _ _ => rfl⟩)
      refine lyp Fp6 rfl HC2 rfl (by omega) (want_yes Fp6 rfl (e := 6) rfl (by omega) (show _ = Value.bool false from by simp [upd, e0])) (v := Value.pointer (some ⟨lb, 0, none⟩)) (fun wr hwr => by simp only [execOp, (Fp6.eval 0 (by omega)).trans (show _ = Value.pointer (some ⟨lb, 0, none⟩) from by simp [upd, e0])]; first | rfl | simp [go_sem]) fun Fp7 => ?_
      refine lyp Fp7 rfl HC2 rfl (by omega) (want_yes Fp7 rfl (e := 6) rfl (by omega) (show _ = Value.bool false from by simp [upd, e0])) (v := Value.pointer (some ⟨lb, 0, none⟩)) (fun wr hwr => by simp only [execOp, (Fp7.eval 9 (by omega)).trans (show _ = Value.pointer (some ⟨lb, 0, none⟩) from by simp [upd, e0])]; simp [go_sem]) fun Fp8 => ?_
      refine lyp Fp8 rfl HC2 rfl (by omega) (want_yes Fp8 rfl (e := 6) rfl (by omega) (show _ = Value.bool false from by simp [upd, e0])) (v := Value.pointer (some ⟨lb, 4, none⟩)) (fun wr hwr => by simp only [execOp, (Fp8.eval 10 (by omega)).trans (show _ = Value.pointer (some ⟨lb, 0, none⟩) from by simp [upd, e0])]; simp [go_sem]) fun Fp9 => ?_
      refine lyp Fp9 rfl HC2 rfl (by omega) (want_yes Fp9 rfl (e := 6) rfl (by omega) (show _ = Value.bool false from by simp [upd, e0])) (v := Value.chan (some cb)) (fun wr hwr => by simp only [execOp, (Fp9.eval 11 (by omega)).trans (show _ = Value.pointer (some ⟨lb, 4, none⟩) from by simp [upd, e0])]; simp [go_sem, V4 _ hwr]) fun Fp10 => ?_
      refine lyp Fp10 rfl HC2 rfl (by omega) (want_yes Fp10 rfl (e := 6) rfl (by omega) (show _ = Value.bool false from by simp [upd, e0])) (v := Value.int .i64 (x.box.length : Int)) (fun wr hwr => by simp only [execOp, resolve, invoke, builtin, List.map_toArray, List.map_cons, List.map_nil, (Fp10.eval 12 (by omega)).trans (show _ = Value.chan (some cb) from by simp [upd, e0])]; simp only [Sem.run_bind, Sem.run_pure, Result.andThen_ok, VL _ hwr]; try rfl) fun Fp11 => ?_
      refine lyp Fp11 rfl HC2 rfl (by omega) (want_yes Fp11 rfl (e := 6) rfl (by omega) (show _ = Value.bool false from by simp [upd, e0])) (v := Value.int .i64 ((x.acked + (x.under.length : Int)) + (x.box.length : Int))) (fun wr hwr => by simp only [execOp, (Fp11.eval 8 (by omega)).trans (show _ = Value.int .i64 (x.acked + (x.under.length : Int)) from by simp [upd, e0]), (Fp11.eval 13 (by omega)).trans (show _ = Value.int .i64 (x.box.length : Int) from by simp [upd, e0])]; simp [go_sem, Act.eval, show IntKind.i64.wrap ((x.acked + (x.under.length : Int)) + (x.box.length : Int)) = (x.acked + (x.under.length : Int)) + (x.box.length : Int) from by rw [IntKind.wrap_i64]; omega]) fun Fp12 => ?_
      refine lyp Fp12 rfl HC2 rfl (by omega) (want_yes Fp12 rfl (e := 6) rfl (by omega) (show _ = Value.bool false from by simp [upd, e0])) (v := Value.bool false) (fun wr hwr => by simp only [execOp, (Fp12.eval 14 (by omega)).trans (show _ = Value.int .i64 ((x.acked + (x.under.length : Int)) + (x.box.length : Int)) from by simp [upd, e0])]; simp [go_sem, Act.eval, hf]) fun Fp13 => ?_
      refine lyp Fp13 rfl HC2 rfl (by omega) (wanted_none rfl) (v := Value.bool false) (fun wr hwr => by simp only [execOp, (Fp13.eval 6 (by omega)).trans (show _ = Value.bool false from by simp [upd, e0]), (Fp13.eval 15 (by omega)).trans (show _ = Value.bool false from by simp [upd, e0])]; simp [go_sem, Act.eval]) fun Fp14 => ?_
      refine ⟨fun _ => HC2, ?_⟩
      refine hK _ _ ?_
      clear F0 Fp1 Fp2 Fp3 Fp4 Fp5 Fp6 Fp7 Fp8 Fp9 Fp10 Fp11 Fp12 Fp13 Fp14 e0 
      simp only [Act.put, List.setIfInBounds_toArray, List.set_cons_succ, List.set_cons_zero]
      have HF : Hid (Below w.heap.size w w2) := HC2
      have c4' := V4 w2 HC2
      clear HC1 HC2 HCC HRO HGO V4 VL hq1 hq2
      go_wp2_with fail
      go_ret
      exact ⟨rfl, HF.out⟩
end Go.Proofs.Ytcjgicfmfjomgaa
