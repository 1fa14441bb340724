import Derived.Test.YtmnihombiabkgaaPlT
namespace Go.Proofs.Ytmnihombiabkgaa
open Go.RowKit Go.PlainAid Go.MapKept
set_option linter.unusedVariables false
set_option linter.unusedSimpArgs false
set_option maxRecDepth 100000 in
set_option maxHeartbeats 6400000 in
theorem step_any {σ : Type} {L kb : Nat} {KP : Keeper σ L kb} {ab aw am : Nat} {au : Int} {rbase rb : Nat} {W : World} {s : WV} {va : List Value} {v : Value} {σ0 : σ} (k a b c : Int) (w : World) (h : PS L kb KP ⟨ab, aw, am, au⟩ rbase rb W s s va v σ0 w) (hb1 : s.now ≤ 1000) (hb2 : s.last ≤ 1000) (hct : KP.cnt σ0 ≤ 9000) :
    Calls Try.prog 28 #[.pointer (some ⟨aw, 0, none⟩), .pointer (some ⟨rb, 0, none⟩), .pointer (some ⟨kb, 0, none⟩), .agg #[.int .i64 k, .int .i64 a, .int .i64 b, .int .i64 c]] w fun e w' => e = .returned (.bool true) ∧ ∃ va' v' σ', PS L kb KP ⟨ab, aw, am, au⟩ rbase rb W (nx k a b c s) (nx k a b c s) va' v' σ' w' ∧ KP.cnt σ' ≤ KP.cnt σ0 + 18 := by
  obtain ⟨X, hX⟩ : ∃ X, X = w.alloc (.cells #[.int .i64 k, .int .i64 a, .int .i64 b, .int .i64 c] 40) := ⟨_, rfl⟩
  obtain ⟨bx, hbx⟩ : ∃ bx, bx = w.heap.size := ⟨_, rfl⟩
  have hBx : Blk X bx #[.int .i64 k, .int .i64 a, .int .i64 b, .int .i64 c] 40 := by rw [hX, hbx]; exact heap_alloc_new w _
  have c0 : X.cell? ⟨bx, 0, none⟩ = some (.int .i64 k) := hBx.cell 0
  have hBe : Below w.heap.size w X := by rw [hX]; exact (Below.refl _ _).alloc (Nat.le_refl _) _
  have HX : Hid (PS L kb KP ⟨ab, aw, am, au⟩ rbase rb W s s va v σ0 X) := h.more hBe
  have HBX : Hid (Blk X bx #[.int .i64 k, .int .i64 a, .int .i64 b, .int .i64 c] 40) := hBx
  have HNW : Hid (∀ j, j = bx → ¬ wown aw am va j) := fun j e hk => by
    have := (HD.lt h.hw hk).2
    omega
  have HNR : Hid (∀ j, j = bx → ¬ rown rb v j) := fun j e hk => by
    have := (h.hr.lt hk).2
    omega
  have hn0 : 0 ≤ s.now := h.hw.wb.hw.1
  have hl0 : 0 ≤ s.last := h.hw.wb.hl.1
  have hlA : s.A.length ≤ 1000 := by have := h.hw.wb.len; have e : (HD.mk ab aw am au).ok s va w := h.hw; omega
  clear h hBx hBe
  go_enter Try.func28, Try.ntmps28
  go_upto_region 1 with fail
  rw [← hX, ← hbx]
  clear hX hbx
  by_cases k1 : k = 1
  · subst k1
    go_wp2_with fail
    rename_i K hK
    try rw [show ∀ a : Act, a.put none undef = a from fun _ => rfl]
    refine wp_region_mix (fun wz => wz.cell? ⟨bx, 1, none⟩ = some (.int .i64 a) ∧ wz.cell? ⟨bx, 2, none⟩ = some (.int .i64 b) ∧ wz.cell? ⟨bx, 3, none⟩ = some (.int .i64 c)) (fun i => i == 7 || i == 15 || i == 99) 99 (by kernel_rfl) rfl (by kernel_rfl) (by kernel_rfl) (by kernel_rfl) ?_
    refine withFrP (N := 78) rfl ?_
    intro f0 F0 hff
    have e0 : f0 0 = Value.pointer (some ⟨aw, 0, none⟩) := hff 0
    have e1 : f0 1 = Value.pointer (some ⟨rb, 0, none⟩) := hff 1
    have e7 : f0 7 = Value.pointer (some ⟨bx, 0, none⟩) := hff 7
    clear hff
    have HXD : Hid (PS L kb KP ⟨ab, aw, am, au⟩ rbase rb W s s va v σ0 ({ X with drawn := X.drawn + 1 } : World)) := HX.out.more (Below.drew (Below.refl _ _))
    have hBd : Blk ({ X with drawn := X.drawn + 1 } : World) bx #[.int .i64 1, .int .i64 a, .int .i64 b, .int .i64 c] 40 := HBX.out
    have HCC : (fun wz => wz.cell? ⟨bx, 1, none⟩ = some (.int .i64 a) ∧ wz.cell? ⟨bx, 2, none⟩ = some (.int .i64 b) ∧ wz.cell? ⟨bx, 3, none⟩ = some (.int .i64 c)) (({ X with drawn := X.drawn + 1 } : World)) := ⟨hBd.cell 1, hBd.cell 2, hBd.cell 3⟩
    have HARM : Hid _ := arm_any (base := ab) (whb := aw) (mp := am) (u := au) a b c ({ X with drawn := X.drawn + 1 } : World) HXD.out.hw.wl HXD.out.hw.wb (by omega)
    refine lyp F0 rfl HCC rfl (by omega) (wanted_none rfl) (v := Value.pointer (some ⟨aw, 0, none⟩)) (fun wr hwr => by simp only [execOp, (F0.eval 0 (by omega)).trans (show _ = Value.pointer (some ⟨aw, 0, none⟩) from by simp [upd, e0, e1, e7])]; first | rfl | simp [go_sem]) fun Fp1 => ?_
    refine lyp Fp1 rfl HCC rfl (by omega) (wanted_none rfl) (v := Value.pointer (some ⟨bx, 1, none⟩)) (fun wr hwr => by simp only [execOp, (Fp1.eval 7 (by omega)).trans (show _ = Value.pointer (some ⟨bx, 0, none⟩) from by simp [upd, e0, e1, e7])]; simp [go_sem]) fun Fp2 => ?_
    refine lyp Fp2 rfl HCC rfl (by omega) (wanted_none rfl) (v := Value.int .i64 a) (fun wr hwr => by simp only [execOp, (Fp2.eval 18 (by omega)).trans (show _ = Value.pointer (some ⟨bx, 1, none⟩) from by simp [upd, e0, e1, e7])]; simp [go_sem, hwr.1]) fun Fp3 => ?_
    refine lyp Fp3 rfl HCC rfl (by omega) (wanted_none rfl) (v := Value.pointer (some ⟨bx, 2, none⟩)) (fun wr hwr => by simp only [execOp, (Fp3.eval 7 (by omega)).trans (show _ = Value.pointer (some ⟨bx, 0, none⟩) from by simp [upd, e0, e1, e7])]; simp [go_sem]) fun Fp4 => ?_
    refine lyp Fp4 rfl HCC rfl (by omega) (wanted_none rfl) (v := Value.int .i64 b) (fun wr hwr => by simp only [execOp, (Fp4.eval 20 (by omega)).trans (show _ = Value.pointer (some ⟨bx, 2, none⟩) from by simp [upd, e0, e1, e7])]; simp [go_sem, hwr.2.1]) fun Fp5 => ?_
    refine lyp Fp5 rfl HCC rfl (by omega) (wanted_none rfl) (v := Value.pointer (some ⟨bx, 3, none⟩)) (fun wr hwr => by simp only [execOp, (Fp5.eval 7 (by omega)).trans (show _ = Value.pointer (some ⟨bx, 0, none⟩) from by simp [upd, e0, e1, e7])]; simp [go_sem]) fun Fp6 => ?_
    refine lyp Fp6 rfl HCC rfl (by omega) (wanted_none rfl) (v := Value.int .i64 c) (fun wr hwr => by simp only [execOp, (Fp6.eval 22 (by omega)).trans (show _ = Value.pointer (some ⟨bx, 3, none⟩) from by simp [upd, e0, e1, e7])]; simp [go_sem, hwr.2.2]) fun Fp7 => ?_
    refine lcp Fp7 rfl HCC rfl (by omega) (wanted_none rfl) (g := 12) (args := #[Value.pointer (some ⟨aw, 0, none⟩), Value.int .i64 a, Value.int .i64 b, Value.int .i64 c]) (by simp only [execOp, resolve, invoke, List.map_toArray, List.map_cons, List.map_nil, (Fp7.eval 17 (by omega)).trans (show _ = Value.pointer (some ⟨aw, 0, none⟩) from by simp [upd, e0, e1, e7]), (Fp7.eval 19 (by omega)).trans (show _ = Value.int .i64 a from by simp [upd, e0, e1, e7]), (Fp7.eval 21 (by omega)).trans (show _ = Value.int .i64 b from by simp [upd, e0, e1, e7]), (Fp7.eval 23 (by omega)).trans (show _ = Value.int .i64 c from by simp [upd, e0, e1, e7])]; simp [go_sem, Act.eval]) HARM.out ?_
    rintro e w2 ⟨rfl, vs2, hW2, hs2⟩
    refine ⟨_, rfl, fun Fp8 => ?_⟩
    have HP2 : Hid (PS L kb KP ⟨ab, aw, am, au⟩ rbase rb W (nx 1 a b c s) s vs2 v σ0 w2) := HXD.out.setW ⟨hW2, HXD.out.hw.wb.push (by omega) a b c⟩ hs2
    have hB2 : Blk w2 bx #[.int .i64 1, .int .i64 a, .int .i64 b, .int .i64 c] 40 := hs2.1.blk hBd (fun hk => HNW.out bx rfl hk)
    have HC2 : (fun wz => wz.cell? ⟨bx, 1, none⟩ = some (.int .i64 a) ∧ wz.cell? ⟨bx, 2, none⟩ = some (.int .i64 b) ∧ wz.cell? ⟨bx, 3, none⟩ = some (.int .i64 c)) w2 := ⟨hB2.cell 1, hB2.cell 2, hB2.cell 3⟩
    have HRA : Hid _ := rarm_any a b c w2 HP2.out.hr (by omega) ⟨hn0, by omega⟩ ⟨hl0, by omega⟩
    refine lyp Fp8 rfl HC2 rfl (by omega) (wanted_none rfl) (v := Value.pointer (some ⟨rb, 0, none⟩)) (fun wr hwr => by simp only [execOp, (Fp8.eval 1 (by omega)).trans (show _ = Value.pointer (some ⟨rb, 0, none⟩) from by simp [upd, e0, e1, e7])]; first | rfl | simp [go_sem]) fun Fp9 => ?_
    refine lyp Fp9 rfl HC2 rfl (by omega) (wanted_none rfl) (v := Value.pointer (some ⟨bx, 1, none⟩)) (fun wr hwr => by simp only [execOp, (Fp9.eval 7 (by omega)).trans (show _ = Value.pointer (some ⟨bx, 0, none⟩) from by simp [upd, e0, e1, e7])]; simp [go_sem]) fun Fp10 => ?_
    refine lyp Fp10 rfl HC2 rfl (by omega) (wanted_none rfl) (v := Value.int .i64 a) (fun wr hwr => by simp only [execOp, (Fp10.eval 26 (by omega)).trans (show _ = Value.pointer (some ⟨bx, 1, none⟩) from by simp [upd, e0, e1, e7])]; simp [go_sem, hwr.1]) fun Fp11 => ?_
    refine lyp Fp11 rfl HC2 rfl (by omega) (wanted_none rfl) (v := Value.pointer (some ⟨bx, 2, none⟩)) (fun wr hwr => by simp only [execOp, (Fp11.eval 7 (by omega)).trans (show _ = Value.pointer (some ⟨bx, 0, none⟩) from by simp [upd, e0, e1, e7])]; simp [go_sem]) fun Fp12 => ?_
    refine lyp Fp12 rfl HC2 rfl (by omega) (wanted_none rfl) (v := Value.int .i64 b) (fun wr hwr => by simp only [execOp, (Fp12.eval 28 (by omega)).trans (show _ = Value.pointer (some ⟨bx, 2, none⟩) from by simp [upd, e0, e1, e7])]; simp [go_sem, hwr.2.1]) fun Fp13 => ?_
    refine lyp Fp13 rfl HC2 rfl (by omega) (wanted_none rfl) (v := Value.pointer (some ⟨bx, 3, none⟩)) (fun wr hwr => by simp only [execOp, (Fp13.eval 7 (by omega)).trans (show _ = Value.pointer (some ⟨bx, 0, none⟩) from by simp [upd, e0, e1, e7])]; simp [go_sem]) fun Fp14 => ?_
    refine lyp Fp14 rfl HC2 rfl (by omega) (wanted_none rfl) (v := Value.int .i64 c) (fun wr hwr => by simp only [execOp, (Fp14.eval 30 (by omega)).trans (show _ = Value.pointer (some ⟨bx, 3, none⟩) from by simp [upd, e0, e1, e7])]; simp [go_sem, hwr.2.2]) fun Fp15 => ?_
    refine lcp Fp15 rfl HC2 rfl (by omega) (wanted_none rfl) (g := 38) (args := #[Value.pointer (some ⟨rb, 0, none⟩), Value.int .i64 a, Value.int .i64 b, Value.int .i64 c]) (by simp only [execOp, resolve, invoke, List.map_toArray, List.map_cons, List.map_nil, (Fp15.eval 25 (by omega)).trans (show _ = Value.pointer (some ⟨rb, 0, none⟩) from by simp [upd, e0, e1, e7]), (Fp15.eval 27 (by omega)).trans (show _ = Value.int .i64 a from by simp [upd, e0, e1, e7]), (Fp15.eval 29 (by omega)).trans (show _ = Value.int .i64 b from by simp [upd, e0, e1, e7]), (Fp15.eval 31 (by omega)).trans (show _ = Value.int .i64 c from by simp [upd, e0, e1, e7])]; simp [go_sem, Act.eval]) HRA.out ?_
    rintro e w3 ⟨rfl, v3, hR3, hs3⟩
    refine ⟨_, rfl, fun Fp16 => ?_⟩
    have HP3 : Hid (PS L kb KP ⟨ab, aw, am, au⟩ rbase rb W (nx 1 a b c s) (nx 1 a b c s) vs2 v3 σ0 w3) := HP2.out.setR hR3 hs3
    have hB3 : Blk w3 bx #[.int .i64 1, .int .i64 a, .int .i64 b, .int .i64 c] 40 := hs3.1.blk hB2 (fun hk => HNR.out bx rfl hk)
    have HC3 : (fun wz => wz.cell? ⟨bx, 1, none⟩ = some (.int .i64 a) ∧ wz.cell? ⟨bx, 2, none⟩ = some (.int .i64 b) ∧ wz.cell? ⟨bx, 3, none⟩ = some (.int .i64 c)) w3 := ⟨hB3.cell 1, hB3.cell 2, hB3.cell 3⟩
    refine lyp Fp16 rfl HC3 rfl (by omega) (wanted_none rfl) (v := Value.bool true) (fun wr hwr => by simp only [execOp, (Fp16.eval 24 (by omega)).trans (show _ = Value.int .i64 (s.last + 1) from by simp [upd, e0, e1, e7]), (Fp16.eval 32 (by omega)).trans (show _ = Value.int .i64 (s.last + 1) from by simp [upd, e0, e1, e7])]; simp [go_sem]) fun Fp17 => ?_
    refine lyp Fp17 rfl HC3 rfl (by omega) (wanted_none rfl) (v := Value.bool true) (fun wr hwr => by simp only [execOp, (Fp17.eval 33 (by omega)).trans (show _ = Value.bool true from by simp [upd, e0, e1, e7])]; first | rfl | simp [go_sem]) fun Fp18 => ?_
    refine ⟨fun _ => HC3, ?_⟩
    refine hK _ _ ?_
    clear F0 Fp1 Fp2 Fp3 Fp4 Fp5 Fp6 Fp7 Fp8 Fp9 Fp10 Fp11 Fp12 Fp13 Fp14 Fp15 Fp16 Fp17 Fp18 e0 e1 e7 HCC HC2 HC3 HARM HRA
    simp only [Act.put, List.setIfInBounds_toArray, List.set_cons_succ, List.set_cons_zero]
    clear hBd hB2 hB3 hW2 hs2 hR3 hs3 HXD HP2
    go_wp2_with fail
    go_ret
    exact ⟨rfl, _, _, _, HP3.out, by omega⟩
  · have k1b : (k == 1) = false := by simpa using k1
    by_cases k2 : k = 2
    · subst k2
      clear k1 k1b
      cases hh : has a s with
      | true =>
        obtain ⟨t, ht, hta⟩ := has_yes hh
        go_wp2_with fail
        rename_i K hK
        try rw [show ∀ a : Act, a.put none undef = a from fun _ => rfl]
        refine wp_region_mix (fun wz => wz.cell? ⟨bx, 1, none⟩ = some (.int .i64 a) ∧ wz.cell? ⟨bx, 2, none⟩ = some (.int .i64 b) ∧ wz.cell? ⟨bx, 3, none⟩ = some (.int .i64 c)) (fun i => i == 3 || i == 7 || i == 99) 99 (by kernel_rfl) rfl (by kernel_rfl) (by kernel_rfl) (by kernel_rfl) ?_
        refine withFrP (N := 78) rfl ?_
        intro f0 F0 hff
        have e0 : f0 0 = Value.pointer (some ⟨aw, 0, none⟩) := hff 0
        have e1 : f0 1 = Value.pointer (some ⟨rb, 0, none⟩) := hff 1
        have e7 : f0 7 = Value.pointer (some ⟨bx, 0, none⟩) := hff 7
        clear hff
        have HXD : Hid (PS L kb KP ⟨ab, aw, am, au⟩ rbase rb W s s va v σ0 ({ X with drawn := X.drawn + 1 } : World)) := HX.out.more (Below.drew (Below.refl _ _))
        have hBd : Blk ({ X with drawn := X.drawn + 1 } : World) bx #[.int .i64 2, .int .i64 a, .int .i64 b, .int .i64 c] 40 := HBX.out
        have HCC : (fun wz => wz.cell? ⟨bx, 1, none⟩ = some (.int .i64 a) ∧ wz.cell? ⟨bx, 2, none⟩ = some (.int .i64 b) ∧ wz.cell? ⟨bx, 3, none⟩ = some (.int .i64 c)) (({ X with drawn := X.drawn + 1 } : World)) := ⟨hBd.cell 1, hBd.cell 2, hBd.cell 3⟩
        have HCA : Hid _ := cancel_yes (base := ab) (whb := aw) (mp := am) (u := au) t ({ X with drawn := X.drawn + 1 } : World) HXD.out.hw.wl HXD.out.hw.wb ht
        rw [hta] at HCA
        refine lyp F0 rfl HCC rfl (by omega) (wanted_none rfl) (v := Value.pointer (some ⟨aw, 0, none⟩)) (fun wr hwr => by simp only [execOp, (F0.eval 0 (by omega)).trans (show _ = Value.pointer (some ⟨aw, 0, none⟩) from by simp [upd, e0, e1, e7])]; first | rfl | simp [go_sem]) fun Fq1 => ?_
        refine lyp Fq1 rfl HCC rfl (by omega) (wanted_none rfl) (v := Value.pointer (some ⟨bx, 1, none⟩)) (fun wr hwr => by simp only [execOp, (Fq1.eval 7 (by omega)).trans (show _ = Value.pointer (some ⟨bx, 0, none⟩) from by simp [upd, e0, e1, e7])]; simp [go_sem]) fun Fq2 => ?_
        refine lyp Fq2 rfl HCC rfl (by omega) (wanted_none rfl) (v := Value.int .i64 a) (fun wr hwr => by simp only [execOp, (Fq2.eval 37 (by omega)).trans (show _ = Value.pointer (some ⟨bx, 1, none⟩) from by simp [upd, e0, e1, e7])]; simp [go_sem, hwr.1]) fun Fq3 => ?_
        refine lcp Fq3 rfl HCC rfl (by omega) (wanted_none rfl) (g := 14) (args := #[Value.pointer (some ⟨aw, 0, none⟩), Value.int .i64 a]) (by simp only [execOp, resolve, invoke, List.map_toArray, List.map_cons, List.map_nil, (Fq3.eval 36 (by omega)).trans (show _ = Value.pointer (some ⟨aw, 0, none⟩) from by simp [upd, e0, e1, e7]), (Fq3.eval 38 (by omega)).trans (show _ = Value.int .i64 a from by simp [upd, e0, e1, e7])]; simp [go_sem, Act.eval]) HCA.out ?_
        rintro e w2 ⟨rfl, vs2, hW2, hs2⟩
        refine ⟨_, rfl, fun Fq4 => ?_⟩
        have HP2 : Hid (PS L kb KP ⟨ab, aw, am, au⟩ rbase rb W (nx 2 a b c s) s vs2 v σ0 w2) := HXD.out.setW ⟨hW2, HXD.out.hw.wb.gone a⟩ hs2
        have hB2 : Blk w2 bx #[.int .i64 2, .int .i64 a, .int .i64 b, .int .i64 c] 40 := hs2.1.blk hBd (fun hk => HNW.out bx rfl hk)
        have HC2 : (fun wz => wz.cell? ⟨bx, 1, none⟩ = some (.int .i64 a) ∧ wz.cell? ⟨bx, 2, none⟩ = some (.int .i64 b) ∧ wz.cell? ⟨bx, 3, none⟩ = some (.int .i64 c)) w2 := ⟨hB2.cell 1, hB2.cell 2, hB2.cell 3⟩
        have HRA : Hid _ := rcancel_any a w2 HP2.out.hr (by omega)
        refine lyp Fq4 rfl HC2 rfl (by omega) (wanted_none rfl) (v := Value.pointer (some ⟨rb, 0, none⟩)) (fun wr hwr => by simp only [execOp, (Fq4.eval 1 (by omega)).trans (show _ = Value.pointer (some ⟨rb, 0, none⟩) from by simp [upd, e0, e1, e7])]; first | rfl | simp [go_sem]) fun Fq5 => ?_
        refine lyp Fq5 rfl HC2 rfl (by omega) (wanted_none rfl) (v := Value.pointer (some ⟨bx, 1, none⟩)) (fun wr hwr => by simp only [execOp, (Fq5.eval 7 (by omega)).trans (show _ = Value.pointer (some ⟨bx, 0, none⟩) from by simp [upd, e0, e1, e7])]; simp [go_sem]) fun Fq6 => ?_
        refine lyp Fq6 rfl HC2 rfl (by omega) (wanted_none rfl) (v := Value.int .i64 a) (fun wr hwr => by simp only [execOp, (Fq6.eval 41 (by omega)).trans (show _ = Value.pointer (some ⟨bx, 1, none⟩) from by simp [upd, e0, e1, e7])]; simp [go_sem, hwr.1]) fun Fq7 => ?_
        refine lcp Fq7 rfl HC2 rfl (by omega) (wanted_none rfl) (g := 39) (args := #[Value.pointer (some ⟨rb, 0, none⟩), Value.int .i64 a]) (by simp only [execOp, resolve, invoke, List.map_toArray, List.map_cons, List.map_nil, (Fq7.eval 40 (by omega)).trans (show _ = Value.pointer (some ⟨rb, 0, none⟩) from by simp [upd, e0, e1, e7]), (Fq7.eval 42 (by omega)).trans (show _ = Value.int .i64 a from by simp [upd, e0, e1, e7])]; simp [go_sem, Act.eval]) HRA.out ?_
        rintro e w3 ⟨rfl, v3, hR3, hs3⟩
        refine ⟨_, rfl, fun Fq8 => ?_⟩
        have HP3 : Hid (PS L kb KP ⟨ab, aw, am, au⟩ rbase rb W (nx 2 a b c s) (nx 2 a b c s) vs2 v3 σ0 w3) := HP2.out.setR hR3 hs3
        have hB3 : Blk w3 bx #[.int .i64 2, .int .i64 a, .int .i64 b, .int .i64 c] 40 := hs3.1.blk hB2 (fun hk => HNR.out bx rfl hk)
        have HC3 : (fun wz => wz.cell? ⟨bx, 1, none⟩ = some (.int .i64 a) ∧ wz.cell? ⟨bx, 2, none⟩ = some (.int .i64 b) ∧ wz.cell? ⟨bx, 3, none⟩ = some (.int .i64 c)) w3 := ⟨hB3.cell 1, hB3.cell 2, hB3.cell 3⟩
        refine lyp Fq8 rfl HC3 rfl (by omega) (wanted_none rfl) (v := Value.bool true) (fun wr hwr => by simp only [execOp, (Fq8.eval 39 (by omega)).trans (show _ = Value.bool true from by simp [upd, e0, e1, e7]), (Fq8.eval 43 (by omega)).trans (show _ = Value.bool (has a s) from by simp [upd, e0, e1, e7])]; simp [go_sem, hh]) fun Fq9 => ?_
        refine lyp Fq9 rfl HC3 rfl (by omega) (wanted_none rfl) (v := Value.bool true) (fun wr hwr => by simp only [execOp, (Fq9.eval 44 (by omega)).trans (show _ = Value.bool true from by simp [upd, e0, e1, e7])]; first | rfl | simp [go_sem]) fun Fq10 => ?_
        refine ⟨fun _ => HC3, ?_⟩
        refine hK _ _ ?_
        clear F0 Fq1 Fq2 Fq3 Fq4 Fq5 Fq6 Fq7 Fq8 Fq9 Fq10 e0 e1 e7 HCC HC2 HC3 HCA HRA
        simp only [Act.put, List.setIfInBounds_toArray, List.set_cons_succ, List.set_cons_zero]
        clear hBd hB2 hB3 hR3 hs3 HXD HP2 hW2 hs2 hta ht hh
        go_wp2_with fail
        go_ret
        exact ⟨rfl, _, _, _, HP3.out, by omega⟩
      | false =>
        have hno := has_no hh
        have hgn : gone a s.A = s.A := gone_self hno
        go_wp2_with fail
        rename_i K hK
        try rw [show ∀ a : Act, a.put none undef = a from fun _ => rfl]
        refine wp_region_mix (fun wz => wz.cell? ⟨bx, 1, none⟩ = some (.int .i64 a) ∧ wz.cell? ⟨bx, 2, none⟩ = some (.int .i64 b) ∧ wz.cell? ⟨bx, 3, none⟩ = some (.int .i64 c)) (fun i => i == 3 || i == 7 || i == 99) 99 (by kernel_rfl) rfl (by kernel_rfl) (by kernel_rfl) (by kernel_rfl) ?_
        refine withFrP (N := 78) rfl ?_
        intro f0 F0 hff
        have e0 : f0 0 = Value.pointer (some ⟨aw, 0, none⟩) := hff 0
        have e1 : f0 1 = Value.pointer (some ⟨rb, 0, none⟩) := hff 1
        have e7 : f0 7 = Value.pointer (some ⟨bx, 0, none⟩) := hff 7
        clear hff
        have HXD : Hid (PS L kb KP ⟨ab, aw, am, au⟩ rbase rb W s s va v σ0 ({ X with drawn := X.drawn + 1 } : World)) := HX.out.more (Below.drew (Below.refl _ _))
        have hBd : Blk ({ X with drawn := X.drawn + 1 } : World) bx #[.int .i64 2, .int .i64 a, .int .i64 b, .int .i64 c] 40 := HBX.out
        have HCC : (fun wz => wz.cell? ⟨bx, 1, none⟩ = some (.int .i64 a) ∧ wz.cell? ⟨bx, 2, none⟩ = some (.int .i64 b) ∧ wz.cell? ⟨bx, 3, none⟩ = some (.int .i64 c)) (({ X with drawn := X.drawn + 1 } : World)) := ⟨hBd.cell 1, hBd.cell 2, hBd.cell 3⟩
        have HCA : Hid _ := cancel_no (base := ab) (whb := aw) (mp := am) (u := au) a ({ X with drawn := X.drawn + 1 } : World) HXD.out.hw.wl hno
        refine lyp F0 rfl HCC rfl (by omega) (wanted_none rfl) (v := Value.pointer (some ⟨aw, 0, none⟩)) (fun wr hwr => by simp only [execOp, (F0.eval 0 (by omega)).trans (show _ = Value.pointer (some ⟨aw, 0, none⟩) from by simp [upd, e0, e1, e7])]; first | rfl | simp [go_sem]) fun Fq1 => ?_
        refine lyp Fq1 rfl HCC rfl (by omega) (wanted_none rfl) (v := Value.pointer (some ⟨bx, 1, none⟩)) (fun wr hwr => by simp only [execOp, (Fq1.eval 7 (by omega)).trans (show _ = Value.pointer (some ⟨bx, 0, none⟩) from by simp [upd, e0, e1, e7])]; simp [go_sem]) fun Fq2 => ?_
        refine lyp Fq2 rfl HCC rfl (by omega) (wanted_none rfl) (v := Value.int .i64 a) (fun wr hwr => by simp only [execOp, (Fq2.eval 37 (by omega)).trans (show _ = Value.pointer (some ⟨bx, 1, none⟩) from by simp [upd, e0, e1, e7])]; simp [go_sem, hwr.1]) fun Fq3 => ?_
        refine lcp Fq3 rfl HCC rfl (by omega) (wanted_none rfl) (g := 14) (args := #[Value.pointer (some ⟨aw, 0, none⟩), Value.int .i64 a]) (by simp only [execOp, resolve, invoke, List.map_toArray, List.map_cons, List.map_nil, (Fq3.eval 36 (by omega)).trans (show _ = Value.pointer (some ⟨aw, 0, none⟩) from by simp [upd, e0, e1, e7]), (Fq3.eval 38 (by omega)).trans (show _ = Value.int .i64 a from by simp [upd, e0, e1, e7])]; simp [go_sem, Act.eval]) HCA.out ?_
        rintro e w2 ⟨rfl, hw2⟩
        subst hw2
        refine ⟨_, rfl, fun Fq4 => ?_⟩
        have HP2 : Hid (PS L kb KP ⟨ab, aw, am, au⟩ rbase rb W s s va v σ0 ({ X with drawn := X.drawn + 1 } : World)) := HXD
        have hB2 : Blk ({ X with drawn := X.drawn + 1 } : World) bx #[.int .i64 2, .int .i64 a, .int .i64 b, .int .i64 c] 40 := hBd
        have HC2 : (fun wz => wz.cell? ⟨bx, 1, none⟩ = some (.int .i64 a) ∧ wz.cell? ⟨bx, 2, none⟩ = some (.int .i64 b) ∧ wz.cell? ⟨bx, 3, none⟩ = some (.int .i64 c)) ({ X with drawn := X.drawn + 1 } : World) := ⟨hB2.cell 1, hB2.cell 2, hB2.cell 3⟩
        have HRA : Hid _ := rcancel_any a ({ X with drawn := X.drawn + 1 } : World) HP2.out.hr (by omega)
        refine lyp Fq4 rfl HC2 rfl (by omega) (wanted_none rfl) (v := Value.pointer (some ⟨rb, 0, none⟩)) (fun wr hwr => by simp only [execOp, (Fq4.eval 1 (by omega)).trans (show _ = Value.pointer (some ⟨rb, 0, none⟩) from by simp [upd, e0, e1, e7])]; first | rfl | simp [go_sem]) fun Fq5 => ?_
        refine lyp Fq5 rfl HC2 rfl (by omega) (wanted_none rfl) (v := Value.pointer (some ⟨bx, 1, none⟩)) (fun wr hwr => by simp only [execOp, (Fq5.eval 7 (by omega)).trans (show _ = Value.pointer (some ⟨bx, 0, none⟩) from by simp [upd, e0, e1, e7])]; simp [go_sem]) fun Fq6 => ?_
        refine lyp Fq6 rfl HC2 rfl (by omega) (wanted_none rfl) (v := Value.int .i64 a) (fun wr hwr => by simp only [execOp, (Fq6.eval 41 (by omega)).trans (show _ = Value.pointer (some ⟨bx, 1, none⟩) from by simp [upd, e0, e1, e7])]; simp [go_sem, hwr.1]) fun Fq7 => ?_
        refine lcp Fq7 rfl HC2 rfl (by omega) (wanted_none rfl) (g := 39) (args := #[Value.pointer (some ⟨rb, 0, none⟩), Value.int .i64 a]) (by simp only [execOp, resolve, invoke, List.map_toArray, List.map_cons, List.map_nil, (Fq7.eval 40 (by omega)).trans (show _ = Value.pointer (some ⟨rb, 0, none⟩) from by simp [upd, e0, e1, e7]), (Fq7.eval 42 (by omega)).trans (show _ = Value.int .i64 a from by simp [upd, e0, e1, e7])]; simp [go_sem, Act.eval]) HRA.out ?_
        rintro e w3 ⟨rfl, v3, hR3, hs3⟩
        refine ⟨_, rfl, fun Fq8 => ?_⟩
        have HP3 : Hid (PS L kb KP ⟨ab, aw, am, au⟩ rbase rb W (nx 2 a b c s) (nx 2 a b c s) va v3 σ0 w3) := show PS _ _ _ _ _ _ _ _ _ _ _ _ _ from by
          have hq := HP2.out.setR hR3 hs3
          have e1 : nx 2 a b c s = (⟨s.now, s.last, gone a s.A⟩ : WV) := rfl
          rw [e1]
          have e2 : (⟨s.now, s.last, gone a s.A⟩ : WV) = s := by rw [hgn]
          rw [e2] at hq ⊢
          exact hq
        have hB3 : Blk w3 bx #[.int .i64 2, .int .i64 a, .int .i64 b, .int .i64 c] 40 := hs3.1.blk hB2 (fun hk => HNR.out bx rfl hk)
        have HC3 : (fun wz => wz.cell? ⟨bx, 1, none⟩ = some (.int .i64 a) ∧ wz.cell? ⟨bx, 2, none⟩ = some (.int .i64 b) ∧ wz.cell? ⟨bx, 3, none⟩ = some (.int .i64 c)) w3 := ⟨hB3.cell 1, hB3.cell 2, hB3.cell 3⟩
        refine lyp Fq8 rfl HC3 rfl (by omega) (wanted_none rfl) (v := Value.bool true) (fun wr hwr => by simp only [execOp, (Fq8.eval 39 (by omega)).trans (show _ = Value.bool false from by simp [upd, e0, e1, e7]), (Fq8.eval 43 (by omega)).trans (show _ = Value.bool (has a s) from by simp [upd, e0, e1, e7])]; simp [go_sem, hh]) fun Fq9 => ?_
        refine lyp Fq9 rfl HC3 rfl (by omega) (wanted_none rfl) (v := Value.bool true) (fun wr hwr => by simp only [execOp, (Fq9.eval 44 (by omega)).trans (show _ = Value.bool true from by simp [upd, e0, e1, e7])]; first | rfl | simp [go_sem]) fun Fq10 => ?_
        refine ⟨fun _ => HC3, ?_⟩
        refine hK _ _ ?_
        clear F0 Fq1 Fq2 Fq3 Fq4 Fq5 Fq6 Fq7 Fq8 Fq9 Fq10 e0 e1 e7 HCC HC2 HC3 HCA HRA
        simp only [Act.put, List.setIfInBounds_toArray, List.set_cons_succ, List.set_cons_zero]
        clear hBd hB2 hB3 hR3 hs3 HXD HP2 hno hgn hh
        go_wp2_with fail
        go_ret
        exact ⟨rfl, _, _, _, HP3.out, by omega⟩
    · have k2b : (k == 2) = false := by simpa using k2
      by_cases k3 : k = 3
      · subst k3
        clear k1 k1b k2 k2b
        have HT : Hid _ := tick_any (base := ab) (whb := aw) (mp := am) (u := au) X HX.out.hw.wl HX.out.hw.wb (by omega)
        go_wp2_with fail
        refine Calls.mono HT.out ?_
        rintro e w1 ⟨v1, rfl, hr1, vs1, hW1, hc1, ho1⟩
        obtain ⟨lo, lc, hv1, _⟩ := own_slice hr1
        obtain ⟨ln, hln⟩ : ∃ ln, ln = (comes (s.now + 1) s.A).length := ⟨_, rfl⟩
        replace hv1 : v1 = .slice lo (comes (s.now + 1) s.A).length lc := hv1
        rw [← hln] at hv1
        have hlnb : ln ≤ 1000 := by have := comes_len (s.now + 1) s.A; omega
        have HP1 : Hid (PS L kb KP ⟨ab, aw, am, au⟩ rbase rb W (nx 3 a b c s) s vs1 v σ0 w1) := HX.out.setW ⟨hW1, HX.out.hw.wb.tick (by omega)⟩ ⟨hc1, fun j hj => Or.inl (ho1 j hj)⟩
        have HR1 : Hid (w1.ownsRow X.heap.size 50 4 v1 (comes (s.now + 1) s.A).length (flatT (comes (s.now + 1) s.A))) := hr1
        have HO1 : Hid (∀ j, wown aw am vs1 j → j < X.heap.size) := fun j hj => (HD.lt HX.out.hw (ho1 j hj)).2
        have HOR : Hid (∀ j, rown rb v j → j < X.heap.size) := fun j hj => (HX.out.hr.lt hj).2
        have HRT : Hid _ := rtick_any w1 HP1.out.hr (by omega) ⟨hn0, by omega⟩
        have HBL : Hid (∀ j, KP.bl σ0 j → j < X.heap.size) := fun j hj => (KP.lt HX.out.hk hj).2
        have HLX : Hid (L ≤ X.heap.size) := HX.out.lo
        have HLN : Hid (ln = (comes (s.now + 1) s.A).length) := hln
        subst hv1
        clear hr1 hW1 hc1 ho1 HT HX HBX hln
        go_wp2_with fail
        refine Calls.mono HRT.out ?_
        rintro e w2 ⟨v2, rfl, hr2, v2', hR2, hs2, hd2⟩
        have HP2 : Hid (PS L kb KP ⟨ab, aw, am, au⟩ rbase rb W (nx 3 a b c s) (nx 3 a b c s) vs1 v2' σ0 w2) := HP1.out.setR hR2 hs2
        have hr12 : w2.ownsRow X.heap.size 50 4 (.slice lo ln lc) (comes (s.now + 1) s.A).length (flatT (comes (s.now + 1) s.A)) := ownsRow_same HR1.out (fun g e => hs2.1.block g (ownsRow_lt HR1.out e).2 (fun hk => by
          have h1 := HOR.out g hk
          have h2 := (ownsRow_lt HR1.out e).1
          omega))
        have HR2 : Hid _ := hr12
        have HSM : Hid _ := same_yes w2 hr12 hr2 (by have := comes_len (s.now + 1) s.A; omega)
        have HOR2 : Hid (∀ j, (Value.slice lo ln lc).ownBlock = some j → ¬ rown rb v2' j) := fun j hj hk => by
          have h1 := (ownsRow_lt HR1.out hj)
          rcases hs2.2 j hk with h2 | h2
          · have := HOR.out j h2; omega
          · omega
        clear hr2 hr12 hR2 hs2 hd2 HRT HP1 HR1
        go_wp2_with fail
        refine Calls.mono HSM.out ?_
        rintro e w3 ⟨rfl, hb3⟩
        have HP3 : Hid _ := HP2.out.more hb3
        have hr3 : w3.ownsRow L 50 4 (.slice lo ln lc) (comes (s.now + 1) s.A).length (flatT (comes (s.now + 1) s.A)) := ownsRow_mono (ownsRow_same HR2.out (fun g e => hb3.block g (ownsRow_lt HR2.out e).2)) HLX.out
        have HPU : Hid _ := KP.put HP3.out.hk hr3 (fun g e hk => by
          have h1 := HBL.out g hk
          have h2 := (ownsRow_lt HR2.out e).1
          omega) (by have := HLN.out; omega) (by omega)
        clear hb3 hr3 HSM HP2
        go_wp2_with fail
        refine Calls.mono HPU.out ?_
        rintro e w4 ⟨rfl, σ4, hI4, hct4, hc4, hb4⟩
        have HP4 : Hid (PS L kb KP ⟨ab, aw, am, au⟩ rbase rb W (nx 3 a b c s) (nx 3 a b c s) vs1 v2' σ4 w4) := HP3.out.setK (fun j hj => ⟨Nat.le_trans HLX.out (ownsRow_lt HR2.out hj).1, fun hk => by
          have h1 := HO1.out j hk
          have h2 := (ownsRow_lt HR2.out hj).1
          omega, HOR2.out j hj⟩) hI4 hc4 hb4
        clear hI4 hc4 hb4 HPU HP3 HR2
        go_wp2_with fail
        go_ret
        exact ⟨rfl, _, _, _, HP4.out, hct4⟩
      · have k3b : (k == 3) = false := by simpa using k3
        have hnx : nx k a b c s = s := by simp [nx, k1, k2, k3]
        have HNX : Hid (nx k a b c s = s) := hnx
        clear hnx
        by_cases k4 : k = 4
        · subst k4
          clear k1 k1b k2 k2b k3 k3b
          have HT : Hid _ := list_any (base := ab) (whb := aw) (mp := am) (u := au) X HX.out.hw.wl HX.out.hw.wb.hu (by omega)
          have HUA : Hid (Up s.A) := HX.out.hw.wb.up
          go_wp2_with fail
          refine Calls.mono HT.out ?_
          rintro e w1 ⟨v1, S1, rfl, hS1, hr1, hb1⟩
          obtain ⟨lo, lc, hv1, _⟩ := own_slice hr1
          have hS1l : S1.length = s.A.length := hS1.1.length_eq
          obtain ⟨ln, hln⟩ : ∃ ln, ln = S1.length := ⟨_, rfl⟩
          rw [← hln] at hv1 hS1l
          have hS1b : ln ≤ 1000 := by omega
          clear hS1l
          have HP1 : Hid (PS L kb KP ⟨ab, aw, am, au⟩ rbase rb W s s va v σ0 w1) := HX.out.more hb1
          have HR1 : Hid (w1.ownsRow X.heap.size 50 4 v1 S1.length (flatT S1)) := hr1
          have HS1 : Hid (Srtd S1 s.A) := hS1
          have HO1 : Hid (∀ j, wown aw am va j → j < X.heap.size) := fun j hj => (HD.lt HX.out.hw hj).2
          have HOR : Hid (∀ j, rown rb v j → j < X.heap.size) := fun j hj => (HX.out.hr.lt hj).2
          have HBL : Hid (∀ j, KP.bl σ0 j → j < X.heap.size) := fun j hj => (KP.lt HX.out.hk hj).2
          have HLX : Hid (L ≤ X.heap.size) := HX.out.lo
          have HLN : Hid (ln = S1.length) := hln
          have HRT : Hid _ := rlist_any w1 HP1.out.hr (by omega) HUA.out
          subst hv1
          clear hr1 hS1 hb1 HT HX HBX hln
          go_wp2_with fail
          refine Calls.mono HRT.out ?_
          rintro e w2 ⟨v2, S2, rfl, hS2, hr2, hb2⟩
          obtain rfl : S2 = S1 := srtd_one HUA.out hS2 HS1.out
          have HP2 : Hid (PS L kb KP ⟨ab, aw, am, au⟩ rbase rb W s s va v σ0 w2) := HP1.out.more hb2
          have hr12 : w2.ownsRow X.heap.size 50 4 (.slice lo ln lc) S2.length (flatT S2) := ownsRow_same HR1.out (fun g e => hb2.block g (ownsRow_lt HR1.out e).2)
          have HR2 : Hid _ := hr12
          have HSM : Hid _ := same_yes w2 hr12 hr2 (by have := HLN.out; omega)
          clear hr2 hr12 hS2 hb2 HRT HP1 HR1
          go_wp2_with fail
          refine Calls.mono HSM.out ?_
          rintro e w3 ⟨rfl, hb3⟩
          have HP3 : Hid _ := HP2.out.more hb3
          have hr3 : w3.ownsRow L 50 4 (.slice lo ln lc) S2.length (flatT S2) := ownsRow_mono (ownsRow_same HR2.out (fun g e => hb3.block g (ownsRow_lt HR2.out e).2)) HLX.out
          have HPU : Hid _ := KP.put HP3.out.hk hr3 (fun g e hk => by
            have h1 := HBL.out g hk
            have h2 := (ownsRow_lt HR2.out e).1
            omega) (by have := HLN.out; omega) (by omega)
          clear hb3 hr3 HSM HP2
          go_wp2_with fail
          refine Calls.mono HPU.out ?_
          rintro e w4 ⟨rfl, σ4, hI4, hct4, hc4, hb4⟩
          have HP4 : Hid (PS L kb KP ⟨ab, aw, am, au⟩ rbase rb W s s va v σ4 w4) := HP3.out.setK (fun j hj => ⟨Nat.le_trans HLX.out (ownsRow_lt HR2.out hj).1, fun hk => by
            have h1 := HO1.out j hk
            have h2 := (ownsRow_lt HR2.out hj).1
            omega, fun hk => by
            have h1 := HOR.out j hk
            have h2 := (ownsRow_lt HR2.out hj).1
            omega⟩) hI4 hc4 hb4
          clear hI4 hc4 hb4 HPU HP3 HR2
          go_wp2_with fail
          go_ret
          exact ⟨rfl, _, _, _, by rw [HNX.out]; exact HP4.out, hct4⟩
        · have k4b : (k == 4) = false := by simpa using k4
          by_cases k5 : k = 5
          · subst k5
            go_wp2_with fail
            rename_i K hK
            try rw [show ∀ a : Act, a.put none undef = a from fun _ => rfl]
            refine wp_region_mix (fun wz => wz.cell? ⟨rb, 0, none⟩ = some (.int .i64 s.now)) (fun i => i == 1 || i == 99) 99 (by kernel_rfl) rfl (by kernel_rfl) (by kernel_rfl) (by kernel_rfl) ?_
            refine withFrP (N := 78) rfl ?_
            intro f0 F0 hff
            have e0 : f0 0 = Value.pointer (some ⟨aw, 0, none⟩) := hff 0
            have e1 : f0 1 = Value.pointer (some ⟨rb, 0, none⟩) := hff 1
            clear hff
            have HXD : Hid (PS L kb KP ⟨ab, aw, am, au⟩ rbase rb W s s va v σ0 ({ X with drawn := X.drawn + 1 } : World)) := HX.out.more (Below.drew (Below.refl _ _))
            have HCC : (fun wz => wz.cell? ⟨rb, 0, none⟩ = some (.int .i64 s.now)) (({ X with drawn := X.drawn + 1 } : World)) := HXD.out.hr.b.cell 0
            have HNO : Hid _ := now_any (base := ab) (whb := aw) (mp := am) (u := au) ({ X with drawn := X.drawn + 1 } : World) HXD.out.hw.wl
            refine lyp F0 rfl HCC rfl (by omega) (wanted_none rfl) (v := Value.pointer (some ⟨aw, 0, none⟩)) (fun wr hwr => by simp only [execOp, (F0.eval 0 (by omega)).trans (show _ = Value.pointer (some ⟨aw, 0, none⟩) from by simp [upd, e0, e1])]; first | rfl | simp [go_sem]) fun Fr1 => ?_
            refine lcp Fr1 rfl HCC rfl (by omega) (wanted_none rfl) (g := 13) (args := #[Value.pointer (some ⟨aw, 0, none⟩)]) (by simp only [execOp, resolve, invoke, List.map_toArray, List.map_cons, List.map_nil, (Fr1.eval 71 (by omega)).trans (show _ = Value.pointer (some ⟨aw, 0, none⟩) from by simp [upd, e0, e1])]; simp [go_sem, Act.eval]) HNO.out ?_
            rintro e w2 ⟨rfl, hw2⟩
            subst hw2
            refine ⟨_, rfl, fun Fr2 => ?_⟩
            refine lyp Fr2 rfl HCC rfl (by omega) (wanted_none rfl) (v := Value.pointer (some ⟨rb, 0, none⟩)) (fun wr hwr => by simp only [execOp, (Fr2.eval 1 (by omega)).trans (show _ = Value.pointer (some ⟨rb, 0, none⟩) from by simp [upd, e0, e1])]; first | rfl | simp [go_sem]) fun Fr3 => ?_
            refine lyp Fr3 rfl HCC rfl (by omega) (wanted_none rfl) (v := Value.pointer (some ⟨rb, 0, none⟩)) (fun wr hwr => by simp only [execOp, (Fr3.eval 73 (by omega)).trans (show _ = Value.pointer (some ⟨rb, 0, none⟩) from by simp [upd, e0, e1])]; simp [go_sem]) fun Fr4 => ?_
            refine lyp Fr4 rfl HCC rfl (by omega) (wanted_none rfl) (v := Value.pointer (some ⟨rb, 0, none⟩)) (fun wr hwr => by simp only [execOp, (Fr4.eval 74 (by omega)).trans (show _ = Value.pointer (some ⟨rb, 0, none⟩) from by simp [upd, e0, e1])]; simp [go_sem]) fun Fr5 => ?_
            refine lyp Fr5 rfl HCC rfl (by omega) (wanted_none rfl) (v := Value.int .i64 s.now) (fun wr hwr => by simp only [execOp, (Fr5.eval 75 (by omega)).trans (show _ = Value.pointer (some ⟨rb, 0, none⟩) from by simp [upd, e0, e1])]; simp [go_sem, (show wr.cell? ⟨rb, 0, none⟩ = some (.int .i64 s.now) from hwr)]) fun Fr6 => ?_
            refine lyp Fr6 rfl HCC rfl (by omega) (wanted_none rfl) (v := Value.bool true) (fun wr hwr => by simp only [execOp, (Fr6.eval 72 (by omega)).trans (show _ = Value.int .i64 s.now from by simp [upd, e0, e1]), (Fr6.eval 76 (by omega)).trans (show _ = Value.int .i64 s.now from by simp [upd, e0, e1])]; simp [go_sem]) fun Fr7 => ?_
            refine lyp Fr7 rfl HCC rfl (by omega) (wanted_none rfl) (v := Value.bool true) (fun wr hwr => by simp only [execOp, (Fr7.eval 77 (by omega)).trans (show _ = Value.bool true from by simp [upd, e0, e1])]; first | rfl | simp [go_sem]) fun Fr8 => ?_
            refine ⟨fun _ => HCC, ?_⟩
            refine hK _ _ ?_
            clear F0 Fr1 Fr2 Fr3 Fr4 Fr5 Fr6 Fr7 Fr8 e0 e1 HCC HNO
            simp only [Act.put, List.setIfInBounds_toArray, List.set_cons_succ, List.set_cons_zero]
            go_wp2_with fail
            go_ret
            exact ⟨rfl, _, _, _, by rw [HNX.out]; exact HXD.out, by omega⟩
          · have k5b : (k == 5) = false := by simpa using k5
            go_wp2_with fail
            go_ret
            exact ⟨rfl, _, _, _, by rw [HNX.out]; exact HX.out, by omega⟩
end Go.Proofs.Ytmnihombiabkgaa
