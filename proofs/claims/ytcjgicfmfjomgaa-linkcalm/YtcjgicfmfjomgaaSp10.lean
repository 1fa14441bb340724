import Derived.Test.YtcjgicfmfjomgaaSp2
namespace Go.Proofs.Ytcjgicfmfjomgaa
open Go.RowKit Go.PlainAid Go.MapKept
set_option linter.unusedVariables false
set_option linter.unusedSimpArgs false
set_option maxRecDepth 100000 in
set_option maxHeartbeats 3200000 in
theorem step_10 {L xb n t : Nat} {S : Ln} {col : Nat → Nat} {win : Nat → Nat} (kd who aa : Int) (v : Value) (s : List UInt8) (w : World) (hkb : -9223372036854775808 ≤ kd ∧ kd ≤ 9223372036854775807) (hwb_ : -9223372036854775808 ≤ who ∧ who ≤ 9223372036854775807) (hab : -9223372036854775808 ≤ aa ∧ aa ≤ 9223372036854775807) (h : LNM L xb S col w) (hI : LInv S win n t) (ht : t + 1 ≤ 400) (hsn : S.sent.length ≤ 400) (hv : ∀ wz, Below L w wz → By wz v s) (hsl : s.length ≤ 140737488351232) (ewho : wl who 2 = 1) (ekd : wl kd 4 = 0) :
    Calls Try.prog 22 #[.pointer (some ⟨xb, 0, none⟩), .agg #[.int .i64 kd, .int .i64 who, .int .i64 aa, v], .agg #[.int .i64 (win 0 : Int), .int .i64 (win 1 : Int)]] w fun e w' => e = .returned (.bool true) ∧ ∃ S' col', LNM L xb S' col' w' ∧ LInv S' win n (t + 1) ∧ S'.sent.length ≤ 400 ∧ Below L w w' ∧ (∀ k, k < w.heap.size → 8 ≤ col k → w'.heap[k]? = w.heap[k]?) ∧ ∀ k, k < w.heap.size → col' k = col k := by
  obtain ⟨vo, vn, vc, hvv, hvn, _⟩ := id (hv w (Below.refl _ _))
  subst hvv
  obtain ⟨X, hX⟩ : ∃ X, X = (w.alloc (.cells #[.int .i64 kd, .int .i64 who, .int .i64 aa, .slice vo vn vc] 54)).alloc (.cells #[.int .i64 (win 0 : Int), .int .i64 (win 1 : Int)] 51) := ⟨_, rfl⟩
  obtain ⟨mb, hmb⟩ : ∃ mb, mb = w.heap.size := ⟨_, rfl⟩
  obtain ⟨wb, hwb⟩ : ∃ wb, wb = w.heap.size + 1 := ⟨_, rfl⟩
  have hb1 : Below w.heap.size w (w.alloc (.cells #[.int .i64 kd, .int .i64 who, .int .i64 aa, .slice vo vn vc] 54)) := (Below.refl _ _).alloc (Nat.le_refl _) _
  have hbX : Below w.heap.size w X := by rw [hX]; exact hb1.alloc hb1.size _
  have hBm : Blk X mb #[.int .i64 kd, .int .i64 who, .int .i64 aa, .slice vo vn vc] 54 := by
    rw [hX, hmb]
    exact (Below.heap_alloc _ _ _ (by simp)).trans (heap_alloc_new w _)
  have hBw : Blk X wb #[.int .i64 (win 0 : Int), .int .i64 (win 1 : Int)] 51 := by
    have := heap_alloc_new (w.alloc (.cells #[.int .i64 kd, .int .i64 who, .int .i64 aa, .slice vo vn vc] 54)) (.cells #[.int .i64 (win 0 : Int), .int .i64 (win 1 : Int)] 51)
    rw [World.size_alloc] at this
    rw [hX, hwb]
    exact this
  have HWW : Hid (Calls Try.prog 15 #[.int .i64 who, .int .i64 0, .int .i64 1] X fun e w' => e = .returned (.int .i64 1) ∧ w' = X) := by
    have h0 := within_wl who 2 X hwb_ (by omega) (by omega)
    rw [ewho] at h0
    exact h0
  have HWK : Hid (Calls Try.prog 15 #[.int .i64 kd, .int .i64 0, .int .i64 3] X fun e w' => e = .returned (.int .i64 0) ∧ w' = X) := by
    have h0 := within_wl kd 4 X hkb (by omega) (by omega)
    rw [ekd] at h0
    exact h0
  obtain ⟨col1, hcol1⟩ : ∃ col1 : Nat → Nat, col1 = fun k => if k < w.heap.size then col k else 9 := ⟨_, rfl⟩
  have hLX := (h.recol (col' := col1) (fun k hk => by rw [hcol1]; exact if_pos hk)).more hbX
  have HCW : Hid (col1 wb = 9 ∧ col1 mb = 9) := show _ ∧ _ from by rw [hcol1, hwb, hmb]; exact ⟨if_neg (by omega), if_neg (by omega)⟩
  have HC1 : Hid (∀ k, k < w.heap.size → col1 k = col k) := fun k hk => by rw [hcol1]; exact if_pos hk
  clear hcol1
  have HH : Hid (LNM L xb S col w) := h
  have HLX : Hid (LNM L xb S col1 X) := hLX
  have HI : Hid (LInv S win n t) := hI
  have HbX : Hid (Below w.heap.size w X) := hbX
  have HBm : Hid (Blk X mb #[.int .i64 kd, .int .i64 who, .int .i64 aa, .slice vo vn vc] 54) := hBm
  have HBw : Hid (Blk X wb #[.int .i64 (win 0 : Int), .int .i64 (win 1 : Int)] 51) := hBw
  have HMB : Hid (mb = w.heap.size) := hmb
  have HWB : Hid (wb = w.heap.size + 1) := hwb
  have HSN : Hid (S.sent.length ≤ 400) := hsn
  have HBY : Hid (By X (.slice vo vn vc) s) := hv X (hbX.mono h.hL)
  have HVA : Hid (∀ wz, Below L w wz → By wz (.slice vo vn vc) s) := hv
  have HVN : Hid (s.length = vn) := hvn
  have hvnl : vn ≤ 140737488351232 := by omega
  have m0 : X.cell? ⟨mb, 0, none⟩ = some (.int .i64 kd) := hBm.cell 0
  have m1 : X.cell? ⟨mb, 1, none⟩ = some (.int .i64 who) := hBm.cell 1
  have c0 : X.cell? ⟨xb, 1, none⟩ = some (.pointer (some ⟨(S.e 1).lb, 0, none⟩)) := hLX.b.cell 1
  clear h hI hb1 hbX hBm hBw hLX hv hvn hsl hkb hwb_ ewho ekd hsn
  have HNM : Hid _ := HI.out.nums (i := 1) (by omega)
  have HRM : Hid _ := room_any X (HLX.out.em 1 (by omega)).lm HNM.out.2.2.2.2.2.1 (by have := HNM.out.2.2.2.1; omega) (by have := HNM.out.2.2.1; omega)
  have p0 : X.cell? ⟨mb, 3, none⟩ = some (.slice vo vn vc) := HBm.out.cell 3
  go_enter Try.func22, Try.ntmps22
  go_upto_region 1 with fail
  rw [← hX, ← hwb, ← hmb]
  clear hX hmb hwb
  go_wp2_with fail
  refine Calls.mono HWW.out ?_
  rintro e w' ⟨rfl, hw'⟩
  replace hw' := hw'.symm
  subst hw'
  go_wp2_with fail
  refine Calls.mono HWK.out ?_
  rintro e w' ⟨rfl, hw'⟩
  replace hw' := hw'.symm
  subst hw'
  clear HWW HWK m0 m1
  go_wp2_with fail
  refine Calls.mono HRM.out ?_
  rintro e w1 ⟨rfl, q, rfl⟩
  obtain ⟨rm, hrm⟩ : ∃ rm, rm = ((S.e 1).x.win : Int) - ((S.e 1).x.box.length : Int) - ((S.e 1).x.under.length : Int) := ⟨_, rfl⟩
  rw [← hrm]
  have HRV : Hid (rm = ((S.e 1).x.win : Int) - ((S.e 1).x.box.length : Int) - ((S.e 1).x.under.length : Int)) := hrm
  have HLD : Hid _ := lendB_any (X.drewN q) (HBY.out.keep (below_drewN (Below.refl _ _) q)) (by rw [HVN.out]; exact hvnl)
  clear hrm HRM
  go_wp2_with fail
  refine Calls.mono HLD.out ?_
  rintro e w2 ⟨v2, rfl, hr2, hb2⟩
  obtain ⟨c2, g2, hv2, hc2, hc2m, hg2, hg2l, hro2⟩ := lent_row hr2
  rw [HVN.out] at hv2 hc2
  subst hv2
  replace hb2 : Below X.heap.size X w2 := ⟨hb2.os, hb2.tape, hb2.output, hb2.size, hb2.block⟩
  replace hg2 : X.heap.size ≤ g2 := hg2
  have hL2 := HLX.out.more hb2
  have HL2 : Hid (LNM L xb S col1 w2) := hL2
  have HBm2 : Hid (Blk w2 mb #[.int .i64 kd, .int .i64 who, .int .i64 aa, .slice vo vn vc] 54) := Blk.below HBm.out hb2 HBm.out.lt
  have HBw2 : Hid (Blk w2 wb #[.int .i64 (win 0 : Int), .int .i64 (win 1 : Int)] 51) := Blk.below HBw.out hb2 HBw.out.lt
  have HB2 : Hid (Below L w w2) := show Below _ _ _ from (HbX.out.mono HH.out.hL).trans (hb2.mono HLX.out.hL)
  have HB2W : Hid (Below w.heap.size w w2) := show Below _ _ _ from HbX.out.trans (hb2.mono HbX.out.size)
  obtain ⟨li, hli⟩ : ∃ li, li = (S.e 1).lb := ⟨_, rfl⟩
  have HLI : Hid (li = (S.e 1).lb) := hli
  have HCF : Hid (w2.cell? ⟨xb, 1, none⟩ = some (.pointer (some ⟨li, 0, none⟩)) ∧ w2.cell? ⟨mb, 3, none⟩ = some (Value.slice vo vn vc)) := ⟨by rw [hli]; exact hL2.b.cell 1, HBm2.out.cell 3⟩
  have HC3F : Hid (∀ w3, Chg (lown (S.e 1).lb (S.e 1).cb (S.e 1).mb (S.e 1).uv (S.e 1).x) w2.drew w3 → w3.cell? ⟨xb, 1, none⟩ = some (.pointer (some ⟨li, 0, none⟩)) ∧ w3.cell? ⟨mb, 3, none⟩ = some (Value.slice vo vn vc)) := fun w3 hc => ⟨by rw [HLI.out]; exact (hc.blk (show Blk w2.drew xb (lnbox S) 60 from HL2.out.b) (fun hk => (HL2.out.ne_xb (i := 1) (by omega) (.inl hk)) rfl)).cell 1, (hc.blk (show Blk w2.drew mb _ 54 from HBm2.out) (fun hk => by
      have h1 := (HL2.out.ec 1 (by omega)).ce mb hk
      have := HCW.out.2
      omega)).cell 3⟩
  have HS0 : Hid _ := sendB_any (s := s) (v := .slice (some ⟨g2, 0, none⟩) vn c2) w2.drew ((hL2.em 1 (by omega)).lm.more (Below.refl _ _).drew) (by have := HNM.out.2.1; omega) HNM.out.2.2.2.2.2.1 HNM.out.2.2.2.2.2.2.1 (show By w2.drew _ s from by have h1 := own_by hro2; rw [HVN.out] at h1; exact h1)
  clear hr2 hb2 hL2 hli hro2 HLD hg2 hg2l hc2m c0 p0
  have p2 : w2.cell? ⟨mb, 3, none⟩ = some (.slice vo vn vc) := HBm2.out.cell 3
  by_cases h4 : 4000 < vn
  · have h4' : (4000 : Int) < (vn : Int) := by omega
    have HSD : Hid (Calls Try.prog 18 #[.pointer (some ⟨li, 0, none⟩), .slice (some ⟨g2, 0, none⟩) vn c2] w2.drew fun e w' => e = .returned (.int .i64 2) ∧ ∃ x', x' = (S.e 1).x ∧ LM L (S.e 1).lb (S.e 1).cb (S.e 1).mb (S.e 1).uv x' w' ∧ LStp (S.e 1).lb (S.e 1).cb (S.e 1).mb (S.e 1).uv (S.e 1).uv (S.e 1).x x' w2.drew w') := by
      rw [HLI.out]
      refine Calls.mono HS0.out ?_
      rintro e w' ⟨rfl, x', hx, hM, hs⟩
      have hc : sendCode (S.e 1).x s = 2 := by
        unfold sendCode; rw [if_pos (by rw [HVN.out]; exact h4)]
      unfold SentTo at hx
      rw [hc, if_neg (by decide)] at hx
      exact ⟨by rw [hc], x', hx, hM, hs⟩
    clear HS0
    go_upto_region 6 with fail
    rename_i K hK
    try rw [show ∀ a : Act, a.put none undef = a from fun _ => rfl]
    refine wp_region_mix (fun wz => wz.cell? ⟨xb, 1, none⟩ = some (.pointer (some ⟨li, 0, none⟩)) ∧ wz.cell? ⟨mb, 3, none⟩ = some (Value.slice vo vn vc)) (fun i => i == 11 || i == 99) 99 (by kernel_rfl) rfl (by kernel_rfl) (by kernel_rfl) (by kernel_rfl) ?_
    refine withFrP (N := 155) rfl ?_
    intro f0 F0 hff
    have e0 : f0 0 = Value.pointer (some ⟨xb, 0, none⟩) := hff 0
    have e4 : f0 4 = Value.pointer (some ⟨mb, 0, none⟩) := hff 4
    have e7 : f0 7 = Value.int .i64 1 := hff 7
    have e9 : f0 9 = Value.slice (some ⟨g2, 0, none⟩) (vn + 3) c2 := hff 9
    clear hff
    have H0 : (fun wz => wz.cell? ⟨xb, 1, none⟩ = some (.pointer (some ⟨li, 0, none⟩)) ∧ wz.cell? ⟨mb, 3, none⟩ = some (Value.slice vo vn vc)) (({ w2 with drawn := w2.drawn + 1 } : World)) := HCF.out
    refine lyp F0 rfl H0 rfl (by omega) (wanted_none rfl) (v := Value.pointer (some ⟨xb, 0, none⟩)) (fun wr hwr => by simp only [execOp, (F0.eval 0 (by omega)).trans (show _ = Value.pointer (some ⟨xb, 0, none⟩) from by simp [upd, e0, e4, e7, e9])]; first | rfl | simp [go_sem]) fun Fp1 => ?_
    refine lyp Fp1 rfl H0 rfl (by omega) (wanted_none rfl) (v := Value.int .i64 1) (fun wr hwr => by simp only [execOp, (Fp1.eval 7 (by omega)).trans (show _ = Value.int .i64 1 from by simp [upd, e0, e4, e7, e9])]; first | rfl | simp [go_sem]) fun Fp2 => ?_
    refine lyp Fp2 rfl H0 rfl (by omega) (wanted_none rfl) (v := Value.pointer (some ⟨xb, 0, none⟩)) (fun wr hwr => by simp only [execOp, (Fp2.eval 31 (by omega)).trans (show _ = Value.pointer (some ⟨xb, 0, none⟩) from by simp [upd, e0, e4, e7, e9])]; simp [go_sem]) fun Fp3 => ?_
    refine lyp Fp3 rfl H0 rfl (by omega) (wanted_none rfl) (v := Value.pointer (some ⟨xb, 0, none⟩)) (fun wr hwr => by simp only [execOp, (Fp3.eval 33 (by omega)).trans (show _ = Value.pointer (some ⟨xb, 0, none⟩) from by simp [upd, e0, e4, e7, e9])]; simp [go_sem]) fun Fp4 => ?_
    refine lyp Fp4 rfl H0 rfl (by omega) (wanted_none rfl) (v := Value.pointer (some ⟨xb, 1, none⟩)) (fun wr hwr => by simp only [execOp, (Fp4.eval 34 (by omega)).trans (show _ = Value.pointer (some ⟨xb, 0, none⟩) from by simp [upd, e0, e4, e7, e9]), (Fp4.eval 32 (by omega)).trans (show _ = Value.int .i64 1 from by simp [upd, e0, e4, e7, e9])]; simp [go_sem, Act.eval]) fun Fp5 => ?_
    refine lyp Fp5 rfl H0 rfl (by omega) (wanted_none rfl) (v := Value.pointer (some ⟨li, 0, none⟩)) (fun wr hwr => by simp only [execOp, (Fp5.eval 35 (by omega)).trans (show _ = Value.pointer (some ⟨xb, 1, none⟩) from by simp [upd, e0, e4, e7, e9])]; simp [go_sem, hwr.1]) fun Fp6 => ?_
    refine lyp Fp6 rfl H0 rfl (by omega) (wanted_none rfl) (v := Value.slice (some ⟨g2, 0, none⟩) (vn + 3) c2) (fun wr hwr => by simp only [execOp, (Fp6.eval 9 (by omega)).trans (show _ = Value.slice (some ⟨g2, 0, none⟩) (vn + 3) c2 from by simp [upd, e0, e4, e7, e9])]; first | rfl | simp [go_sem]) fun Fp7 => ?_
    refine lyp Fp7 rfl H0 rfl (by omega) (wanted_none rfl) (v := Value.pointer (some ⟨mb, 3, none⟩)) (fun wr hwr => by simp only [execOp, (Fp7.eval 4 (by omega)).trans (show _ = Value.pointer (some ⟨mb, 0, none⟩) from by simp [upd, e0, e4, e7, e9])]; simp [go_sem]) fun Fp8 => ?_
    refine lyp Fp8 rfl H0 rfl (by omega) (wanted_none rfl) (v := Value.slice vo vn vc) (fun wr hwr => by simp only [execOp, (Fp8.eval 38 (by omega)).trans (show _ = Value.pointer (some ⟨mb, 3, none⟩) from by simp [upd, e0, e4, e7, e9])]; simp [go_sem, hwr.2]) fun Fp9 => ?_
    refine lyp Fp9 rfl H0 rfl (by omega) (wanted_none rfl) (v := Value.int .i64 (vn : Nat)) (fun wr hwr => by simp only [execOp, resolve, invoke, builtin, List.map_toArray, List.map_cons, List.map_nil, (Fp9.eval 39 (by omega)).trans (show _ = Value.slice vo vn vc from by simp [upd, e0, e4, e7, e9])]; simp [go_sem, Builtin.len_, Builtin.lenOf]) fun Fp10 => ?_
    refine lyp Fp10 rfl H0 rfl (by omega) (wanted_none rfl) (v := Value.slice (some ⟨g2, 0, none⟩) vn c2) (fun wr hwr => by simp only [execOp, Option.map, (Fp10.eval 37 (by omega)).trans (show _ = Value.slice (some ⟨g2, 0, none⟩) (vn + 3) c2 from by simp [upd, e0, e4, e7, e9]), (Fp10.eval 40 (by omega)).trans (show _ = Value.int .i64 (vn : Nat) from by simp [upd, e0, e4, e7, e9])]; simp only [Sem.run_bind, Sem.run_pure, Result.andThen_ok, slice_head 41 5 Try.underlying41 isz5b (some ⟨g2, 0, none⟩) (vn + 3) c2 vn (by omega)]; try rfl) fun Fp11 => ?_
    refine lcp Fp11 rfl H0 rfl (by omega) (wanted_none rfl) (g := 18) (args := #[Value.pointer (some ⟨li, 0, none⟩), Value.slice (some ⟨g2, 0, none⟩) vn c2]) (by simp only [execOp, resolve, invoke, List.map_toArray, List.map_cons, List.map_nil, (Fp11.eval 36 (by omega)).trans (show _ = Value.pointer (some ⟨li, 0, none⟩) from by simp [upd, e0, e4, e7, e9]), (Fp11.eval 41 (by omega)).trans (show _ = Value.slice (some ⟨g2, 0, none⟩) vn c2 from by simp [upd, e0, e4, e7, e9])]; simp [go_sem, Act.eval]) HSD.out ?_
    rintro e w3 ⟨rfl, x3, hx3, hM3, hs3⟩
    refine ⟨_, rfl, fun Fp12 => ?_⟩
    have HC3 : (fun wz => wz.cell? ⟨xb, 1, none⟩ = some (.pointer (some ⟨li, 0, none⟩)) ∧ wz.cell? ⟨mb, 3, none⟩ = some (Value.slice vo vn vc)) w3 := HC3F.out w3 hs3.1
    refine lyp Fp12 rfl HC3 rfl (by omega) (wanted_none rfl) (v := Value.int .i64 2) (fun wr hwr => by simp only [execOp, (Fp12.eval 42 (by omega)).trans (show _ = Value.int .i64 2 from by simp [upd, e0, e4, e7, e9])]; first | rfl | simp [go_sem]) fun Fp13 => ?_
    refine ⟨fun _ => HC3, ?_⟩
    refine hK _ _ ?_
    clear F0 Fp1 Fp2 Fp3 Fp4 Fp5 Fp6 Fp7 Fp8 Fp9 Fp10 Fp11 Fp12 Fp13 e0 e4 e7 e9 H0 HC3
    simp only [Act.put, List.setIfInBounds_toArray, List.set_cons_succ, List.set_cons_zero]
    replace hs3 := LStp.undrew hs3
    have hL3 := HL2.out.endStep (i := 1) (by omega) hM3 hs3
    obtain ⟨col3, hL3, hcol3⟩ := hL3
    have hnl : ∀ k, col1 k = 9 → ¬ lown (S.e 1).lb (S.e 1).cb (S.e 1).mb (S.e 1).uv (S.e 1).x k := fun k h9 hk => by
      have := (HL2.out.ec 1 (by omega)).ce k hk
      omega
    have hBm3 : Blk w3 mb #[.int .i64 kd, .int .i64 who, .int .i64 aa, .slice vo vn vc] 54 := hs3.1.blk HBm2.out (hnl mb HCW.out.2)
    have hBw3 : Blk w3 wb #[.int .i64 (win 0 : Int), .int .i64 (win 1 : Int)] 51 := hs3.1.blk HBw2.out (hnl wb HCW.out.1)
    have HBL : Hid (Below L w w3) := show Below _ _ _ from HB2.out.trans (hs3.1.below HL2.out.hL (fun k hk => ((HL2.out.em 1 (by omega)).lm.lt hk).1))
    have HKP : Hid (∀ k, k < w.heap.size → 8 ≤ col k → w3.heap[k]? = w.heap[k]?) := kp_of HB2W.out hs3.1 (fun k hk a => by have h1 := (HL2.out.ec 1 (by omega)).ce k a; rw [HC1.out k hk] at h1; omega)
    have HZ9 : Hid (∀ k, k < w.heap.size → col3 k = col k) := fun k hk => (hcol3 k (Nat.lt_of_lt_of_le hk HB2W.out.size)).trans (HC1.out k hk)
    have p3 : w3.cell? ⟨mb, 3, none⟩ = some (.slice vo vn vc) := hBm3.cell 3
    have d5 : w3.cell? ⟨wb, 1, none⟩ = some (.int .i64 (win 1 : Int)) := hBw3.cell 1
    subst hx3
    rw [endX_self] at hL3
    have HL3 : Hid (LNM L xb S col3 w3) := hL3
    have HI3 : Hid (LInv S win n (t + 1)) := HI.out.later (Nat.le_succ t)
    clear hM3 hs3 hL3 hcol3 hnl hBm3 hBw3 HSD
    go_wp2_with fail
    go_ret
    exact ⟨rfl, _, _, HL3.out, HI3.out, HSN.out, HBL.out, HKP.out, HZ9.out⟩
  · have h4' : ¬ (4000 : Int) < (vn : Int) := by omega
    by_cases hr0 : 0 < rm
    · have HROOM : Hid ((S.e 1).x.box.length + (S.e 1).x.under.length < (S.e 1).x.win) := show _ < _ from by have := HRV.out; omega
      have HSD : Hid (Calls Try.prog 18 #[.pointer (some ⟨li, 0, none⟩), .slice (some ⟨g2, 0, none⟩) vn c2] w2.drew fun e w' => e = .returned (.int .i64 0) ∧ ∃ x', (∃ d, x' = (S.e 1).x.push ⟨d, s⟩) ∧ LM L (S.e 1).lb (S.e 1).cb (S.e 1).mb (S.e 1).uv x' w' ∧ LStp (S.e 1).lb (S.e 1).cb (S.e 1).mb (S.e 1).uv (S.e 1).uv (S.e 1).x x' w2.drew w') := by
        rw [HLI.out]
        refine Calls.mono HS0.out ?_
        rintro e w' ⟨rfl, x', hx, hM, hs⟩
        have hc : sendCode (S.e 1).x s = 0 := by
          unfold sendCode
          have h1 := HNM.out.2.1
          have h2 := HNM.out.2.2.1
          have h3 := HNM.out.2.2.2.1
          rw [if_neg (by rw [HVN.out]; exact h4), if_pos (by unfold mayGo; simp only [decide_eq_true HROOM.out, Bool.true_and]; exact decide_eq_true (by omega))]
        unfold SentTo at hx
        rw [if_pos hc] at hx
        exact ⟨by rw [hc], x', hx, hM, hs⟩
      clear HS0
      go_upto_region 6 with fail
      rename_i K hK
      try rw [show ∀ a : Act, a.put none undef = a from fun _ => rfl]
      refine wp_region_mix (fun wz => wz.cell? ⟨xb, 1, none⟩ = some (.pointer (some ⟨li, 0, none⟩)) ∧ wz.cell? ⟨mb, 3, none⟩ = some (Value.slice vo vn vc)) (fun i => i == 11 || i == 99) 99 (by kernel_rfl) rfl (by kernel_rfl) (by kernel_rfl) (by kernel_rfl) ?_
      refine withFrP (N := 155) rfl ?_
      intro f0 F0 hff
      have e0 : f0 0 = Value.pointer (some ⟨xb, 0, none⟩) := hff 0
      have e4 : f0 4 = Value.pointer (some ⟨mb, 0, none⟩) := hff 4
      have e7 : f0 7 = Value.int .i64 1 := hff 7
      have e9 : f0 9 = Value.slice (some ⟨g2, 0, none⟩) (vn + 3) c2 := hff 9
      clear hff
      have H0 : (fun wz => wz.cell? ⟨xb, 1, none⟩ = some (.pointer (some ⟨li, 0, none⟩)) ∧ wz.cell? ⟨mb, 3, none⟩ = some (Value.slice vo vn vc)) (({ w2 with drawn := w2.drawn + 1 } : World)) := HCF.out
      refine lyp F0 rfl H0 rfl (by omega) (wanted_none rfl) (v := Value.pointer (some ⟨xb, 0, none⟩)) (fun wr hwr => by simp only [execOp, (F0.eval 0 (by omega)).trans (show _ = Value.pointer (some ⟨xb, 0, none⟩) from by simp [upd, e0, e4, e7, e9])]; first | rfl | simp [go_sem]) fun Fp1 => ?_
      refine lyp Fp1 rfl H0 rfl (by omega) (wanted_none rfl) (v := Value.int .i64 1) (fun wr hwr => by simp only [execOp, (Fp1.eval 7 (by omega)).trans (show _ = Value.int .i64 1 from by simp [upd, e0, e4, e7, e9])]; first | rfl | simp [go_sem]) fun Fp2 => ?_
      refine lyp Fp2 rfl H0 rfl (by omega) (wanted_none rfl) (v := Value.pointer (some ⟨xb, 0, none⟩)) (fun wr hwr => by simp only [execOp, (Fp2.eval 31 (by omega)).trans (show _ = Value.pointer (some ⟨xb, 0, none⟩) from by simp [upd, e0, e4, e7, e9])]; simp [go_sem]) fun Fp3 => ?_
      refine lyp Fp3 rfl H0 rfl (by omega) (wanted_none rfl) (v := Value.pointer (some ⟨xb, 0, none⟩)) (fun wr hwr => by simp only [execOp, (Fp3.eval 33 (by omega)).trans (show _ = Value.pointer (some ⟨xb, 0, none⟩) from by simp [upd, e0, e4, e7, e9])]; simp [go_sem]) fun Fp4 => ?_
      refine lyp Fp4 rfl H0 rfl (by omega) (wanted_none rfl) (v := Value.pointer (some ⟨xb, 1, none⟩)) (fun wr hwr => by simp only [execOp, (Fp4.eval 34 (by omega)).trans (show _ = Value.pointer (some ⟨xb, 0, none⟩) from by simp [upd, e0, e4, e7, e9]), (Fp4.eval 32 (by omega)).trans (show _ = Value.int .i64 1 from by simp [upd, e0, e4, e7, e9])]; simp [go_sem, Act.eval]) fun Fp5 => ?_
      refine lyp Fp5 rfl H0 rfl (by omega) (wanted_none rfl) (v := Value.pointer (some ⟨li, 0, none⟩)) (fun wr hwr => by simp only [execOp, (Fp5.eval 35 (by omega)).trans (show _ = Value.pointer (some ⟨xb, 1, none⟩) from by simp [upd, e0, e4, e7, e9])]; simp [go_sem, hwr.1]) fun Fp6 => ?_
      refine lyp Fp6 rfl H0 rfl (by omega) (wanted_none rfl) (v := Value.slice (some ⟨g2, 0, none⟩) (vn + 3) c2) (fun wr hwr => by simp only [execOp, (Fp6.eval 9 (by omega)).trans (show _ = Value.slice (some ⟨g2, 0, none⟩) (vn + 3) c2 from by simp [upd, e0, e4, e7, e9])]; first | rfl | simp [go_sem]) fun Fp7 => ?_
      refine lyp Fp7 rfl H0 rfl (by omega) (wanted_none rfl) (v := Value.pointer (some ⟨mb, 3, none⟩)) (fun wr hwr => by simp only [execOp, (Fp7.eval 4 (by omega)).trans (show _ = Value.pointer (some ⟨mb, 0, none⟩) from by simp [upd, e0, e4, e7, e9])]; simp [go_sem]) fun Fp8 => ?_
      refine lyp Fp8 rfl H0 rfl (by omega) (wanted_none rfl) (v := Value.slice vo vn vc) (fun wr hwr => by simp only [execOp, (Fp8.eval 38 (by omega)).trans (show _ = Value.pointer (some ⟨mb, 3, none⟩) from by simp [upd, e0, e4, e7, e9])]; simp [go_sem, hwr.2]) fun Fp9 => ?_
      refine lyp Fp9 rfl H0 rfl (by omega) (wanted_none rfl) (v := Value.int .i64 (vn : Nat)) (fun wr hwr => by simp only [execOp, resolve, invoke, builtin, List.map_toArray, List.map_cons, List.map_nil, (Fp9.eval 39 (by omega)).trans (show _ = Value.slice vo vn vc from by simp [upd, e0, e4, e7, e9])]; simp [go_sem, Builtin.len_, Builtin.lenOf]) fun Fp10 => ?_
      refine lyp Fp10 rfl H0 rfl (by omega) (wanted_none rfl) (v := Value.slice (some ⟨g2, 0, none⟩) vn c2) (fun wr hwr => by simp only [execOp, Option.map, (Fp10.eval 37 (by omega)).trans (show _ = Value.slice (some ⟨g2, 0, none⟩) (vn + 3) c2 from by simp [upd, e0, e4, e7, e9]), (Fp10.eval 40 (by omega)).trans (show _ = Value.int .i64 (vn : Nat) from by simp [upd, e0, e4, e7, e9])]; simp only [Sem.run_bind, Sem.run_pure, Result.andThen_ok, slice_head 41 5 Try.underlying41 isz5b (some ⟨g2, 0, none⟩) (vn + 3) c2 vn (by omega)]; try rfl) fun Fp11 => ?_
      refine lcp Fp11 rfl H0 rfl (by omega) (wanted_none rfl) (g := 18) (args := #[Value.pointer (some ⟨li, 0, none⟩), Value.slice (some ⟨g2, 0, none⟩) vn c2]) (by simp only [execOp, resolve, invoke, List.map_toArray, List.map_cons, List.map_nil, (Fp11.eval 36 (by omega)).trans (show _ = Value.pointer (some ⟨li, 0, none⟩) from by simp [upd, e0, e4, e7, e9]), (Fp11.eval 41 (by omega)).trans (show _ = Value.slice (some ⟨g2, 0, none⟩) vn c2 from by simp [upd, e0, e4, e7, e9])]; simp [go_sem, Act.eval]) HSD.out ?_
      rintro e w3 ⟨rfl, x3, hx3, hM3, hs3⟩
      refine ⟨_, rfl, fun Fp12 => ?_⟩
      have HC3 : (fun wz => wz.cell? ⟨xb, 1, none⟩ = some (.pointer (some ⟨li, 0, none⟩)) ∧ wz.cell? ⟨mb, 3, none⟩ = some (Value.slice vo vn vc)) w3 := HC3F.out w3 hs3.1
      refine lyp Fp12 rfl HC3 rfl (by omega) (wanted_none rfl) (v := Value.int .i64 0) (fun wr hwr => by simp only [execOp, (Fp12.eval 42 (by omega)).trans (show _ = Value.int .i64 0 from by simp [upd, e0, e4, e7, e9])]; first | rfl | simp [go_sem]) fun Fp13 => ?_
      refine ⟨fun _ => HC3, ?_⟩
      refine hK _ _ ?_
      clear F0 Fp1 Fp2 Fp3 Fp4 Fp5 Fp6 Fp7 Fp8 Fp9 Fp10 Fp11 Fp12 Fp13 e0 e4 e7 e9 H0 HC3
      simp only [Act.put, List.setIfInBounds_toArray, List.set_cons_succ, List.set_cons_zero]
      replace hs3 := LStp.undrew hs3
      have hL3 := HL2.out.endStep (i := 1) (by omega) hM3 hs3
      obtain ⟨col3, hL3, hcol3⟩ := hL3
      have hnl : ∀ k, col1 k = 9 → ¬ lown (S.e 1).lb (S.e 1).cb (S.e 1).mb (S.e 1).uv (S.e 1).x k := fun k h9 hk => by
        have := (HL2.out.ec 1 (by omega)).ce k hk
        omega
      have hBm3 : Blk w3 mb #[.int .i64 kd, .int .i64 who, .int .i64 aa, .slice vo vn vc] 54 := hs3.1.blk HBm2.out (hnl mb HCW.out.2)
      have hBw3 : Blk w3 wb #[.int .i64 (win 0 : Int), .int .i64 (win 1 : Int)] 51 := hs3.1.blk HBw2.out (hnl wb HCW.out.1)
      have HBL : Hid (Below L w w3) := show Below _ _ _ from HB2.out.trans (hs3.1.below HL2.out.hL (fun k hk => ((HL2.out.em 1 (by omega)).lm.lt hk).1))
      have HKP : Hid (∀ k, k < w.heap.size → 8 ≤ col k → w3.heap[k]? = w.heap[k]?) := kp_of HB2W.out hs3.1 (fun k hk a => by have h1 := (HL2.out.ec 1 (by omega)).ce k a; rw [HC1.out k hk] at h1; omega)
      have HZ9 : Hid (∀ k, k < w.heap.size → col3 k = col k) := fun k hk => (hcol3 k (Nat.lt_of_lt_of_le hk HB2W.out.size)).trans (HC1.out k hk)
      have p3 : w3.cell? ⟨mb, 3, none⟩ = some (.slice vo vn vc) := hBm3.cell 3
      have d5 : w3.cell? ⟨wb, 1, none⟩ = some (.int .i64 (win 1 : Int)) := hBw3.cell 1
      obtain ⟨dv, hx3⟩ := hx3
      have HX3 : Hid (x3 = (S.e 1).x.push ⟨dv, s⟩) := hx3
      obtain ⟨S3, hS3⟩ : ∃ S3, S3 = S.endX 1 (S.e 1).uv x3 := ⟨_, rfl⟩
      have HS3 : Hid (S3 = S.endX 1 (S.e 1).uv x3) := hS3
      rw [← hS3] at hL3
      obtain ⟨io, ic, hiv, un0⟩ := own_slice (hL3.em 1 (by omega)).ir
      clear un0
      have e3i : (S3.e 1).inn = (S.e 1).inn := by rw [hS3, Ln.endX_same]
      obtain ⟨il, hil⟩ : ∃ il, il = (S.e 1).inn.length := ⟨_, rfl⟩
      rw [e3i, ← hil] at hiv
      have hil4 : il ≤ 400 := by have := (HI.out.ei 1 (by omega)).ts; omega
      have HE3 : Hid ((S3.e 1).iv = .slice io il ic ∧ (S3.e 1).inn.length = il ∧ (S3.e 1).inn = (S.e 1).inn) := ⟨hiv, by rw [e3i, hil], e3i⟩
      have HL3D : Hid (LNM L xb S3 col3 w3.drew) := hL3.more (Below.refl _ _).drew
      have q3 : w3.cell? ⟨xb, 3, none⟩ = some (.slice io il ic) := by rw [← hiv]; exact hL3.b.cell 3
      have HCI : Hid (w3.cell? ⟨xb, 3, none⟩ = some (Value.slice io il ic) ∧ w3.cell? ⟨mb, 3, none⟩ = some (Value.slice vo vn vc)) := ⟨q3, p3⟩
      have hxl := hL3.b.lt
      have hml := hBm3.lt
      have HCB : Hid (∀ wz, Below w3.heap.size w3 wz → wz.cell? ⟨xb, 3, none⟩ = some (Value.slice io il ic) ∧ wz.cell? ⟨mb, 3, none⟩ = some (Value.slice vo vn vc)) := fun wz hb => ⟨(hb.cell (p := ⟨xb, 3, none⟩) hxl).trans q3, (hb.cell (p := ⟨mb, 3, none⟩) hml).trans p3⟩
      have hc9m : col3 mb = 9 ∧ col3 wb = 9 := ⟨(hcol3 mb HBm2.out.lt).trans HCW.out.2, (hcol3 wb HBw2.out.lt).trans HCW.out.1⟩
      have HC9F : Hid (∀ w8 : World, (∀ k, k < w3.heap.size → 8 ≤ col3 k → w8.heap[k]? = w3.heap[k]?) → w8.cell? ⟨mb, 3, none⟩ = some (Value.slice vo vn vc)) := fun w8 hk => (World.cell?_of_block (w := w3) (a := ⟨mb, 3, none⟩) (hk mb hml (by rw [hc9m.1]; omega))).trans p3
      have hsb : s.length ≤ 140737488351232 := by rw [HVN.out]; omega
      have HLE : Hid (Calls Try.prog 19 #[.slice vo vn vc] w3.drew _) := lendB_any (s := s) w3.drew (show By w3.drew (.slice vo vn vc) s from HVA.out _ HBL.out.drew) hsb
      have HBW3 : Hid (Blk w3 wb #[.int .i64 (win 0 : Int), .int .i64 (win 1 : Int)] 51) := hBw3
      have HXN : Hid (col3 wb = 9 ∧ wb ≠ xb ∧ ¬ (S3.e 1).iv.ownBlock = some wb) := ⟨hc9m.2, (fun e => by have h1 := hL3.cx; rw [← e] at h1; have := hc9m.2; omega), fun e => by have h1 := (hL3.ec 1 (by omega)).ci wb e; have := hc9m.2; omega⟩
      clear hM3 hs3 hL3 hcol3 hnl hBm3 hBw3 HSD hx3 hS3 hiv e3i hil hxl hml hc9m hsb d5
      go_upto_region 12 with fail
      clear p3 q3
      try rw [show ∀ a : Act, a.put none undef = a from fun _ => rfl]
      refine wp_region_mix (fun wz => wz.cell? ⟨xb, 3, none⟩ = some (Value.slice io il ic) ∧ wz.cell? ⟨mb, 3, none⟩ = some (Value.slice vo vn vc)) (fun i => i == 10 || i == 15 || i == 16 || i == 20) 20 (by kernel_rfl) rfl (by kernel_rfl) (by kernel_rfl) (by kernel_rfl) ?_
      refine withFrP (N := 155) rfl ?_
      intro f0 F0 hff
      have e0 : f0 0 = Value.pointer (some ⟨xb, 0, none⟩) := hff 0
      have e4 : f0 4 = Value.pointer (some ⟨mb, 0, none⟩) := hff 4
      have e7 : f0 7 = Value.int .i64 1 := hff 7
      clear hff
      have H0 : (fun wz => wz.cell? ⟨xb, 3, none⟩ = some (Value.slice io il ic) ∧ wz.cell? ⟨mb, 3, none⟩ = some (Value.slice vo vn vc)) (({ w3 with drawn := w3.drawn + 1 } : World)) := HCI.out
      refine lyp F0 rfl H0 rfl (by omega) (wanted_none rfl) (v := Value.pointer (some ⟨xb, 0, none⟩)) (fun wr hwr => by simp only [execOp, (F0.eval 0 (by omega)).trans (show _ = Value.pointer (some ⟨xb, 0, none⟩) from by simp [upd, e0, e4, e7])]; first | rfl | simp [go_sem]) fun Fr1 => ?_
      refine lyp Fr1 rfl H0 rfl (by omega) (wanted_none rfl) (v := Value.int .i64 1) (fun wr hwr => by simp only [execOp, (Fr1.eval 7 (by omega)).trans (show _ = Value.int .i64 1 from by simp [upd, e0, e4, e7])]; first | rfl | simp [go_sem]) fun Fr2 => ?_
      refine lyp Fr2 rfl H0 rfl (by omega) (wanted_none rfl) (v := Value.pointer (some ⟨xb, 0, none⟩)) (fun wr hwr => by simp only [execOp, (Fr2.eval 0 (by omega)).trans (show _ = Value.pointer (some ⟨xb, 0, none⟩) from by simp [upd, e0, e4, e7])]; first | rfl | simp [go_sem]) fun Fr3 => ?_
      refine lyp Fr3 rfl H0 rfl (by omega) (wanted_none rfl) (v := Value.int .i64 1) (fun wr hwr => by simp only [execOp, (Fr3.eval 7 (by omega)).trans (show _ = Value.int .i64 1 from by simp [upd, e0, e4, e7])]; first | rfl | simp [go_sem]) fun Fr4 => ?_
      refine lyp Fr4 rfl H0 rfl (by omega) (wanted_none rfl) (v := Value.pointer (some ⟨xb, 0, none⟩)) (fun wr hwr => by simp only [execOp, (Fr4.eval 58 (by omega)).trans (show _ = Value.pointer (some ⟨xb, 0, none⟩) from by simp [upd, e0, e4, e7])]; simp [go_sem]) fun Fr5 => ?_
      refine lyp Fr5 rfl H0 rfl (by omega) (wanted_none rfl) (v := Value.pointer (some ⟨xb, 2, none⟩)) (fun wr hwr => by simp only [execOp, (Fr5.eval 60 (by omega)).trans (show _ = Value.pointer (some ⟨xb, 0, none⟩) from by simp [upd, e0, e4, e7])]; simp [go_sem]) fun Fr6 => ?_
      refine lyp Fr6 rfl H0 rfl (by omega) (wanted_none rfl) (v := Value.pointer (some ⟨xb, 3, none⟩)) (fun wr hwr => by simp only [execOp, (Fr6.eval 61 (by omega)).trans (show _ = Value.pointer (some ⟨xb, 2, none⟩) from by simp [upd, e0, e4, e7]), (Fr6.eval 59 (by omega)).trans (show _ = Value.int .i64 1 from by simp [upd, e0, e4, e7])]; simp [go_sem, Act.eval]) fun Fr7 => ?_
      refine lyp Fr7 rfl H0 rfl (by omega) (wanted_none rfl) (v := Value.slice io il ic) (fun wr hwr => by simp only [execOp, (Fr7.eval 62 (by omega)).trans (show _ = Value.pointer (some ⟨xb, 3, none⟩) from by simp [upd, e0, e4, e7])]; simp [go_sem, hwr.1]) fun Fr8 => ?_
      refine lyp Fr8 rfl H0 rfl (by omega) (wanted_none rfl) (v := Value.pointer (some ⟨mb, 3, none⟩)) (fun wr hwr => by simp only [execOp, (Fr8.eval 4 (by omega)).trans (show _ = Value.pointer (some ⟨mb, 0, none⟩) from by simp [upd, e0, e4, e7])]; simp [go_sem]) fun Fr9 => ?_
      refine lyp Fr9 rfl H0 rfl (by omega) (wanted_none rfl) (v := Value.slice vo vn vc) (fun wr hwr => by simp only [execOp, (Fr9.eval 64 (by omega)).trans (show _ = Value.pointer (some ⟨mb, 3, none⟩) from by simp [upd, e0, e4, e7])]; simp [go_sem, hwr.2]) fun Fr10 => ?_
      refine lcp Fr10 rfl H0 rfl (by omega) (wanted_none rfl) (g := 19) (args := #[Value.slice vo vn vc]) (by simp only [execOp, resolve, invoke, List.map_toArray, List.map_cons, List.map_nil, (Fr10.eval 65 (by omega)).trans (show _ = Value.slice vo vn vc from by simp [upd, e0, e4, e7])]; simp [go_sem, Act.eval]) HLE.out ?_
      rintro e w7 ⟨v7, rfl, hr7, hb7⟩
      obtain ⟨c7, g7, hv7, hc7, hc7m, hg7, hg7l, hro7⟩ := lent_row hr7
      rw [HVN.out] at hv7 hc7
      subst hv7
      refine ⟨_, rfl, fun Fr11 => ?_⟩
      have HC7 : (fun wz => wz.cell? ⟨xb, 3, none⟩ = some (Value.slice io il ic) ∧ wz.cell? ⟨mb, 3, none⟩ = some (Value.slice vo vn vc)) w7 := HCB.out w7 (Below.undrew hb7)
      refine lyp Fr11 rfl HC7 rfl (by omega) (wanted_none rfl) (v := Value.pointer (some ⟨mb, 3, none⟩)) (fun wr hwr => by simp only [execOp, (Fr11.eval 4 (by omega)).trans (show _ = Value.pointer (some ⟨mb, 0, none⟩) from by simp [upd, e0, e4, e7])]; simp [go_sem]) fun Fr12 => ?_
      refine lyp Fr12 rfl HC7 rfl (by omega) (wanted_none rfl) (v := Value.slice vo vn vc) (fun wr hwr => by simp only [execOp, (Fr12.eval 67 (by omega)).trans (show _ = Value.pointer (some ⟨mb, 3, none⟩) from by simp [upd, e0, e4, e7])]; simp [go_sem, hwr.2]) fun Fr13 => ?_
      refine lyp Fr13 rfl HC7 rfl (by omega) (wanted_none rfl) (v := Value.int .i64 (vn : Nat)) (fun wr hwr => by simp only [execOp, resolve, invoke, builtin, List.map_toArray, List.map_cons, List.map_nil, (Fr13.eval 68 (by omega)).trans (show _ = Value.slice vo vn vc from by simp [upd, e0, e4, e7])]; simp [go_sem, Builtin.len_, Builtin.lenOf]) fun Fr14 => ?_
      refine lyp Fr14 rfl HC7 rfl (by omega) (wanted_none rfl) (v := Value.slice (some ⟨g7, 0, none⟩) vn c7) (fun wr hwr => by simp only [execOp, Option.map, (Fr14.eval 66 (by omega)).trans (show _ = Value.slice (some ⟨g7, 0, none⟩) (vn + 3) c7 from by simp [upd, e0, e4, e7]), (Fr14.eval 69 (by omega)).trans (show _ = Value.int .i64 (vn : Nat) from by simp [upd, e0, e4, e7])]; simp only [Sem.run_bind, Sem.run_pure, Result.andThen_ok, slice_head 41 5 Try.underlying41 isz5b (some ⟨g7, 0, none⟩) (vn + 3) c7 vn (by omega)]; try rfl) fun Fr15 => ?_
      refine lep Fr15 rfl HC7 rfl (by omega) (wanted_none rfl) (v := Value.slice (some ⟨w7.heap.size, 0, none⟩) 1 1) (w1 := (w7.alloc (.cells #[Value.slice (some ⟨g7, 0, none⟩) vn c7] 41))) (by simp only [execOp, List.map_toArray, List.map_cons, List.map_nil, (Fr15.eval 70 (by omega)).trans (show _ = Value.slice (some ⟨g7, 0, none⟩) vn c7 from by simp [upd, e0, e4, e7])]; simp [go_sem]) fun Fr16 => ?_
      have HC8 : (fun wz => wz.cell? ⟨xb, 3, none⟩ = some (Value.slice io il ic) ∧ wz.cell? ⟨mb, 3, none⟩ = some (Value.slice vo vn vc)) (w7.alloc (.cells #[Value.slice (some ⟨g7, 0, none⟩) vn c7] 41)) := HCB.out _ (Below.undrew (hb7.alloc hb7.size _))
      obtain ⟨ao8, c8, w8, hr8, hx8, hf8, hk8, col8, hL8, hlow8, hch8⟩ := HL3D.out.addIn (i := 1) (by omega) hb7 (d := ⟨.slice (some ⟨g7, 0, none⟩) s.length c7, s⟩) hro7 (by rw [HE3.out.2.1]; omega)
      rw [HE3.out.2.1] at hr8 hL8 hch8
      rw [HE3.out.1] at hr8 hx8
      rw [HVN.out] at hr8
      replace hr8 : ∀ ty, (Builtin.append_ #[36, 36] ty #[Value.slice io il ic, .slice (some ⟨w7.heap.size, 0, none⟩) 1 1]).run Try.prog (w7.alloc (.cells #[Value.slice (some ⟨g7, 0, none⟩) vn c7] 41)) = .ok (.slice ao8 (il + 1) c8) w8 := hr8
      replace hx8 : w8.cell? ⟨xb, 3, none⟩ = some (Value.slice io il ic) := hx8
      replace hf8 : w8.frozen? ⟨xb, 3, none⟩ = false := hf8
      have HC9 : (fun wz => wz.cell? ⟨xb, 3, none⟩ = some (Value.slice io il ic) ∧ wz.cell? ⟨mb, 3, none⟩ = some (Value.slice vo vn vc)) w8 := ⟨hx8, HC9F.out w8 hk8⟩
      refine lep Fr16 rfl HC8 rfl (by omega) (wanted_none rfl) (v := Value.slice ao8 (il + 1) c8) (w1 := w8) (by simp only [execOp, resolve, invoke, builtin, List.map_toArray, List.map_cons, List.map_nil, (Fr16.eval 63 (by omega)).trans (show _ = Value.slice io il ic from by simp [upd, e0, e4, e7]), (Fr16.eval 71 (by omega)).trans (show _ = Value.slice (some ⟨w7.heap.size, 0, none⟩) 1 1 from by simp [upd, e0, e4, e7])]; simp only [Sem.run_bind, Sem.run_pure, Result.andThen_ok, hr8]; try rfl) fun Fr17 => ?_
      refine lyp Fr17 rfl HC9 rfl (by omega) (wanted_none rfl) (v := Value.pointer (some ⟨xb, 0, none⟩)) (fun wr hwr => by simp only [execOp, (Fr17.eval 56 (by omega)).trans (show _ = Value.pointer (some ⟨xb, 0, none⟩) from by simp [upd, e0, e4, e7])]; simp [go_sem]) fun Fr18 => ?_
      refine lyp Fr18 rfl HC9 rfl (by omega) (wanted_none rfl) (v := Value.pointer (some ⟨xb, 2, none⟩)) (fun wr hwr => by simp only [execOp, (Fr18.eval 73 (by omega)).trans (show _ = Value.pointer (some ⟨xb, 0, none⟩) from by simp [upd, e0, e4, e7])]; simp [go_sem]) fun Fr19 => ?_
      refine lyp Fr19 rfl HC9 rfl (by omega) (wanted_none rfl) (v := Value.pointer (some ⟨xb, 3, none⟩)) (fun wr hwr => by simp only [execOp, (Fr19.eval 74 (by omega)).trans (show _ = Value.pointer (some ⟨xb, 2, none⟩) from by simp [upd, e0, e4, e7]), (Fr19.eval 57 (by omega)).trans (show _ = Value.int .i64 1 from by simp [upd, e0, e4, e7])]; simp [go_sem, Act.eval]) fun Fr20 => ?_
      refine lst rfl HC9 rfl (wanted_none rfl) (w1 := w8.setCell ⟨xb, 3, none⟩ (.slice ao8 (il + 1) c8)) (by simp only [execOp, (Fr20.eval 75 (by omega)).trans (show _ = Value.pointer (some ⟨xb, 3, none⟩) from by simp [upd, e0, e4, e7]), (Fr20.eval 72 (by omega)).trans (show _ = Value.slice ao8 (il + 1) c8 from by simp [upd, e0, e4, e7])]; simp [go_sem, hf8, hx8]) ?_
      refine ⟨fun h => by omega, ?_⟩
      clear F0 Fr1 Fr2 Fr3 Fr4 Fr5 Fr6 Fr7 Fr8 Fr9 Fr10 Fr11 Fr12 Fr13 Fr14 Fr15 Fr16 Fr17 Fr18 Fr19 Fr20 e0 e4 e7 H0 HC7 HC8 HC9
      simp only [Act.put, List.setIfInBounds_toArray, List.set_cons_succ, List.set_cons_zero]
      have HF : Hid (LNM L xb (S3.inI 1 (.slice ao8 (il + 1) c8) ((S3.e 1).inn ++ [⟨.slice (some ⟨g7, 0, none⟩) s.length c7, s⟩])) col8 (w8.setCell ⟨xb, 3, none⟩ (.slice ao8 (il + 1) c8))) := hL8
      have HI8 : Hid (LInv (S3.inI 1 (.slice ao8 (il + 1) c8) ((S3.e 1).inn ++ [⟨.slice (some ⟨g7, 0, none⟩) s.length c7, s⟩])) win n (t + 1)) := show LInv _ _ _ _ from by
        rw [HE3.out.2.2, HS3.out, HX3.out]
        exact HI.out.send (i := 1) (by omega) _ _ dv ⟨.slice (some ⟨g7, 0, none⟩) s.length c7, s⟩ (by show s.length ≤ 4000; rw [HVN.out]; omega) (by have := HROOM.out; rw [(HI.out.ei 1 (by omega)).wi] at this; exact this)
      have HBL8 : Hid (Below L w (w8.setCell ⟨xb, 3, none⟩ (.slice ao8 (il + 1) c8))) := show Below _ _ _ from HBL.out.trans (Chg.below (show Chg (fun k => k = xb ∨ (S3.e 1).iv.ownBlock = some k) w3 _ from Chg.undrew hch8) HL3D.out.hL (fun k hk => by
        rcases hk with q | q
        · rw [q]; exact HH.out.lo
        · exact (ownsRow_lt (HL3D.out.em 1 (by omega)).ir q).1))
      have d5 : (w8.setCell ⟨xb, 3, none⟩ (.slice ao8 (il + 1) c8)).cell? ⟨wb, 1, none⟩ = some (.int .i64 (win 1 : Int)) := (Chg.blk (show Chg (fun k => k = xb ∨ (S3.e 1).iv.ownBlock = some k) w3 _ from Chg.undrew hch8) HBW3.out (fun a => by
        rcases a with a | a
        · exact HXN.out.2.1 a
        · exact HXN.out.2.2 a)).cell 1
      have HKP8 : Hid (∀ k, k < w.heap.size → 8 ≤ col k → (w8.setCell ⟨xb, 3, none⟩ (.slice ao8 (il + 1) c8)).heap[k]? = w.heap[k]?) := fun k hk h8 => (Chg.block (show Chg (fun k => k = xb ∨ (S3.e 1).iv.ownBlock = some k) w3 _ from Chg.undrew hch8) k (Nat.lt_of_lt_of_le hk HBL.out.size) (fun a => by
        have h0 := HZ9.out k hk
        rcases a with a | a
        · have h1 := HL3D.out.cx
          rw [← a] at h1
          omega
        · have h1 := (HL3D.out.ec 1 (by omega)).ci k a
          omega)).trans (HKP.out k hk h8)
      have H08 : Hid (∀ k, k < w.heap.size → col8 k = col k) := fun k hk => (hlow8 k (Nat.lt_of_lt_of_le hk HBL.out.size)).trans (HZ9.out k hk)
      have HSN8 : Hid ((S3.inI 1 (.slice ao8 (il + 1) c8) ((S3.e 1).inn ++ [⟨.slice (some ⟨g7, 0, none⟩) s.length c7, s⟩])).sent.length ≤ 400) := show _ ≤ _ from by rw [HS3.out]; exact HSN.out
      obtain ⟨W8, hW8⟩ : ∃ W8, W8 = w8.setCell ⟨xb, 3, none⟩ (.slice ao8 (il + 1) c8) := ⟨_, rfl⟩
      rw [← hW8] at HF HBL8 HKP8 d5 ⊢
      clear HKP HZ9
      have HKP := HKP8
      have HZ9 := H08
      clear HKP8 H08
      clear hW8 hr8 hx8 hf8 hk8 hL8 hlow8 hch8 hr7 hb7 hro7 HC9F HCB HCI HLE
      go_wp2_with fail
      refine Calls.mono (sound_1 W8 HF.out HI8.out (by omega)) ?_
      rintro e w9 ⟨rfl, hb9⟩
      have HF9 : Hid (LNM L xb (S3.inI 1 (.slice ao8 (il + 1) c8) ((S3.e 1).inn ++ [⟨.slice (some ⟨g7, 0, none⟩) s.length c7, s⟩])) col8 w9) := HF.out.more hb9
      have HB9 : Hid (Below L w w9) := HBL8.out.trans (hb9.mono HF.out.hL)
      have HK9 : Hid (∀ k, k < w.heap.size → 8 ≤ col k → w9.heap[k]? = w.heap[k]?) := fun k hk h8 => (hb9.block k (Nat.lt_of_lt_of_le hk HBL8.out.size)).trans (HKP.out k hk h8)
      clear hb9
      go_wp2_with fail
      go_ret
      exact ⟨rfl, _, _, HF9.out, HI8.out, HSN8.out, HB9.out, HK9.out, HZ9.out⟩
    · have HROOM : Hid (¬ (S.e 1).x.box.length + (S.e 1).x.under.length < (S.e 1).x.win) := show ¬ _ from by have := HRV.out; omega
      have HSD : Hid (Calls Try.prog 18 #[.pointer (some ⟨li, 0, none⟩), .slice (some ⟨g2, 0, none⟩) vn c2] w2.drew fun e w' => e = .returned (.int .i64 30) ∧ ∃ x', x' = (S.e 1).x ∧ LM L (S.e 1).lb (S.e 1).cb (S.e 1).mb (S.e 1).uv x' w' ∧ LStp (S.e 1).lb (S.e 1).cb (S.e 1).mb (S.e 1).uv (S.e 1).uv (S.e 1).x x' w2.drew w') := by
        rw [HLI.out]
        refine Calls.mono HS0.out ?_
        rintro e w' ⟨rfl, x', hx, hM, hs⟩
        have hc : sendCode (S.e 1).x s = 30 := by
          unfold sendCode; rw [if_neg (by rw [HVN.out]; exact h4), if_neg (by unfold mayGo; simp only [decide_eq_false HROOM.out, Bool.false_and]; decide)]
        unfold SentTo at hx
        rw [hc, if_neg (by decide)] at hx
        exact ⟨by rw [hc], x', hx, hM, hs⟩
      clear HS0
      go_upto_region 6 with fail
      rename_i K hK
      try rw [show ∀ a : Act, a.put none undef = a from fun _ => rfl]
      refine wp_region_mix (fun wz => wz.cell? ⟨xb, 1, none⟩ = some (.pointer (some ⟨li, 0, none⟩)) ∧ wz.cell? ⟨mb, 3, none⟩ = some (Value.slice vo vn vc)) (fun i => i == 11 || i == 99) 99 (by kernel_rfl) rfl (by kernel_rfl) (by kernel_rfl) (by kernel_rfl) ?_
      refine withFrP (N := 155) rfl ?_
      intro f0 F0 hff
      have e0 : f0 0 = Value.pointer (some ⟨xb, 0, none⟩) := hff 0
      have e4 : f0 4 = Value.pointer (some ⟨mb, 0, none⟩) := hff 4
      have e7 : f0 7 = Value.int .i64 1 := hff 7
      have e9 : f0 9 = Value.slice (some ⟨g2, 0, none⟩) (vn + 3) c2 := hff 9
      clear hff
      have H0 : (fun wz => wz.cell? ⟨xb, 1, none⟩ = some (.pointer (some ⟨li, 0, none⟩)) ∧ wz.cell? ⟨mb, 3, none⟩ = some (Value.slice vo vn vc)) (({ w2 with drawn := w2.drawn + 1 } : World)) := HCF.out
      refine lyp F0 rfl H0 rfl (by omega) (wanted_none rfl) (v := Value.pointer (some ⟨xb, 0, none⟩)) (fun wr hwr => by simp only [execOp, (F0.eval 0 (by omega)).trans (show _ = Value.pointer (some ⟨xb, 0, none⟩) from by simp [upd, e0, e4, e7, e9])]; first | rfl | simp [go_sem]) fun Fp1 => ?_
      refine lyp Fp1 rfl H0 rfl (by omega) (wanted_none rfl) (v := Value.int .i64 1) (fun wr hwr => by simp only [execOp, (Fp1.eval 7 (by omega)).trans (show _ = Value.int .i64 1 from by simp [upd, e0, e4, e7, e9])]; first | rfl | simp [go_sem]) fun Fp2 => ?_
      refine lyp Fp2 rfl H0 rfl (by omega) (wanted_none rfl) (v := Value.pointer (some ⟨xb, 0, none⟩)) (fun wr hwr => by simp only [execOp, (Fp2.eval 31 (by omega)).trans (show _ = Value.pointer (some ⟨xb, 0, none⟩) from by simp [upd, e0, e4, e7, e9])]; simp [go_sem]) fun Fp3 => ?_
      refine lyp Fp3 rfl H0 rfl (by omega) (wanted_none rfl) (v := Value.pointer (some ⟨xb, 0, none⟩)) (fun wr hwr => by simp only [execOp, (Fp3.eval 33 (by omega)).trans (show _ = Value.pointer (some ⟨xb, 0, none⟩) from by simp [upd, e0, e4, e7, e9])]; simp [go_sem]) fun Fp4 => ?_
      refine lyp Fp4 rfl H0 rfl (by omega) (wanted_none rfl) (v := Value.pointer (some ⟨xb, 1, none⟩)) (fun wr hwr => by simp only [execOp, (Fp4.eval 34 (by omega)).trans (show _ = Value.pointer (some ⟨xb, 0, none⟩) from by simp [upd, e0, e4, e7, e9]), (Fp4.eval 32 (by omega)).trans (show _ = Value.int .i64 1 from by simp [upd, e0, e4, e7, e9])]; simp [go_sem, Act.eval]) fun Fp5 => ?_
      refine lyp Fp5 rfl H0 rfl (by omega) (wanted_none rfl) (v := Value.pointer (some ⟨li, 0, none⟩)) (fun wr hwr => by simp only [execOp, (Fp5.eval 35 (by omega)).trans (show _ = Value.pointer (some ⟨xb, 1, none⟩) from by simp [upd, e0, e4, e7, e9])]; simp [go_sem, hwr.1]) fun Fp6 => ?_
      refine lyp Fp6 rfl H0 rfl (by omega) (wanted_none rfl) (v := Value.slice (some ⟨g2, 0, none⟩) (vn + 3) c2) (fun wr hwr => by simp only [execOp, (Fp6.eval 9 (by omega)).trans (show _ = Value.slice (some ⟨g2, 0, none⟩) (vn + 3) c2 from by simp [upd, e0, e4, e7, e9])]; first | rfl | simp [go_sem]) fun Fp7 => ?_
      refine lyp Fp7 rfl H0 rfl (by omega) (wanted_none rfl) (v := Value.pointer (some ⟨mb, 3, none⟩)) (fun wr hwr => by simp only [execOp, (Fp7.eval 4 (by omega)).trans (show _ = Value.pointer (some ⟨mb, 0, none⟩) from by simp [upd, e0, e4, e7, e9])]; simp [go_sem]) fun Fp8 => ?_
      refine lyp Fp8 rfl H0 rfl (by omega) (wanted_none rfl) (v := Value.slice vo vn vc) (fun wr hwr => by simp only [execOp, (Fp8.eval 38 (by omega)).trans (show _ = Value.pointer (some ⟨mb, 3, none⟩) from by simp [upd, e0, e4, e7, e9])]; simp [go_sem, hwr.2]) fun Fp9 => ?_
      refine lyp Fp9 rfl H0 rfl (by omega) (wanted_none rfl) (v := Value.int .i64 (vn : Nat)) (fun wr hwr => by simp only [execOp, resolve, invoke, builtin, List.map_toArray, List.map_cons, List.map_nil, (Fp9.eval 39 (by omega)).trans (show _ = Value.slice vo vn vc from by simp [upd, e0, e4, e7, e9])]; simp [go_sem, Builtin.len_, Builtin.lenOf]) fun Fp10 => ?_
      refine lyp Fp10 rfl H0 rfl (by omega) (wanted_none rfl) (v := Value.slice (some ⟨g2, 0, none⟩) vn c2) (fun wr hwr => by simp only [execOp, Option.map, (Fp10.eval 37 (by omega)).trans (show _ = Value.slice (some ⟨g2, 0, none⟩) (vn + 3) c2 from by simp [upd, e0, e4, e7, e9]), (Fp10.eval 40 (by omega)).trans (show _ = Value.int .i64 (vn : Nat) from by simp [upd, e0, e4, e7, e9])]; simp only [Sem.run_bind, Sem.run_pure, Result.andThen_ok, slice_head 41 5 Try.underlying41 isz5b (some ⟨g2, 0, none⟩) (vn + 3) c2 vn (by omega)]; try rfl) fun Fp11 => ?_
      refine lcp Fp11 rfl H0 rfl (by omega) (wanted_none rfl) (g := 18) (args := #[Value.pointer (some ⟨li, 0, none⟩), Value.slice (some ⟨g2, 0, none⟩) vn c2]) (by simp only [execOp, resolve, invoke, List.map_toArray, List.map_cons, List.map_nil, (Fp11.eval 36 (by omega)).trans (show _ = Value.pointer (some ⟨li, 0, none⟩) from by simp [upd, e0, e4, e7, e9]), (Fp11.eval 41 (by omega)).trans (show _ = Value.slice (some ⟨g2, 0, none⟩) vn c2 from by simp [upd, e0, e4, e7, e9])]; simp [go_sem, Act.eval]) HSD.out ?_
      rintro e w3 ⟨rfl, x3, hx3, hM3, hs3⟩
      refine ⟨_, rfl, fun Fp12 => ?_⟩
      have HC3 : (fun wz => wz.cell? ⟨xb, 1, none⟩ = some (.pointer (some ⟨li, 0, none⟩)) ∧ wz.cell? ⟨mb, 3, none⟩ = some (Value.slice vo vn vc)) w3 := HC3F.out w3 hs3.1
      refine lyp Fp12 rfl HC3 rfl (by omega) (wanted_none rfl) (v := Value.int .i64 30) (fun wr hwr => by simp only [execOp, (Fp12.eval 42 (by omega)).trans (show _ = Value.int .i64 30 from by simp [upd, e0, e4, e7, e9])]; first | rfl | simp [go_sem]) fun Fp13 => ?_
      refine ⟨fun _ => HC3, ?_⟩
      refine hK _ _ ?_
      clear F0 Fp1 Fp2 Fp3 Fp4 Fp5 Fp6 Fp7 Fp8 Fp9 Fp10 Fp11 Fp12 Fp13 e0 e4 e7 e9 H0 HC3
      simp only [Act.put, List.setIfInBounds_toArray, List.set_cons_succ, List.set_cons_zero]
      replace hs3 := LStp.undrew hs3
      have hL3 := HL2.out.endStep (i := 1) (by omega) hM3 hs3
      obtain ⟨col3, hL3, hcol3⟩ := hL3
      have hnl : ∀ k, col1 k = 9 → ¬ lown (S.e 1).lb (S.e 1).cb (S.e 1).mb (S.e 1).uv (S.e 1).x k := fun k h9 hk => by
        have := (HL2.out.ec 1 (by omega)).ce k hk
        omega
      have hBm3 : Blk w3 mb #[.int .i64 kd, .int .i64 who, .int .i64 aa, .slice vo vn vc] 54 := hs3.1.blk HBm2.out (hnl mb HCW.out.2)
      have hBw3 : Blk w3 wb #[.int .i64 (win 0 : Int), .int .i64 (win 1 : Int)] 51 := hs3.1.blk HBw2.out (hnl wb HCW.out.1)
      have HBL : Hid (Below L w w3) := show Below _ _ _ from HB2.out.trans (hs3.1.below HL2.out.hL (fun k hk => ((HL2.out.em 1 (by omega)).lm.lt hk).1))
      have HKP : Hid (∀ k, k < w.heap.size → 8 ≤ col k → w3.heap[k]? = w.heap[k]?) := kp_of HB2W.out hs3.1 (fun k hk a => by have h1 := (HL2.out.ec 1 (by omega)).ce k a; rw [HC1.out k hk] at h1; omega)
      have HZ9 : Hid (∀ k, k < w.heap.size → col3 k = col k) := fun k hk => (hcol3 k (Nat.lt_of_lt_of_le hk HB2W.out.size)).trans (HC1.out k hk)
      have p3 : w3.cell? ⟨mb, 3, none⟩ = some (.slice vo vn vc) := hBm3.cell 3
      have d5 : w3.cell? ⟨wb, 1, none⟩ = some (.int .i64 (win 1 : Int)) := hBw3.cell 1
      subst hx3
      rw [endX_self] at hL3
      have HL3 : Hid (LNM L xb S col3 w3) := hL3
      have HI3 : Hid (LInv S win n (t + 1)) := HI.out.later (Nat.le_succ t)
      clear hM3 hs3 hL3 hcol3 hnl hBm3 hBw3 HSD
      go_wp2_with fail
      refine Calls.mono (sound_1 w3 HL3.out HI3.out (by omega)) ?_
      rintro e w9 ⟨rfl, hb9⟩
      have HF9 : Hid (LNM L xb (S) col3 w9) := HL3.out.more hb9
      have HB9 : Hid (Below L w w9) := HBL.out.trans (hb9.mono HL3.out.hL)
      have HK9 : Hid (∀ k, k < w.heap.size → 8 ≤ col k → w9.heap[k]? = w.heap[k]?) := fun k hk h8 => (hb9.block k (Nat.lt_of_lt_of_le hk HBL.out.size)).trans (HKP.out k hk h8)
      clear hb9
      go_wp2_with fail
      go_ret
      exact ⟨rfl, _, _, HF9.out, HI3.out, HSN.out, HB9.out, HK9.out, HZ9.out⟩
end Go.Proofs.Ytcjgicfmfjomgaa
