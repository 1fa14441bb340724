import Derived.Test.YtcjgicfmfjomgaaSp2
namespace Go.Proofs.Ytcjgicfmfjomgaa
open Go.RowKit Go.PlainAid Go.MapKept
set_option linter.unusedVariables false
set_option linter.unusedSimpArgs false
set_option maxRecDepth 100000 in
set_option maxHeartbeats 3200000 in
theorem step_13 {L xb n t : Nat} {S : Ln} {col : Nat → Nat} {win : Nat → Nat} (kd who aa : Int) (v : Value) (s : List UInt8) (w : World) (hkb : -9223372036854775808 ≤ kd ∧ kd ≤ 9223372036854775807) (hwb_ : -9223372036854775808 ≤ who ∧ who ≤ 9223372036854775807) (hab : -9223372036854775808 ≤ aa ∧ aa ≤ 9223372036854775807) (h : LNM L xb S col w) (hI : LInv S win n t) (ht : t + 1 ≤ 400) (hsn : S.sent.length ≤ 400) (hv : ∀ wz, Below L w wz → By wz v s) (hsl : s.length ≤ 140737488351232) (ewho : wl who 2 = 1) (ekd : wl kd 4 = 3) :
    Calls Try.prog 22 #[.pointer (some ⟨xb, 0, none⟩), .agg #[.int .i64 kd, .int .i64 who, .int .i64 aa, v], .agg #[.int .i64 (win 0 : Int), .int .i64 (win 1 : Int)]] w fun e w' => e = .returned (.bool true) ∧ ∃ S' col', LNM L xb S' col' w' ∧ LInv S' win n (t + 1) ∧ S'.sent.length ≤ 400 ∧ Below L w w' ∧ (∀ k, k < w.heap.size → 8 ≤ col k → w'.heap[k]? = w.heap[k]?) ∧ ∀ k, k < w.heap.size → col' k = col k := by
  obtain ⟨vo, vn, vc, hvv, hvn, _⟩ := id (hv w (Below.refl _ _))
  subst hvv
  obtain ⟨X, hX⟩ : ∃ X, X = (w.alloc (.cells #[.int .i64 kd, .int .i64 who, .int .i64 aa, .slice vo vn vc] 54)).alloc (.cells #[.int .i64 (win 0 : Int), .int .i64 (win 1 : Int)] 51) := ⟨_, rfl⟩
  obtain ⟨mb, hmb⟩ : ∃ mb, mb = w.heap.size := ⟨_, rfl⟩
  obtain ⟨wb, hwb⟩ : ∃ wb, wb = w.heap.size + 1 := ⟨_, rfl⟩
  have hb1 : Below w.heap.size w (w.alloc (.cells #[.int .i64 kd, .int .i64 who, .int .i64 aa, .slice vo vn vc] 54)) := (Below.refl _ _).alloc (Nat.le_refl _) _
  have hbX : Below w.heap.size w X := by rw [hX]; exact hb1.alloc hb1.size _
  have hBm : Blk X mb #[.int .i64 kd, .int .i64 who, .int .i64 aa, .slice vo vn vc] 54 := by
    rw [hX, hmb]
    exact (Below.heap_alloc _ _ _ (by simp)).trans (heap_alloc_new w _)
  have hBw : Blk X wb #[.int .i64 (win 0 : Int), .int .i64 (win 1 : Int)] 51 := by
    have := heap_alloc_new (w.alloc (.cells #[.int .i64 kd, .int .i64 who, .int .i64 aa, .slice vo vn vc] 54)) (.cells #[.int .i64 (win 0 : Int), .int .i64 (win 1 : Int)] 51)
    rw [World.size_alloc] at this
    rw [hX, hwb]
    exact this
  have HWW : Hid (Calls Try.prog 15 #[.int .i64 who, .int .i64 0, .int .i64 1] X fun e w' => e = .returned (.int .i64 1) ∧ w' = X) := by
    have h0 := within_wl who 2 X hwb_ (by omega) (by omega)
    rw [ewho] at h0
    exact h0
  have HWK : Hid (Calls Try.prog 15 #[.int .i64 kd, .int .i64 0, .int .i64 3] X fun e w' => e = .returned (.int .i64 3) ∧ w' = X) := by
    have h0 := within_wl kd 4 X hkb (by omega) (by omega)
    rw [ekd] at h0
    exact h0
  obtain ⟨col1, hcol1⟩ : ∃ col1 : Nat → Nat, col1 = fun k => if k < w.heap.size then col k else 9 := ⟨_, rfl⟩
  have hLX := (h.recol (col' := col1) (fun k hk => by rw [hcol1]; exact if_pos hk)).more hbX
  have HCW : Hid (col1 wb = 9 ∧ col1 mb = 9) := show _ ∧ _ from by rw [hcol1, hwb, hmb]; exact ⟨if_neg (by omega), if_neg (by omega)⟩
  have HC1 : Hid (∀ k, k < w.heap.size → col1 k = col k) := fun k hk => by rw [hcol1]; exact if_pos hk
  clear hcol1
  have HH : Hid (LNM L xb S col w) := h
  have HLX : Hid (LNM L xb S col1 X) := hLX
  have HI : Hid (LInv S win n t) := hI
  have HbX : Hid (Below w.heap.size w X) := hbX
  have HBm : Hid (Blk X mb #[.int .i64 kd, .int .i64 who, .int .i64 aa, .slice vo vn vc] 54) := hBm
  have HBw : Hid (Blk X wb #[.int .i64 (win 0 : Int), .int .i64 (win 1 : Int)] 51) := hBw
  have HMB : Hid (mb = w.heap.size) := hmb
  have HWB : Hid (wb = w.heap.size + 1) := hwb
  have HSN : Hid (S.sent.length ≤ 400) := hsn
  have HBY : Hid (By X (.slice vo vn vc) s) := hv X (hbX.mono h.hL)
  have HVA : Hid (∀ wz, Below L w wz → By wz (.slice vo vn vc) s) := hv
  have HVN : Hid (s.length = vn) := hvn
  have hvnl : vn ≤ 140737488351232 := by omega
  have m0 : X.cell? ⟨mb, 0, none⟩ = some (.int .i64 kd) := hBm.cell 0
  have m1 : X.cell? ⟨mb, 1, none⟩ = some (.int .i64 who) := hBm.cell 1
  have c0 : X.cell? ⟨xb, 1, none⟩ = some (.pointer (some ⟨(S.e 1).lb, 0, none⟩)) := hLX.b.cell 1
  clear h hI hb1 hbX hBm hBw hLX hv hvn hsl hkb hwb_ ewho ekd hsn
  obtain ⟨so, sc, hsv, un0⟩ := own_slice HLX.out.sr
  clear un0
  obtain ⟨sn, hsn_⟩ : ∃ sn, sn = S.sent.length := ⟨_, rfl⟩
  rw [← hsn_] at hsv
  have HSV : Hid (S.sv = .slice so sn sc) := hsv
  have HSL : Hid (sn = S.sent.length) := hsn_
  have hs4 : sn ≤ 400 := by rw [hsn_]; exact HSN.out
  have c6 : X.cell? ⟨xb, 6, none⟩ = some (.slice so sn sc) := by rw [← hsv]; exact HLX.out.b.cell 6
  clear hsv hsn_ c0
  go_enter Try.func22, Try.ntmps22
  go_upto_region 1 with fail
  rw [← hX, ← hwb, ← hmb]
  clear hX hmb hwb
  go_wp2_with fail
  refine Calls.mono HWW.out ?_
  rintro e w' ⟨rfl, hw'⟩
  replace hw' := hw'.symm
  subst hw'
  go_wp2_with fail
  refine Calls.mono HWK.out ?_
  rintro e w' ⟨rfl, hw'⟩
  replace hw' := hw'.symm
  subst hw'
  clear HWW HWK m0 m1
  go_upto_region 22 with fail
  by_cases hz : sn = 0
  · have HL3 : Hid (LNM L xb S col1 X.drew) := HLX.out.more (Below.refl _ _).drew
    have HI3 : Hid (LInv S win n (t + 1)) := HI.out.later (Nat.le_succ t)
    have HBL : Hid (Below L w X.drew) := show Below _ _ _ from (HbX.out.mono HH.out.hL).drew
    rename_i K hK
    try rw [show ∀ a : Act, a.put none undef = a from fun _ => rfl]
    refine wp_region_mix (fun wz => wz.cell? ⟨xb, 6, none⟩ = some (Value.slice so sn sc)) (fun i => i == 99) 99 (by kernel_rfl) rfl (by kernel_rfl) (by kernel_rfl) (by kernel_rfl) ?_
    refine withFrP (N := 155) rfl ?_
    intro f0 F0 hff
    have e0 : f0 0 = Value.pointer (some ⟨xb, 0, none⟩) := hff 0
    have e4 : f0 4 = Value.pointer (some ⟨mb, 0, none⟩) := hff 4
    clear hff
    have H3 : (fun wz => wz.cell? ⟨xb, 6, none⟩ = some (Value.slice so sn sc)) (({ X with drawn := X.drawn + 1 } : World)) := c6
    refine lyp F0 rfl H3 rfl (by omega) (wanted_none rfl) (v := Value.pointer (some ⟨xb, 0, none⟩)) (fun wr hwr => by simp only [execOp, (F0.eval 0 (by omega)).trans (show _ = Value.pointer (some ⟨xb, 0, none⟩) from by simp [upd, e0, e4])]; first | rfl | simp [go_sem]) fun Fp1 => ?_
    refine lyp Fp1 rfl H3 rfl (by omega) (wanted_none rfl) (v := Value.pointer (some ⟨xb, 0, none⟩)) (fun wr hwr => by simp only [execOp, (Fp1.eval 123 (by omega)).trans (show _ = Value.pointer (some ⟨xb, 0, none⟩) from by simp [upd, e0, e4])]; simp [go_sem]) fun Fp2 => ?_
    refine lyp Fp2 rfl H3 rfl (by omega) (wanted_none rfl) (v := Value.pointer (some ⟨xb, 6, none⟩)) (fun wr hwr => by simp only [execOp, (Fp2.eval 124 (by omega)).trans (show _ = Value.pointer (some ⟨xb, 0, none⟩) from by simp [upd, e0, e4])]; simp [go_sem]) fun Fp3 => ?_
    refine lyp Fp3 rfl H3 rfl (by omega) (wanted_none rfl) (v := Value.slice so sn sc) (fun wr hwr => by simp only [execOp, (Fp3.eval 125 (by omega)).trans (show _ = Value.pointer (some ⟨xb, 6, none⟩) from by simp [upd, e0, e4])]; simp [go_sem, show wr.cell? _ = _ from hwr]) fun Fp4 => ?_
    refine lyp Fp4 rfl H3 rfl (by omega) (wanted_none rfl) (v := Value.int .i64 (sn : Nat)) (fun wr hwr => by simp only [execOp, resolve, invoke, builtin, List.map_toArray, List.map_cons, List.map_nil, (Fp4.eval 126 (by omega)).trans (show _ = Value.slice so sn sc from by simp [upd, e0, e4])]; simp [go_sem, Builtin.len_, Builtin.lenOf]) fun Fp5 => ?_
    refine lyp Fp5 rfl H3 rfl (by omega) (wanted_none rfl) (v := Value.bool false) (fun wr hwr => by simp only [execOp, (Fp5.eval 127 (by omega)).trans (show _ = Value.int .i64 (sn : Nat) from by simp [upd, e0, e4])]; simp [go_sem, Act.eval, hz]) fun Fp6 => ?_
    refine lyp Fp6 rfl H3 rfl (by omega) (wanted_none rfl) (v := Value.bool false) (fun wr hwr => by simp only [execOp, (Fp6.eval 128 (by omega)).trans (show _ = Value.bool false from by simp [upd, e0, e4])]; first | rfl | simp [go_sem]) fun Fp7 => ?_
    refine lnp Fp7 rfl H3 rfl (by omega) (want_no Fp7 rfl (e := 129) rfl (by omega) (show _ = Value.bool false from by simp [upd, e0, e4]) (by decide)) fun Fp8 => ?_
    refine lnp Fp8 rfl H3 rfl (by omega) (want_no Fp8 rfl (e := 129) rfl (by omega) (show _ = Value.bool false from by simp [upd, e0, e4]) (by decide)) fun Fp9 => ?_
    refine lnp Fp9 rfl H3 rfl (by omega) (want_no Fp9 rfl (e := 129) rfl (by omega) (show _ = Value.bool false from by simp [upd, e0, e4]) (by decide)) fun Fp10 => ?_
    refine lnp Fp10 rfl H3 rfl (by omega) (want_no Fp10 rfl (e := 129) rfl (by omega) (show _ = Value.bool false from by simp [upd, e0, e4]) (by decide)) fun Fp11 => ?_
    refine lnp Fp11 rfl H3 rfl (by omega) (want_no Fp11 rfl (e := 129) rfl (by omega) (show _ = Value.bool false from by simp [upd, e0, e4]) (by decide)) fun Fp12 => ?_
    refine lnp Fp12 rfl H3 rfl (by omega) (want_no Fp12 rfl (e := 129) rfl (by omega) (show _ = Value.bool false from by simp [upd, e0, e4]) (by decide)) fun Fp13 => ?_
    refine lnp Fp13 rfl H3 rfl (by omega) (want_no Fp13 rfl (e := 129) rfl (by omega) (show _ = Value.bool false from by simp [upd, e0, e4]) (by decide)) fun Fp14 => ?_
    refine lnp Fp14 rfl H3 rfl (by omega) (want_no Fp14 rfl (e := 129) rfl (by omega) (show _ = Value.bool false from by simp [upd, e0, e4]) (by decide)) fun Fp15 => ?_
    refine lnp Fp15 rfl H3 rfl (by omega) (want_no Fp15 rfl (e := 129) rfl (by omega) (show _ = Value.bool false from by simp [upd, e0, e4]) (by decide)) fun Fp16 => ?_
    refine lnp Fp16 rfl H3 rfl (by omega) (want_no Fp16 rfl (e := 129) rfl (by omega) (show _ = Value.bool false from by simp [upd, e0, e4]) (by decide)) fun Fp17 => ?_
    refine lnp Fp17 rfl H3 rfl (by omega) (want_no Fp17 rfl (e := 129) rfl (by omega) (show _ = Value.bool false from by simp [upd, e0, e4]) (by decide)) fun Fp18 => ?_
    refine lnp Fp18 rfl H3 rfl (by omega) (want_no Fp18 rfl (e := 129) rfl (by omega) (show _ = Value.bool false from by simp [upd, e0, e4]) (by decide)) fun Fp19 => ?_
    refine lnp Fp19 rfl H3 rfl (by omega) (want_no Fp19 rfl (e := 129) rfl (by omega) (show _ = Value.bool false from by simp [upd, e0, e4]) (by decide)) fun Fp20 => ?_
    refine lnp Fp20 rfl H3 rfl (by omega) (want_no Fp20 rfl (e := 129) rfl (by omega) (show _ = Value.bool false from by simp [upd, e0, e4]) (by decide)) fun Fp21 => ?_
    refine lnp Fp21 rfl H3 rfl (by omega) (want_no Fp21 rfl (e := 129) rfl (by omega) (show _ = Value.bool false from by simp [upd, e0, e4]) (by decide)) fun Fp22 => ?_
    refine lnp Fp22 rfl H3 rfl (by omega) (want_no Fp22 rfl (e := 129) rfl (by omega) (show _ = Value.bool false from by simp [upd, e0, e4]) (by decide)) fun Fp23 => ?_
    refine lnp Fp23 rfl H3 rfl (by omega) (want_no Fp23 rfl (e := 129) rfl (by omega) (show _ = Value.bool false from by simp [upd, e0, e4]) (by decide)) fun Fp24 => ?_
    refine lnp Fp24 rfl H3 rfl (by omega) (want_no Fp24 rfl (e := 129) rfl (by omega) (show _ = Value.bool false from by simp [upd, e0, e4]) (by decide)) fun Fp25 => ?_
    refine lyp Fp25 rfl H3 rfl (by omega) (wanted_none rfl) (v := Value.bool false) (fun wr hwr => by simp only [execOp, (Fp25.eval 129 (by omega)).trans (show _ = Value.bool false from by simp [upd, e0, e4])]; simp [go_sem, Act.eval]) fun Fp26 => ?_
    refine ⟨fun _ => H3, ?_⟩
    refine hK _ _ ?_
    clear F0 Fp1 Fp2 Fp3 Fp4 Fp5 Fp6 Fp7 Fp8 Fp9 Fp10 Fp11 Fp12 Fp13 Fp14 Fp15 Fp16 Fp17 Fp18 Fp19 Fp20 Fp21 Fp22 Fp23 Fp24 Fp25 Fp26 e0 e4 H3
    simp only [Act.put, List.setIfInBounds_toArray, List.set_cons_succ, List.set_cons_zero]
    obtain ⟨X5, hX5⟩ : ∃ X5 : World, X5 = ({ X with drawn := X.drawn + 1 } : World) := ⟨_, rfl⟩
    rw [← hX5]
    have HL5 : Hid (LNM L xb S col1 X5) := show LNM _ _ _ _ _ from by rw [hX5]; exact HL3.out
    have HBL5 : Hid (Below L w X5) := show Below _ _ _ from by rw [hX5]; exact HBL.out
    have d5 : X5.cell? ⟨wb, 1, none⟩ = some (.int .i64 (win 1 : Int)) := by rw [hX5]; exact HBw.out.cell 1
    have HKP : Hid (∀ k, k < w.heap.size → 8 ≤ col k → X5.heap[k]? = w.heap[k]?) := fun k hk h8 => by rw [hX5]; exact HbX.out.block k hk
    have HZ9 : Hid (∀ k, k < w.heap.size → col1 k = col k) := HC1.out
    clear hX5 HL3 HBL c6
    go_wp2_with fail
    refine Calls.mono (sound_1 X5 HL5.out HI3.out (by omega)) ?_
    rintro e w9 ⟨rfl, hb9⟩
    have HF9 : Hid (LNM L xb (S) col1 w9) := HL5.out.more hb9
    have HB9 : Hid (Below L w w9) := HBL5.out.trans (hb9.mono HL5.out.hL)
    have HK9 : Hid (∀ k, k < w.heap.size → 8 ≤ col k → w9.heap[k]? = w.heap[k]?) := fun k hk h8 => (hb9.block k (Nat.lt_of_lt_of_le hk HBL5.out.size)).trans (HKP.out k hk h8)
    clear hb9
    go_wp2_with fail
    go_ret
    exact ⟨rfl, _, _, HF9.out, HI3.out, HSN.out, HB9.out, HK9.out, HZ9.out⟩
  · have hwl := wl_lt aa (m := sn) (by omega)
    obtain ⟨p, hp⟩ : ∃ p, p = wl aa sn := ⟨_, rfl⟩
    rw [← hp] at hwl
    have hpl : p < sn := hwl
    have HWA : Hid (Calls Try.prog 15 #[.int .i64 aa, .int .i64 0, .int .i64 ((sn : Int) - 1)] X.drew fun e w' => e = .returned (.int .i64 (p : Int)) ∧ w' = X.drew) := by
      rw [hp]
      exact within_wl aa sn X.drew hab (by omega) (by omega)
    obtain ⟨g, hg⟩ : ∃ g, S.sent[p]? = some g := ⟨S.sent[p]'(by rw [← HSL.out]; exact hpl), List.getElem?_eq_getElem _⟩
    obtain ⟨so', sc', hsv, un1, un2, hrd⟩ := own_read HLX.out.sr
    obtain ⟨sg, hsg, un3, hsgl, hscl⟩ := hrd (by rw [← HSL.out]; omega)
    clear un1 un2 un3
    rw [HSV.out] at hsv
    have eso := (Value.slice.inj hsv).1
    rw [hsg] at eso
    obtain ⟨i, hi, e1, e2, hseg⟩ := HI.out.sg g (List.mem_of_getElem? hg)
    clear hwl hp hsv hrd hsg
    have hsg := eso
    clear eso
    rcases (by omega : i = 0 ∨ i = 1) with rfl | rfl
    · clear hi
      have hf : g.f = 3 := e1
      have htt : g.t = 5 := e2
      have hcell : ∀ f u, f < 5 → g.row[f]? = some u → X.cell? ⟨sg, p * 5 + f, none⟩ = some u := fun f u hf hu => hscl _ _ (by rw [flatG, flat_at Sgm.row 5 (fun _ => rfl) S.sent p f g hg hf]; exact hu)
      have HCF : Hid (X.cell? ⟨xb, 6, none⟩ = some (Value.slice (some ⟨sg, 0, none⟩) sn sc) ∧ X.cell? ⟨mb, 2, none⟩ = some (.int .i64 aa) ∧ X.cell? ⟨sg, p * 5, none⟩ = some (.int .i64 3) ∧ X.cell? ⟨sg, p * 5 + 1, none⟩ = some (.int .i64 5) ∧ X.cell? ⟨sg, p * 5 + 2, none⟩ = some (.int .i64 g.q) ∧ X.cell? ⟨sg, p * 5 + 3, none⟩ = some (.int .i64 g.a) ∧ X.cell? ⟨sg, p * 5 + 4, none⟩ = some g.d.v) := ⟨by rw [← hsg]; exact c6, HBm.out.cell 2, hcell 0 _ (by omega) (by rw [← hf]; rfl), hcell 1 _ (by omega) (by rw [← htt]; rfl), hcell 2 _ (by omega) rfl, hcell 3 _ (by omega) rfl, hcell 4 _ (by omega) rfl⟩
      have HC5F : Hid (∀ w5, Chg (fun j => j = xb ∨ lown (S.e 1).lb (S.e 1).cb (S.e 1).mb (S.e 1).uv (S.e 1).x j) X.drew w5 → w5.cell? ⟨mb, 2, none⟩ = some (.int .i64 aa) ∧ w5.cell? ⟨sg, p * 5, none⟩ = some (.int .i64 3) ∧ w5.cell? ⟨sg, p * 5 + 1, none⟩ = some (.int .i64 5) ∧ w5.cell? ⟨sg, p * 5 + 2, none⟩ = some (.int .i64 g.q) ∧ w5.cell? ⟨sg, p * 5 + 3, none⟩ = some (.int .i64 g.a) ∧ w5.cell? ⟨sg, p * 5 + 4, none⟩ = some g.d.v) := fun w5 hc => by
        obtain ⟨a1, a2, a3, a4, a5, a6, a7⟩ := HCF.out
        have hb := hc.block sg hsgl (fun a => by
          have h6 := HLX.out.cs sg (by rw [HSV.out, hsg]; rfl)
          rcases a with a | a
          · rw [a] at h6
            have := HLX.out.cx
            omega
          · have := (HLX.out.ec 1 (by omega)).ce sg a
            omega)
        have hm := hc.block mb HBm.out.lt (fun a => by
          have h6 := HCW.out.2
          rcases a with a | a
          · rw [a] at h6
            have := HLX.out.cx
            omega
          · have := (HLX.out.ec 1 (by omega)).ce mb a
            omega)
        exact ⟨(World.cell?_of_block (w := X) (a := ⟨mb, 2, none⟩) hm).trans a2, (World.cell?_of_block (w := X) (a := ⟨sg, p * 5, none⟩) hb).trans a3, (World.cell?_of_block (w := X) (a := ⟨sg, p * 5 + 1, none⟩) hb).trans a4, (World.cell?_of_block (w := X) (a := ⟨sg, p * 5 + 2, none⟩) hb).trans a5, (World.cell?_of_block (w := X) (a := ⟨sg, p * 5 + 3, none⟩) hb).trans a6, (World.cell?_of_block (w := X) (a := ⟨sg, p * 5 + 4, none⟩) hb).trans a7⟩
      have HCO : Hid (Calls Try.prog 33 #[.pointer (some ⟨xb, 0, none⟩), .agg #[.int .i64 3, .int .i64 5, .int .i64 g.q, .int .i64 g.a, g.d.v]] X.drew _) := comes_0 g.q g.a g.d.v g.d.s X.drew (HLX.out.more (Below.refl _ _).drew) HI.out (by omega) (own_by (HLX.out.sd g (List.mem_of_getElem? hg))) (HI.out.segLen (i := 0) (by omega) hseg) hseg
      have HSEG : Hid (SegOk ((S.e 0).inn.map Dv.s) ((S.e 0).inn.length - (S.e 0).x.box.length) (S.e 1).out g.q g.a g.d.s) := hseg
      rw [hsg] at HSV
      clear e1 e2 hseg hf htt hcell hscl hg hsgl hsg c6
      rename_i K hK
      try rw [show ∀ a : Act, a.put none undef = a from fun _ => rfl]
      refine wp_region_mix (fun wz => wz.cell? ⟨xb, 6, none⟩ = some (Value.slice (some ⟨sg, 0, none⟩) sn sc) ∧ wz.cell? ⟨mb, 2, none⟩ = some (.int .i64 aa) ∧ wz.cell? ⟨sg, p * 5, none⟩ = some (.int .i64 3) ∧ wz.cell? ⟨sg, p * 5 + 1, none⟩ = some (.int .i64 5) ∧ wz.cell? ⟨sg, p * 5 + 2, none⟩ = some (.int .i64 g.q) ∧ wz.cell? ⟨sg, p * 5 + 3, none⟩ = some (.int .i64 g.a) ∧ wz.cell? ⟨sg, p * 5 + 4, none⟩ = some (g.d.v)) (fun i => i == 20 || i == 23 || i == 99) 99 (by kernel_rfl) rfl (by kernel_rfl) (by kernel_rfl) (by kernel_rfl) ?_
      refine withFrP (N := 155) rfl ?_
      intro f0 F0 hff
      have e0 : f0 0 = Value.pointer (some ⟨xb, 0, none⟩) := hff 0
      have e4 : f0 4 = Value.pointer (some ⟨mb, 0, none⟩) := hff 4
      clear hff
      have H3 : (fun wz => wz.cell? ⟨xb, 6, none⟩ = some (Value.slice (some ⟨sg, 0, none⟩) sn sc) ∧ wz.cell? ⟨mb, 2, none⟩ = some (.int .i64 aa) ∧ wz.cell? ⟨sg, p * 5, none⟩ = some (.int .i64 3) ∧ wz.cell? ⟨sg, p * 5 + 1, none⟩ = some (.int .i64 5) ∧ wz.cell? ⟨sg, p * 5 + 2, none⟩ = some (.int .i64 g.q) ∧ wz.cell? ⟨sg, p * 5 + 3, none⟩ = some (.int .i64 g.a) ∧ wz.cell? ⟨sg, p * 5 + 4, none⟩ = some (g.d.v)) (({ X with drawn := X.drawn + 1 } : World)) := HCF.out
      refine lyp F0 rfl H3 rfl (by omega) (wanted_none rfl) (v := Value.pointer (some ⟨xb, 0, none⟩)) (fun wr hwr => by simp only [execOp, (F0.eval 0 (by omega)).trans (show _ = Value.pointer (some ⟨xb, 0, none⟩) from by simp [upd, e0, e4])]; first | rfl | simp [go_sem]) fun Fp1 => ?_
      refine lyp Fp1 rfl H3 rfl (by omega) (wanted_none rfl) (v := Value.pointer (some ⟨xb, 0, none⟩)) (fun wr hwr => by simp only [execOp, (Fp1.eval 123 (by omega)).trans (show _ = Value.pointer (some ⟨xb, 0, none⟩) from by simp [upd, e0, e4])]; simp [go_sem]) fun Fp2 => ?_
      refine lyp Fp2 rfl H3 rfl (by omega) (wanted_none rfl) (v := Value.pointer (some ⟨xb, 6, none⟩)) (fun wr hwr => by simp only [execOp, (Fp2.eval 124 (by omega)).trans (show _ = Value.pointer (some ⟨xb, 0, none⟩) from by simp [upd, e0, e4])]; simp [go_sem]) fun Fp3 => ?_
      refine lyp Fp3 rfl H3 rfl (by omega) (wanted_none rfl) (v := Value.slice (some ⟨sg, 0, none⟩) sn sc) (fun wr hwr => by simp only [execOp, (Fp3.eval 125 (by omega)).trans (show _ = Value.pointer (some ⟨xb, 6, none⟩) from by simp [upd, e0, e4])]; simp [go_sem, hwr.1]) fun Fp4 => ?_
      refine lyp Fp4 rfl H3 rfl (by omega) (wanted_none rfl) (v := Value.int .i64 (sn : Nat)) (fun wr hwr => by simp only [execOp, resolve, invoke, builtin, List.map_toArray, List.map_cons, List.map_nil, (Fp4.eval 126 (by omega)).trans (show _ = Value.slice (some ⟨sg, 0, none⟩) sn sc from by simp [upd, e0, e4])]; simp [go_sem, Builtin.len_, Builtin.lenOf]) fun Fp5 => ?_
      refine lyp Fp5 rfl H3 rfl (by omega) (wanted_none rfl) (v := Value.bool true) (fun wr hwr => by simp only [execOp, (Fp5.eval 127 (by omega)).trans (show _ = Value.int .i64 (sn : Nat) from by simp [upd, e0, e4])]; simp [go_sem, Act.eval]; omega) fun Fp6 => ?_
      refine lyp Fp6 rfl H3 rfl (by omega) (wanted_none rfl) (v := Value.bool true) (fun wr hwr => by simp only [execOp, (Fp6.eval 128 (by omega)).trans (show _ = Value.bool true from by simp [upd, e0, e4])]; first | rfl | simp [go_sem]) fun Fp7 => ?_
      refine lyp Fp7 rfl H3 rfl (by omega) (want_yes Fp7 rfl (e := 129) rfl (by omega) (show _ = Value.bool true from by simp [upd, e0, e4])) (v := Value.pointer (some ⟨xb, 0, none⟩)) (fun wr hwr => by simp only [execOp, (Fp7.eval 0 (by omega)).trans (show _ = Value.pointer (some ⟨xb, 0, none⟩) from by simp [upd, e0, e4])]; first | rfl | simp [go_sem]) fun Fp8 => ?_
      refine lyp Fp8 rfl H3 rfl (by omega) (want_yes Fp8 rfl (e := 129) rfl (by omega) (show _ = Value.bool true from by simp [upd, e0, e4])) (v := Value.pointer (some ⟨xb, 0, none⟩)) (fun wr hwr => by simp only [execOp, (Fp8.eval 0 (by omega)).trans (show _ = Value.pointer (some ⟨xb, 0, none⟩) from by simp [upd, e0, e4])]; first | rfl | simp [go_sem]) fun Fp9 => ?_
      refine lyp Fp9 rfl H3 rfl (by omega) (want_yes Fp9 rfl (e := 129) rfl (by omega) (show _ = Value.bool true from by simp [upd, e0, e4])) (v := Value.pointer (some ⟨xb, 0, none⟩)) (fun wr hwr => by simp only [execOp, (Fp9.eval 131 (by omega)).trans (show _ = Value.pointer (some ⟨xb, 0, none⟩) from by simp [upd, e0, e4])]; simp [go_sem]) fun Fp10 => ?_
      refine lyp Fp10 rfl H3 rfl (by omega) (want_yes Fp10 rfl (e := 129) rfl (by omega) (show _ = Value.bool true from by simp [upd, e0, e4])) (v := Value.pointer (some ⟨xb, 6, none⟩)) (fun wr hwr => by simp only [execOp, (Fp10.eval 132 (by omega)).trans (show _ = Value.pointer (some ⟨xb, 0, none⟩) from by simp [upd, e0, e4])]; simp [go_sem]) fun Fp11 => ?_
      refine lyp Fp11 rfl H3 rfl (by omega) (want_yes Fp11 rfl (e := 129) rfl (by omega) (show _ = Value.bool true from by simp [upd, e0, e4])) (v := Value.slice (some ⟨sg, 0, none⟩) sn sc) (fun wr hwr => by simp only [execOp, (Fp11.eval 133 (by omega)).trans (show _ = Value.pointer (some ⟨xb, 6, none⟩) from by simp [upd, e0, e4])]; simp [go_sem, hwr.1]) fun Fp12 => ?_
      refine lyp Fp12 rfl H3 rfl (by omega) (want_yes Fp12 rfl (e := 129) rfl (by omega) (show _ = Value.bool true from by simp [upd, e0, e4])) (v := Value.pointer (some ⟨mb, 2, none⟩)) (fun wr hwr => by simp only [execOp, (Fp12.eval 4 (by omega)).trans (show _ = Value.pointer (some ⟨mb, 0, none⟩) from by simp [upd, e0, e4])]; simp [go_sem]) fun Fp13 => ?_
      refine lyp Fp13 rfl H3 rfl (by omega) (want_yes Fp13 rfl (e := 129) rfl (by omega) (show _ = Value.bool true from by simp [upd, e0, e4])) (v := Value.int .i64 aa) (fun wr hwr => by simp only [execOp, (Fp13.eval 135 (by omega)).trans (show _ = Value.pointer (some ⟨mb, 2, none⟩) from by simp [upd, e0, e4])]; simp [go_sem, hwr.2.1]) fun Fp14 => ?_
      refine lyp Fp14 rfl H3 rfl (by omega) (want_yes Fp14 rfl (e := 129) rfl (by omega) (show _ = Value.bool true from by simp [upd, e0, e4])) (v := Value.pointer (some ⟨xb, 0, none⟩)) (fun wr hwr => by simp only [execOp, (Fp14.eval 0 (by omega)).trans (show _ = Value.pointer (some ⟨xb, 0, none⟩) from by simp [upd, e0, e4])]; first | rfl | simp [go_sem]) fun Fp15 => ?_
      refine lyp Fp15 rfl H3 rfl (by omega) (want_yes Fp15 rfl (e := 129) rfl (by omega) (show _ = Value.bool true from by simp [upd, e0, e4])) (v := Value.pointer (some ⟨xb, 0, none⟩)) (fun wr hwr => by simp only [execOp, (Fp15.eval 137 (by omega)).trans (show _ = Value.pointer (some ⟨xb, 0, none⟩) from by simp [upd, e0, e4])]; simp [go_sem]) fun Fp16 => ?_
      refine lyp Fp16 rfl H3 rfl (by omega) (want_yes Fp16 rfl (e := 129) rfl (by omega) (show _ = Value.bool true from by simp [upd, e0, e4])) (v := Value.pointer (some ⟨xb, 6, none⟩)) (fun wr hwr => by simp only [execOp, (Fp16.eval 138 (by omega)).trans (show _ = Value.pointer (some ⟨xb, 0, none⟩) from by simp [upd, e0, e4])]; simp [go_sem]) fun Fp17 => ?_
      refine lyp Fp17 rfl H3 rfl (by omega) (want_yes Fp17 rfl (e := 129) rfl (by omega) (show _ = Value.bool true from by simp [upd, e0, e4])) (v := Value.slice (some ⟨sg, 0, none⟩) sn sc) (fun wr hwr => by simp only [execOp, (Fp17.eval 139 (by omega)).trans (show _ = Value.pointer (some ⟨xb, 6, none⟩) from by simp [upd, e0, e4])]; simp [go_sem, hwr.1]) fun Fp18 => ?_
      refine lyp Fp18 rfl H3 rfl (by omega) (want_yes Fp18 rfl (e := 129) rfl (by omega) (show _ = Value.bool true from by simp [upd, e0, e4])) (v := Value.int .i64 (sn : Nat)) (fun wr hwr => by simp only [execOp, resolve, invoke, builtin, List.map_toArray, List.map_cons, List.map_nil, (Fp18.eval 140 (by omega)).trans (show _ = Value.slice (some ⟨sg, 0, none⟩) sn sc from by simp [upd, e0, e4])]; simp [go_sem, Builtin.len_, Builtin.lenOf]) fun Fp19 => ?_
      refine lyp Fp19 rfl H3 rfl (by omega) (want_yes Fp19 rfl (e := 129) rfl (by omega) (show _ = Value.bool true from by simp [upd, e0, e4])) (v := Value.int .i64 ((sn : Int) - 1)) (fun wr hwr => by simp only [execOp, (Fp19.eval 141 (by omega)).trans (show _ = Value.int .i64 (sn : Nat) from by simp [upd, e0, e4])]; simp [go_sem, Act.eval, show IntKind.i64.wrap ((sn : Int) - 1) = (sn : Int) - 1 from by rw [IntKind.wrap_i64]; omega]) fun Fp20 => ?_
      refine lcp Fp20 rfl H3 rfl (by omega) (want_yes Fp20 rfl (e := 129) rfl (by omega) (show _ = Value.bool true from by simp [upd, e0, e4])) (g := 15) (args := #[Value.int .i64 aa, Value.int .i64 0, Value.int .i64 ((sn : Int) - 1)]) (by simp only [execOp, resolve, invoke, List.map_toArray, List.map_cons, List.map_nil, (Fp20.eval 136 (by omega)).trans (show _ = Value.int .i64 aa from by simp [upd, e0, e4]), (Fp20.eval 142 (by omega)).trans (show _ = Value.int .i64 ((sn : Int) - 1) from by simp [upd, e0, e4])]; simp [go_sem, Act.eval]) HWA.out ?_
      rintro e w2 ⟨rfl, rfl⟩
      refine ⟨_, rfl, fun Fp21 => ?_⟩
      refine lyp Fp21 rfl H3 rfl (by omega) (want_yes Fp21 rfl (e := 129) rfl (by omega) (show _ = Value.bool true from by simp [upd, e0, e4])) (v := Value.pointer (some ⟨sg, p * 5, none⟩)) (fun wr hwr => by simp only [execOp, (Fp21.eval 134 (by omega)).trans (show _ = Value.slice (some ⟨sg, 0, none⟩) sn sc from by simp [upd, e0, e4]), (Fp21.eval 143 (by omega)).trans (show _ = Value.int .i64 (p : Int) from by simp [upd, e0, e4])]; simp only [Sem.run_bind, Sem.run_pure, Result.andThen_ok, idx_run 33 45 5 Try.underlying33 (by kernel_rfl) _ sg 0 sn sc p hpl, Nat.zero_add, Nat.mul_one]; try rfl) fun Fp22 => ?_
      refine lyp Fp22 rfl H3 rfl (by omega) (want_yes Fp22 rfl (e := 129) rfl (by omega) (show _ = Value.bool true from by simp [upd, e0, e4])) (v := Value.agg #[.int .i64 3, .int .i64 5, .int .i64 g.q, .int .i64 g.a, g.d.v]) (fun wr hwr => by simp only [execOp, (Fp22.eval 144 (by omega)).trans (show _ = Value.pointer (some ⟨sg, p * 5, none⟩) from by simp [upd, e0, e4])]; simp only [Sem.run_bind, Sem.run_pure, Result.andThen_ok, load5at hwr.2.2]; try rfl) fun Fp23 => ?_
      refine lcp Fp23 rfl H3 rfl (by omega) (want_yes Fp23 rfl (e := 129) rfl (by omega) (show _ = Value.bool true from by simp [upd, e0, e4])) (g := 33) (args := #[Value.pointer (some ⟨xb, 0, none⟩), Value.agg #[.int .i64 3, .int .i64 5, .int .i64 g.q, .int .i64 g.a, g.d.v]]) (by simp only [execOp, resolve, invoke, List.map_toArray, List.map_cons, List.map_nil, (Fp23.eval 130 (by omega)).trans (show _ = Value.pointer (some ⟨xb, 0, none⟩) from by simp [upd, e0, e4]), (Fp23.eval 145 (by omega)).trans (show _ = Value.agg #[.int .i64 3, .int .i64 5, .int .i64 g.q, .int .i64 g.a, g.d.v] from by simp [upd, e0, e4])]; simp [go_sem, Act.eval]) HCO.out ?_
      rintro e w5 ⟨rfl, uv5, ds5, x5, col5, hte5, hL5, hch5, hcol5⟩
      refine ⟨_, rfl, fun Fp24 => ?_⟩
      have HC5 : (fun wz => wz.cell? ⟨xb, 6, none⟩ = some (Value.slice (some ⟨sg, 0, none⟩) sn sc) ∧ wz.cell? ⟨mb, 2, none⟩ = some (.int .i64 aa) ∧ wz.cell? ⟨sg, p * 5, none⟩ = some (.int .i64 3) ∧ wz.cell? ⟨sg, p * 5 + 1, none⟩ = some (.int .i64 5) ∧ wz.cell? ⟨sg, p * 5 + 2, none⟩ = some (.int .i64 g.q) ∧ wz.cell? ⟨sg, p * 5 + 3, none⟩ = some (.int .i64 g.a) ∧ wz.cell? ⟨sg, p * 5 + 4, none⟩ = some (g.d.v)) w5 := ⟨by rw [← HSV.out]; exact hL5.b.cell 6, HC5F.out w5 hch5⟩
      refine lyp Fp24 rfl HC5 rfl (by omega) (want_yes Fp24 rfl (e := 129) rfl (by omega) (show _ = Value.bool true from by simp [upd, e0, e4])) (v := Value.bool false) (fun wr hwr => by simp only [execOp, (Fp24.eval 146 (by omega)).trans (show _ = Value.bool true from by simp [upd, e0, e4])]; simp [go_sem, Act.eval]) fun Fp25 => ?_
      refine lyp Fp25 rfl HC5 rfl (by omega) (wanted_none rfl) (v := Value.bool false) (fun wr hwr => by simp only [execOp, (Fp25.eval 129 (by omega)).trans (show _ = Value.bool true from by simp [upd, e0, e4]), (Fp25.eval 147 (by omega)).trans (show _ = Value.bool false from by simp [upd, e0, e4])]; simp [go_sem, Act.eval]) fun Fp26 => ?_
      refine ⟨fun _ => HC5, ?_⟩
      refine hK _ _ ?_
      clear F0 Fp1 Fp2 Fp3 Fp4 Fp5 Fp6 Fp7 Fp8 Fp9 Fp10 Fp11 Fp12 Fp13 Fp14 Fp15 Fp16 Fp17 Fp18 Fp19 Fp20 Fp21 Fp22 Fp23 Fp24 Fp25 Fp26 e0 e4 H3 HC5
      simp only [Act.put, List.setIfInBounds_toArray, List.set_cons_succ, List.set_cons_zero]
      have HL3 : Hid (LNM L xb ((S.endX 1 uv5 x5).outO 0 ((S.e 0).out + ds5.length)) col5 w5) := hL5
      have HI3 : Hid (LInv ((S.endX 1 uv5 x5).outO 0 ((S.e 0).out + ds5.length)) win n (t + 1)) := ((HI.out.takes (i := 0) (by omega) uv5 HSEG.out hte5).1).later (Nat.le_succ t)
      have hchX : Chg (fun j => j = xb ∨ lown (S.e 1).lb (S.e 1).cb (S.e 1).mb (S.e 1).uv (S.e 1).x j) X w5 := Chg.undrew hch5
      have HBL : Hid (Below L w w5) := show Below _ _ _ from (HbX.out.mono HH.out.hL).trans (hchX.below HLX.out.hL (fun k hk => by
        rcases hk with q | q
        · rw [q]; exact HH.out.lo
        · exact ((HLX.out.em 1 (by omega)).lm.lt q).1))
      have d5 : w5.cell? ⟨wb, 1, none⟩ = some (.int .i64 (win 1 : Int)) := (hchX.blk HBw.out (fun a => by
        have h6 := HCW.out.1
        rcases a with a | a
        · rw [a] at h6
          have := HLX.out.cx
          omega
        · have := (HLX.out.ec 1 (by omega)).ce wb a
          omega)).cell 1
      have HKP : Hid (∀ k, k < w.heap.size → 8 ≤ col k → w5.heap[k]? = w.heap[k]?) := kp_of HbX.out hchX (fun k hk a => by
        rcases a with a | a
        · have h1 := HLX.out.cx
          rw [← a, HC1.out k hk] at h1
          omega
        · have h1 := (HLX.out.ec 1 (by omega)).ce k a
          rw [HC1.out k hk] at h1
          omega)
      have HZ9 : Hid (∀ k, k < w.heap.size → col5 k = col k) := fun k hk => (hcol5 k (Nat.lt_of_lt_of_le hk HbX.out.size)).trans (HC1.out k hk)
      clear hte5 hL5 hch5 hcol5 hchX HCF HC5F HCO HWA
      go_wp2_with fail
      refine Calls.mono (sound_1 w5 HL3.out HI3.out (by omega)) ?_
      rintro e w9 ⟨rfl, hb9⟩
      have HF9 : Hid (LNM L xb ((S.endX 1 uv5 x5).outO 0 ((S.e 0).out + ds5.length)) col5 w9) := HL3.out.more hb9
      have HB9 : Hid (Below L w w9) := HBL.out.trans (hb9.mono HL3.out.hL)
      have HK9 : Hid (∀ k, k < w.heap.size → 8 ≤ col k → w9.heap[k]? = w.heap[k]?) := fun k hk h8 => (hb9.block k (Nat.lt_of_lt_of_le hk HBL.out.size)).trans (HKP.out k hk h8)
      clear hb9
      go_wp2_with fail
      go_ret
      exact ⟨rfl, _, _, HF9.out, HI3.out, HSN.out, HB9.out, HK9.out, HZ9.out⟩
    · clear hi
      have hf : g.f = 5 := e1
      have htt : g.t = 3 := e2
      have hcell : ∀ f u, f < 5 → g.row[f]? = some u → X.cell? ⟨sg, p * 5 + f, none⟩ = some u := fun f u hf hu => hscl _ _ (by rw [flatG, flat_at Sgm.row 5 (fun _ => rfl) S.sent p f g hg hf]; exact hu)
      have HCF : Hid (X.cell? ⟨xb, 6, none⟩ = some (Value.slice (some ⟨sg, 0, none⟩) sn sc) ∧ X.cell? ⟨mb, 2, none⟩ = some (.int .i64 aa) ∧ X.cell? ⟨sg, p * 5, none⟩ = some (.int .i64 5) ∧ X.cell? ⟨sg, p * 5 + 1, none⟩ = some (.int .i64 3) ∧ X.cell? ⟨sg, p * 5 + 2, none⟩ = some (.int .i64 g.q) ∧ X.cell? ⟨sg, p * 5 + 3, none⟩ = some (.int .i64 g.a) ∧ X.cell? ⟨sg, p * 5 + 4, none⟩ = some g.d.v) := ⟨by rw [← hsg]; exact c6, HBm.out.cell 2, hcell 0 _ (by omega) (by rw [← hf]; rfl), hcell 1 _ (by omega) (by rw [← htt]; rfl), hcell 2 _ (by omega) rfl, hcell 3 _ (by omega) rfl, hcell 4 _ (by omega) rfl⟩
      have HC5F : Hid (∀ w5, Chg (fun j => j = xb ∨ lown (S.e 0).lb (S.e 0).cb (S.e 0).mb (S.e 0).uv (S.e 0).x j) X.drew w5 → w5.cell? ⟨mb, 2, none⟩ = some (.int .i64 aa) ∧ w5.cell? ⟨sg, p * 5, none⟩ = some (.int .i64 5) ∧ w5.cell? ⟨sg, p * 5 + 1, none⟩ = some (.int .i64 3) ∧ w5.cell? ⟨sg, p * 5 + 2, none⟩ = some (.int .i64 g.q) ∧ w5.cell? ⟨sg, p * 5 + 3, none⟩ = some (.int .i64 g.a) ∧ w5.cell? ⟨sg, p * 5 + 4, none⟩ = some g.d.v) := fun w5 hc => by
        obtain ⟨a1, a2, a3, a4, a5, a6, a7⟩ := HCF.out
        have hb := hc.block sg hsgl (fun a => by
          have h6 := HLX.out.cs sg (by rw [HSV.out, hsg]; rfl)
          rcases a with a | a
          · rw [a] at h6
            have := HLX.out.cx
            omega
          · have := (HLX.out.ec 0 (by omega)).ce sg a
            omega)
        have hm := hc.block mb HBm.out.lt (fun a => by
          have h6 := HCW.out.2
          rcases a with a | a
          · rw [a] at h6
            have := HLX.out.cx
            omega
          · have := (HLX.out.ec 0 (by omega)).ce mb a
            omega)
        exact ⟨(World.cell?_of_block (w := X) (a := ⟨mb, 2, none⟩) hm).trans a2, (World.cell?_of_block (w := X) (a := ⟨sg, p * 5, none⟩) hb).trans a3, (World.cell?_of_block (w := X) (a := ⟨sg, p * 5 + 1, none⟩) hb).trans a4, (World.cell?_of_block (w := X) (a := ⟨sg, p * 5 + 2, none⟩) hb).trans a5, (World.cell?_of_block (w := X) (a := ⟨sg, p * 5 + 3, none⟩) hb).trans a6, (World.cell?_of_block (w := X) (a := ⟨sg, p * 5 + 4, none⟩) hb).trans a7⟩
      have HCO : Hid (Calls Try.prog 33 #[.pointer (some ⟨xb, 0, none⟩), .agg #[.int .i64 5, .int .i64 3, .int .i64 g.q, .int .i64 g.a, g.d.v]] X.drew _) := comes_1 g.q g.a g.d.v g.d.s X.drew (HLX.out.more (Below.refl _ _).drew) HI.out (by omega) (own_by (HLX.out.sd g (List.mem_of_getElem? hg))) (HI.out.segLen (i := 1) (by omega) hseg) hseg
      have HSEG : Hid (SegOk ((S.e 1).inn.map Dv.s) ((S.e 1).inn.length - (S.e 1).x.box.length) (S.e 0).out g.q g.a g.d.s) := hseg
      rw [hsg] at HSV
      clear e1 e2 hseg hf htt hcell hscl hg hsgl hsg c6
      rename_i K hK
      try rw [show ∀ a : Act, a.put none undef = a from fun _ => rfl]
      refine wp_region_mix (fun wz => wz.cell? ⟨xb, 6, none⟩ = some (Value.slice (some ⟨sg, 0, none⟩) sn sc) ∧ wz.cell? ⟨mb, 2, none⟩ = some (.int .i64 aa) ∧ wz.cell? ⟨sg, p * 5, none⟩ = some (.int .i64 5) ∧ wz.cell? ⟨sg, p * 5 + 1, none⟩ = some (.int .i64 3) ∧ wz.cell? ⟨sg, p * 5 + 2, none⟩ = some (.int .i64 g.q) ∧ wz.cell? ⟨sg, p * 5 + 3, none⟩ = some (.int .i64 g.a) ∧ wz.cell? ⟨sg, p * 5 + 4, none⟩ = some (g.d.v)) (fun i => i == 20 || i == 23 || i == 99) 99 (by kernel_rfl) rfl (by kernel_rfl) (by kernel_rfl) (by kernel_rfl) ?_
      refine withFrP (N := 155) rfl ?_
      intro f0 F0 hff
      have e0 : f0 0 = Value.pointer (some ⟨xb, 0, none⟩) := hff 0
      have e4 : f0 4 = Value.pointer (some ⟨mb, 0, none⟩) := hff 4
      clear hff
      have H3 : (fun wz => wz.cell? ⟨xb, 6, none⟩ = some (Value.slice (some ⟨sg, 0, none⟩) sn sc) ∧ wz.cell? ⟨mb, 2, none⟩ = some (.int .i64 aa) ∧ wz.cell? ⟨sg, p * 5, none⟩ = some (.int .i64 5) ∧ wz.cell? ⟨sg, p * 5 + 1, none⟩ = some (.int .i64 3) ∧ wz.cell? ⟨sg, p * 5 + 2, none⟩ = some (.int .i64 g.q) ∧ wz.cell? ⟨sg, p * 5 + 3, none⟩ = some (.int .i64 g.a) ∧ wz.cell? ⟨sg, p * 5 + 4, none⟩ = some (g.d.v)) (({ X with drawn := X.drawn + 1 } : World)) := HCF.out
      refine lyp F0 rfl H3 rfl (by omega) (wanted_none rfl) (v := Value.pointer (some ⟨xb, 0, none⟩)) (fun wr hwr => by simp only [execOp, (F0.eval 0 (by omega)).trans (show _ = Value.pointer (some ⟨xb, 0, none⟩) from by simp [upd, e0, e4])]; first | rfl | simp [go_sem]) fun Fp1 => ?_
      refine lyp Fp1 rfl H3 rfl (by omega) (wanted_none rfl) (v := Value.pointer (some ⟨xb, 0, none⟩)) (fun wr hwr => by simp only [execOp, (Fp1.eval 123 (by omega)).trans (show _ = Value.pointer (some ⟨xb, 0, none⟩) from by simp [upd, e0, e4])]; simp [go_sem]) fun Fp2 => ?_
      refine lyp Fp2 rfl H3 rfl (by omega) (wanted_none rfl) (v := Value.pointer (some ⟨xb, 6, none⟩)) (fun wr hwr => by simp only [execOp, (Fp2.eval 124 (by omega)).trans (show _ = Value.pointer (some ⟨xb, 0, none⟩) from by simp [upd, e0, e4])]; simp [go_sem]) fun Fp3 => ?_
      refine lyp Fp3 rfl H3 rfl (by omega) (wanted_none rfl) (v := Value.slice (some ⟨sg, 0, none⟩) sn sc) (fun wr hwr => by simp only [execOp, (Fp3.eval 125 (by omega)).trans (show _ = Value.pointer (some ⟨xb, 6, none⟩) from by simp [upd, e0, e4])]; simp [go_sem, hwr.1]) fun Fp4 => ?_
      refine lyp Fp4 rfl H3 rfl (by omega) (wanted_none rfl) (v := Value.int .i64 (sn : Nat)) (fun wr hwr => by simp only [execOp, resolve, invoke, builtin, List.map_toArray, List.map_cons, List.map_nil, (Fp4.eval 126 (by omega)).trans (show _ = Value.slice (some ⟨sg, 0, none⟩) sn sc from by simp [upd, e0, e4])]; simp [go_sem, Builtin.len_, Builtin.lenOf]) fun Fp5 => ?_
      refine lyp Fp5 rfl H3 rfl (by omega) (wanted_none rfl) (v := Value.bool true) (fun wr hwr => by simp only [execOp, (Fp5.eval 127 (by omega)).trans (show _ = Value.int .i64 (sn : Nat) from by simp [upd, e0, e4])]; simp [go_sem, Act.eval]; omega) fun Fp6 => ?_
      refine lyp Fp6 rfl H3 rfl (by omega) (wanted_none rfl) (v := Value.bool true) (fun wr hwr => by simp only [execOp, (Fp6.eval 128 (by omega)).trans (show _ = Value.bool true from by simp [upd, e0, e4])]; first | rfl | simp [go_sem]) fun Fp7 => ?_
      refine lyp Fp7 rfl H3 rfl (by omega) (want_yes Fp7 rfl (e := 129) rfl (by omega) (show _ = Value.bool true from by simp [upd, e0, e4])) (v := Value.pointer (some ⟨xb, 0, none⟩)) (fun wr hwr => by simp only [execOp, (Fp7.eval 0 (by omega)).trans (show _ = Value.pointer (some ⟨xb, 0, none⟩) from by simp [upd, e0, e4])]; first | rfl | simp [go_sem]) fun Fp8 => ?_
      refine lyp Fp8 rfl H3 rfl (by omega) (want_yes Fp8 rfl (e := 129) rfl (by omega) (show _ = Value.bool true from by simp [upd, e0, e4])) (v := Value.pointer (some ⟨xb, 0, none⟩)) (fun wr hwr => by simp only [execOp, (Fp8.eval 0 (by omega)).trans (show _ = Value.pointer (some ⟨xb, 0, none⟩) from by simp [upd, e0, e4])]; first | rfl | simp [go_sem]) fun Fp9 => ?_
      refine lyp Fp9 rfl H3 rfl (by omega) (want_yes Fp9 rfl (e := 129) rfl (by omega) (show _ = Value.bool true from by simp [upd, e0, e4])) (v := Value.pointer (some ⟨xb, 0, none⟩)) (fun wr hwr => by simp only [execOp, (Fp9.eval 131 (by omega)).trans (show _ = Value.pointer (some ⟨xb, 0, none⟩) from by simp [upd, e0, e4])]; simp [go_sem]) fun Fp10 => ?_
      refine lyp Fp10 rfl H3 rfl (by omega) (want_yes Fp10 rfl (e := 129) rfl (by omega) (show _ = Value.bool true from by simp [upd, e0, e4])) (v := Value.pointer (some ⟨xb, 6, none⟩)) (fun wr hwr => by simp only [execOp, (Fp10.eval 132 (by omega)).trans (show _ = Value.pointer (some ⟨xb, 0, none⟩) from by simp [upd, e0, e4])]; simp [go_sem]) fun Fp11 => ?_
      refine lyp Fp11 rfl H3 rfl (by omega) (want_yes Fp11 rfl (e := 129) rfl (by omega) (show _ = Value.bool true from by simp [upd, e0, e4])) (v := Value.slice (some ⟨sg, 0, none⟩) sn sc) (fun wr hwr => by simp only [execOp, (Fp11.eval 133 (by omega)).trans (show _ = Value.pointer (some ⟨xb, 6, none⟩) from by simp [upd, e0, e4])]; simp [go_sem, hwr.1]) fun Fp12 => ?_
      refine lyp Fp12 rfl H3 rfl (by omega) (want_yes Fp12 rfl (e := 129) rfl (by omega) (show _ = Value.bool true from by simp [upd, e0, e4])) (v := Value.pointer (some ⟨mb, 2, none⟩)) (fun wr hwr => by simp only [execOp, (Fp12.eval 4 (by omega)).trans (show _ = Value.pointer (some ⟨mb, 0, none⟩) from by simp [upd, e0, e4])]; simp [go_sem]) fun Fp13 => ?_
      refine lyp Fp13 rfl H3 rfl (by omega) (want_yes Fp13 rfl (e := 129) rfl (by omega) (show _ = Value.bool true from by simp [upd, e0, e4])) (v := Value.int .i64 aa) (fun wr hwr => by simp only [execOp, (Fp13.eval 135 (by omega)).trans (show _ = Value.pointer (some ⟨mb, 2, none⟩) from by simp [upd, e0, e4])]; simp [go_sem, hwr.2.1]) fun Fp14 => ?_
      refine lyp Fp14 rfl H3 rfl (by omega) (want_yes Fp14 rfl (e := 129) rfl (by omega) (show _ = Value.bool true from by simp [upd, e0, e4])) (v := Value.pointer (some ⟨xb, 0, none⟩)) (fun wr hwr => by simp only [execOp, (Fp14.eval 0 (by omega)).trans (show _ = Value.pointer (some ⟨xb, 0, none⟩) from by simp [upd, e0, e4])]; first | rfl | simp [go_sem]) fun Fp15 => ?_
      refine lyp Fp15 rfl H3 rfl (by omega) (want_yes Fp15 rfl (e := 129) rfl (by omega) (show _ = Value.bool true from by simp [upd, e0, e4])) (v := Value.pointer (some ⟨xb, 0, none⟩)) (fun wr hwr => by simp only [execOp, (Fp15.eval 137 (by omega)).trans (show _ = Value.pointer (some ⟨xb, 0, none⟩) from by simp [upd, e0, e4])]; simp [go_sem]) fun Fp16 => ?_
      refine lyp Fp16 rfl H3 rfl (by omega) (want_yes Fp16 rfl (e := 129) rfl (by omega) (show _ = Value.bool true from by simp [upd, e0, e4])) (v := Value.pointer (some ⟨xb, 6, none⟩)) (fun wr hwr => by simp only [execOp, (Fp16.eval 138 (by omega)).trans (show _ = Value.pointer (some ⟨xb, 0, none⟩) from by simp [upd, e0, e4])]; simp [go_sem]) fun Fp17 => ?_
      refine lyp Fp17 rfl H3 rfl (by omega) (want_yes Fp17 rfl (e := 129) rfl (by omega) (show _ = Value.bool true from by simp [upd, e0, e4])) (v := Value.slice (some ⟨sg, 0, none⟩) sn sc) (fun wr hwr => by simp only [execOp, (Fp17.eval 139 (by omega)).trans (show _ = Value.pointer (some ⟨xb, 6, none⟩) from by simp [upd, e0, e4])]; simp [go_sem, hwr.1]) fun Fp18 => ?_
      refine lyp Fp18 rfl H3 rfl (by omega) (want_yes Fp18 rfl (e := 129) rfl (by omega) (show _ = Value.bool true from by simp [upd, e0, e4])) (v := Value.int .i64 (sn : Nat)) (fun wr hwr => by simp only [execOp, resolve, invoke, builtin, List.map_toArray, List.map_cons, List.map_nil, (Fp18.eval 140 (by omega)).trans (show _ = Value.slice (some ⟨sg, 0, none⟩) sn sc from by simp [upd, e0, e4])]; simp [go_sem, Builtin.len_, Builtin.lenOf]) fun Fp19 => ?_
      refine lyp Fp19 rfl H3 rfl (by omega) (want_yes Fp19 rfl (e := 129) rfl (by omega) (show _ = Value.bool true from by simp [upd, e0, e4])) (v := Value.int .i64 ((sn : Int) - 1)) (fun wr hwr => by simp only [execOp, (Fp19.eval 141 (by omega)).trans (show _ = Value.int .i64 (sn : Nat) from by simp [upd, e0, e4])]; simp [go_sem, Act.eval, show IntKind.i64.wrap ((sn : Int) - 1) = (sn : Int) - 1 from by rw [IntKind.wrap_i64]; omega]) fun Fp20 => ?_
      refine lcp Fp20 rfl H3 rfl (by omega) (want_yes Fp20 rfl (e := 129) rfl (by omega) (show _ = Value.bool true from by simp [upd, e0, e4])) (g := 15) (args := #[Value.int .i64 aa, Value.int .i64 0, Value.int .i64 ((sn : Int) - 1)]) (by simp only [execOp, resolve, invoke, List.map_toArray, List.map_cons, List.map_nil, (Fp20.eval 136 (by omega)).trans (show _ = Value.int .i64 aa from by simp [upd, e0, e4]), (Fp20.eval 142 (by omega)).trans (show _ = Value.int .i64 ((sn : Int) - 1) from by simp [upd, e0, e4])]; simp [go_sem, Act.eval]) HWA.out ?_
      rintro e w2 ⟨rfl, rfl⟩
      refine ⟨_, rfl, fun Fp21 => ?_⟩
      refine lyp Fp21 rfl H3 rfl (by omega) (want_yes Fp21 rfl (e := 129) rfl (by omega) (show _ = Value.bool true from by simp [upd, e0, e4])) (v := Value.pointer (some ⟨sg, p * 5, none⟩)) (fun wr hwr => by simp only [execOp, (Fp21.eval 134 (by omega)).trans (show _ = Value.slice (some ⟨sg, 0, none⟩) sn sc from by simp [upd, e0, e4]), (Fp21.eval 143 (by omega)).trans (show _ = Value.int .i64 (p : Int) from by simp [upd, e0, e4])]; simp only [Sem.run_bind, Sem.run_pure, Result.andThen_ok, idx_run 33 45 5 Try.underlying33 (by kernel_rfl) _ sg 0 sn sc p hpl, Nat.zero_add, Nat.mul_one]; try rfl) fun Fp22 => ?_
      refine lyp Fp22 rfl H3 rfl (by omega) (want_yes Fp22 rfl (e := 129) rfl (by omega) (show _ = Value.bool true from by simp [upd, e0, e4])) (v := Value.agg #[.int .i64 5, .int .i64 3, .int .i64 g.q, .int .i64 g.a, g.d.v]) (fun wr hwr => by simp only [execOp, (Fp22.eval 144 (by omega)).trans (show _ = Value.pointer (some ⟨sg, p * 5, none⟩) from by simp [upd, e0, e4])]; simp only [Sem.run_bind, Sem.run_pure, Result.andThen_ok, load5at hwr.2.2]; try rfl) fun Fp23 => ?_
      refine lcp Fp23 rfl H3 rfl (by omega) (want_yes Fp23 rfl (e := 129) rfl (by omega) (show _ = Value.bool true from by simp [upd, e0, e4])) (g := 33) (args := #[Value.pointer (some ⟨xb, 0, none⟩), Value.agg #[.int .i64 5, .int .i64 3, .int .i64 g.q, .int .i64 g.a, g.d.v]]) (by simp only [execOp, resolve, invoke, List.map_toArray, List.map_cons, List.map_nil, (Fp23.eval 130 (by omega)).trans (show _ = Value.pointer (some ⟨xb, 0, none⟩) from by simp [upd, e0, e4]), (Fp23.eval 145 (by omega)).trans (show _ = Value.agg #[.int .i64 5, .int .i64 3, .int .i64 g.q, .int .i64 g.a, g.d.v] from by simp [upd, e0, e4])]; simp [go_sem, Act.eval]) HCO.out ?_
      rintro e w5 ⟨rfl, uv5, ds5, x5, col5, hte5, hL5, hch5, hcol5⟩
      refine ⟨_, rfl, fun Fp24 => ?_⟩
      have HC5 : (fun wz => wz.cell? ⟨xb, 6, none⟩ = some (Value.slice (some ⟨sg, 0, none⟩) sn sc) ∧ wz.cell? ⟨mb, 2, none⟩ = some (.int .i64 aa) ∧ wz.cell? ⟨sg, p * 5, none⟩ = some (.int .i64 5) ∧ wz.cell? ⟨sg, p * 5 + 1, none⟩ = some (.int .i64 3) ∧ wz.cell? ⟨sg, p * 5 + 2, none⟩ = some (.int .i64 g.q) ∧ wz.cell? ⟨sg, p * 5 + 3, none⟩ = some (.int .i64 g.a) ∧ wz.cell? ⟨sg, p * 5 + 4, none⟩ = some (g.d.v)) w5 := ⟨by rw [← HSV.out]; exact hL5.b.cell 6, HC5F.out w5 hch5⟩
      refine lyp Fp24 rfl HC5 rfl (by omega) (want_yes Fp24 rfl (e := 129) rfl (by omega) (show _ = Value.bool true from by simp [upd, e0, e4])) (v := Value.bool false) (fun wr hwr => by simp only [execOp, (Fp24.eval 146 (by omega)).trans (show _ = Value.bool true from by simp [upd, e0, e4])]; simp [go_sem, Act.eval]) fun Fp25 => ?_
      refine lyp Fp25 rfl HC5 rfl (by omega) (wanted_none rfl) (v := Value.bool false) (fun wr hwr => by simp only [execOp, (Fp25.eval 129 (by omega)).trans (show _ = Value.bool true from by simp [upd, e0, e4]), (Fp25.eval 147 (by omega)).trans (show _ = Value.bool false from by simp [upd, e0, e4])]; simp [go_sem, Act.eval]) fun Fp26 => ?_
      refine ⟨fun _ => HC5, ?_⟩
      refine hK _ _ ?_
      clear F0 Fp1 Fp2 Fp3 Fp4 Fp5 Fp6 Fp7 Fp8 Fp9 Fp10 Fp11 Fp12 Fp13 Fp14 Fp15 Fp16 Fp17 Fp18 Fp19 Fp20 Fp21 Fp22 Fp23 Fp24 Fp25 Fp26 e0 e4 H3 HC5
      simp only [Act.put, List.setIfInBounds_toArray, List.set_cons_succ, List.set_cons_zero]
      have HL3 : Hid (LNM L xb ((S.endX 0 uv5 x5).outO 1 ((S.e 1).out + ds5.length)) col5 w5) := hL5
      have HI3 : Hid (LInv ((S.endX 0 uv5 x5).outO 1 ((S.e 1).out + ds5.length)) win n (t + 1)) := ((HI.out.takes (i := 1) (by omega) uv5 HSEG.out hte5).1).later (Nat.le_succ t)
      have hchX : Chg (fun j => j = xb ∨ lown (S.e 0).lb (S.e 0).cb (S.e 0).mb (S.e 0).uv (S.e 0).x j) X w5 := Chg.undrew hch5
      have HBL : Hid (Below L w w5) := show Below _ _ _ from (HbX.out.mono HH.out.hL).trans (hchX.below HLX.out.hL (fun k hk => by
        rcases hk with q | q
        · rw [q]; exact HH.out.lo
        · exact ((HLX.out.em 0 (by omega)).lm.lt q).1))
      have d5 : w5.cell? ⟨wb, 1, none⟩ = some (.int .i64 (win 1 : Int)) := (hchX.blk HBw.out (fun a => by
        have h6 := HCW.out.1
        rcases a with a | a
        · rw [a] at h6
          have := HLX.out.cx
          omega
        · have := (HLX.out.ec 0 (by omega)).ce wb a
          omega)).cell 1
      have HKP : Hid (∀ k, k < w.heap.size → 8 ≤ col k → w5.heap[k]? = w.heap[k]?) := kp_of HbX.out hchX (fun k hk a => by
        rcases a with a | a
        · have h1 := HLX.out.cx
          rw [← a, HC1.out k hk] at h1
          omega
        · have h1 := (HLX.out.ec 0 (by omega)).ce k a
          rw [HC1.out k hk] at h1
          omega)
      have HZ9 : Hid (∀ k, k < w.heap.size → col5 k = col k) := fun k hk => (hcol5 k (Nat.lt_of_lt_of_le hk HbX.out.size)).trans (HC1.out k hk)
      clear hte5 hL5 hch5 hcol5 hchX HCF HC5F HCO HWA
      go_wp2_with fail
      refine Calls.mono (sound_1 w5 HL3.out HI3.out (by omega)) ?_
      rintro e w9 ⟨rfl, hb9⟩
      have HF9 : Hid (LNM L xb ((S.endX 0 uv5 x5).outO 1 ((S.e 1).out + ds5.length)) col5 w9) := HL3.out.more hb9
      have HB9 : Hid (Below L w w9) := HBL.out.trans (hb9.mono HL3.out.hL)
      have HK9 : Hid (∀ k, k < w.heap.size → 8 ≤ col k → w9.heap[k]? = w.heap[k]?) := fun k hk h8 => (hb9.block k (Nat.lt_of_lt_of_le hk HBL.out.size)).trans (HKP.out k hk h8)
      clear hb9
      go_wp2_with fail
      go_ret
      exact ⟨rfl, _, _, HF9.out, HI3.out, HSN.out, HB9.out, HK9.out, HZ9.out⟩
end Go.Proofs.Ytcjgicfmfjomgaa
