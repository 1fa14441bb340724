import Derived.Test.YtcjgicfmfjomgaaSp2
namespace Go.Proofs.Ytcjgicfmfjomgaa
open Go.RowKit Go.PlainAid Go.MapKept
set_option linter.unusedVariables false
set_option linter.unusedSimpArgs false
set_option maxRecDepth 100000 in
set_option maxHeartbeats 3200000 in
theorem step_01 {L xb n t : Nat} {S : Ln} {col : Nat → Nat} {win : Nat → Nat} (kd who aa : Int) (v : Value) (s : List UInt8) (w : World) (hkb : -9223372036854775808 ≤ kd ∧ kd ≤ 9223372036854775807) (hwb_ : -9223372036854775808 ≤ who ∧ who ≤ 9223372036854775807) (hab : -9223372036854775808 ≤ aa ∧ aa ≤ 9223372036854775807) (h : LNM L xb S col w) (hI : LInv S win n t) (ht : t + 1 ≤ 400) (hsn : S.sent.length ≤ 400) (hv : ∀ wz, Below L w wz → By wz v s) (hsl : s.length ≤ 140737488351232) (ewho : wl who 2 = 0) (ekd : wl kd 4 = 1) :
    Calls Try.prog 22 #[.pointer (some ⟨xb, 0, none⟩), .agg #[.int .i64 kd, .int .i64 who, .int .i64 aa, v], .agg #[.int .i64 (win 0 : Int), .int .i64 (win 1 : Int)]] w fun e w' => e = .returned (.bool true) ∧ ∃ S' col', LNM L xb S' col' w' ∧ LInv S' win n (t + 1) ∧ S'.sent.length ≤ 400 ∧ Below L w w' ∧ (∀ k, k < w.heap.size → 8 ≤ col k → w'.heap[k]? = w.heap[k]?) ∧ ∀ k, k < w.heap.size → col' k = col k := by
  obtain ⟨vo, vn, vc, hvv, hvn, _⟩ := id (hv w (Below.refl _ _))
  subst hvv
  obtain ⟨X, hX⟩ : ∃ X, X = (w.alloc (.cells #[.int .i64 kd, .int .i64 who, .int .i64 aa, .slice vo vn vc] 54)).alloc (.cells #[.int .i64 (win 0 : Int), .int .i64 (win 1 : Int)] 51) := ⟨_, rfl⟩
  obtain ⟨mb, hmb⟩ : ∃ mb, mb = w.heap.size := ⟨_, rfl⟩
  obtain ⟨wb, hwb⟩ : ∃ wb, wb = w.heap.size + 1 := ⟨_, rfl⟩
  have hb1 : Below w.heap.size w (w.alloc (.cells #[.int .i64 kd, .int .i64 who, .int .i64 aa, .slice vo vn vc] 54)) := (Below.refl _ _).alloc (Nat.le_refl _) _
  have hbX : Below w.heap.size w X := by rw [hX]; exact hb1.alloc hb1.size _
  have hBm : Blk X mb #[.int .i64 kd, .int .i64 who, .int .i64 aa, .slice vo vn vc] 54 := by
    rw [hX, hmb]
    exact (Below.heap_alloc _ _ _ (by simp)).trans (heap_alloc_new w _)
  have hBw : Blk X wb #[.int .i64 (win 0 : Int), .int .i64 (win 1 : Int)] 51 := by
    have := heap_alloc_new (w.alloc (.cells #[.int .i64 kd, .int .i64 who, .int .i64 aa, .slice vo vn vc] 54)) (.cells #[.int .i64 (win 0 : Int), .int .i64 (win 1 : Int)] 51)
    rw [World.size_alloc] at this
    rw [hX, hwb]
    exact this
  have HWW : Hid (Calls Try.prog 15 #[.int .i64 who, .int .i64 0, .int .i64 1] X fun e w' => e = .returned (.int .i64 0) ∧ w' = X) := by
    have h0 := within_wl who 2 X hwb_ (by omega) (by omega)
    rw [ewho] at h0
    exact h0
  have HWK : Hid (Calls Try.prog 15 #[.int .i64 kd, .int .i64 0, .int .i64 3] X fun e w' => e = .returned (.int .i64 1) ∧ w' = X) := by
    have h0 := within_wl kd 4 X hkb (by omega) (by omega)
    rw [ekd] at h0
    exact h0
  obtain ⟨col1, hcol1⟩ : ∃ col1 : Nat → Nat, col1 = fun k => if k < w.heap.size then col k else 9 := ⟨_, rfl⟩
  have hLX := (h.recol (col' := col1) (fun k hk => by rw [hcol1]; exact if_pos hk)).more hbX
  have HCW : Hid (col1 wb = 9 ∧ col1 mb = 9) := show _ ∧ _ from by rw [hcol1, hwb, hmb]; exact ⟨if_neg (by omega), if_neg (by omega)⟩
  have HC1 : Hid (∀ k, k < w.heap.size → col1 k = col k) := fun k hk => by rw [hcol1]; exact if_pos hk
  clear hcol1
  have HH : Hid (LNM L xb S col w) := h
  have HLX : Hid (LNM L xb S col1 X) := hLX
  have HI : Hid (LInv S win n t) := hI
  have HbX : Hid (Below w.heap.size w X) := hbX
  have HBm : Hid (Blk X mb #[.int .i64 kd, .int .i64 who, .int .i64 aa, .slice vo vn vc] 54) := hBm
  have HBw : Hid (Blk X wb #[.int .i64 (win 0 : Int), .int .i64 (win 1 : Int)] 51) := hBw
  have HMB : Hid (mb = w.heap.size) := hmb
  have HWB : Hid (wb = w.heap.size + 1) := hwb
  have HSN : Hid (S.sent.length ≤ 400) := hsn
  have HBY : Hid (By X (.slice vo vn vc) s) := hv X (hbX.mono h.hL)
  have HVA : Hid (∀ wz, Below L w wz → By wz (.slice vo vn vc) s) := hv
  have HVN : Hid (s.length = vn) := hvn
  have hvnl : vn ≤ 140737488351232 := by omega
  have m0 : X.cell? ⟨mb, 0, none⟩ = some (.int .i64 kd) := hBm.cell 0
  have m1 : X.cell? ⟨mb, 1, none⟩ = some (.int .i64 who) := hBm.cell 1
  have c0 : X.cell? ⟨xb, 0, none⟩ = some (.pointer (some ⟨(S.e 0).lb, 0, none⟩)) := hLX.b.cell 0
  clear h hI hb1 hbX hBm hBw hLX hv hvn hsl hkb hwb_ ewho ekd hsn
  have HTI : Hid _ := tick_any X (HLX.out.em 0 (by omega)).lm (by have := (HI.out.ei 0 (by omega)).ag; have := HI.out.hn; omega)
  go_enter Try.func22, Try.ntmps22
  go_upto_region 1 with fail
  rw [← hX, ← hwb, ← hmb]
  clear hX hmb hwb
  go_wp2_with fail
  refine Calls.mono HWW.out ?_
  rintro e w' ⟨rfl, hw'⟩
  replace hw' := hw'.symm
  subst hw'
  go_wp2_with fail
  refine Calls.mono HWK.out ?_
  rintro e w' ⟨rfl, hw'⟩
  replace hw' := hw'.symm
  subst hw'
  clear HWW HWK m0 m1
  go_wp2_with fail
  refine Calls.mono HTI.out ?_
  rintro e w3 ⟨rfl, hM3, hs3⟩
  obtain ⟨col3, hL3, hcol3⟩ := HLX.out.endStep (i := 0) (by omega) hM3 hs3
  have HL3 : Hid (LNM L xb (S.endX 0 (S.e 0).uv (S.e 0).x.tick) col3 w3) := hL3
  have HI3 : Hid (LInv (S.endX 0 (S.e 0).uv (S.e 0).x.tick) win n (t + 1)) := (HI.out.tick (i := 0) (by omega) _).later (Nat.le_succ t)
  have HBL : Hid (Below L w w3) := show Below _ _ _ from (HbX.out.mono HH.out.hL).trans (hs3.1.below HLX.out.hL (fun k hk => ((HLX.out.em 0 (by omega)).lm.lt hk).1))
  have d5 : w3.cell? ⟨wb, 0, none⟩ = some (.int .i64 (win 0 : Int)) := (hs3.1.blk HBw.out (fun hk => by
    have h1 := ((HH.out.em 0 (by omega)).lm.lt hk).2
    have := HWB.out
    omega)).cell 0
  have HKP : Hid (∀ k, k < w.heap.size → 8 ≤ col k → w3.heap[k]? = w.heap[k]?) := kp_of HbX.out hs3.1 (fun k hk a => by have h1 := (HLX.out.ec 0 (by omega)).ce k a; rw [HC1.out k hk] at h1; omega)
  have HZ9 : Hid (∀ k, k < w.heap.size → col3 k = col k) := fun k hk => (hcol3 k (Nat.lt_of_lt_of_le hk HbX.out.size)).trans (HC1.out k hk)
  clear hM3 hs3 hL3 hcol3 HTI c0
  go_wp2_with fail
  refine Calls.mono (sound_0 w3 HL3.out HI3.out (by omega)) ?_
  rintro e w9 ⟨rfl, hb9⟩
  have HF9 : Hid (LNM L xb (S.endX 0 (S.e 0).uv (S.e 0).x.tick) col3 w9) := HL3.out.more hb9
  have HB9 : Hid (Below L w w9) := HBL.out.trans (hb9.mono HL3.out.hL)
  have HK9 : Hid (∀ k, k < w.heap.size → 8 ≤ col k → w9.heap[k]? = w.heap[k]?) := fun k hk h8 => (hb9.block k (Nat.lt_of_lt_of_le hk HBL.out.size)).trans (HKP.out k hk h8)
  clear hb9
  go_wp2_with fail
  go_ret
  exact ⟨rfl, _, _, HF9.out, HI3.out, HSN.out, HB9.out, HK9.out, HZ9.out⟩
end Go.Proofs.Ytcjgicfmfjomgaa
