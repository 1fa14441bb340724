import Derived.Test.YtcjgicfmfjomgaaSp2
namespace Go.Proofs.Ytcjgicfmfjomgaa
open Go.RowKit Go.PlainAid Go.MapKept
set_option linter.unusedVariables false
set_option linter.unusedSimpArgs false
set_option maxRecDepth 100000 in
set_option maxHeartbeats 3200000 in
theorem step_12 {L xb n t : Nat} {S : Ln} {col : Nat → Nat} {win : Nat → Nat} (kd who aa : Int) (v : Value) (s : List UInt8) (w : World) (hkb : -9223372036854775808 ≤ kd ∧ kd ≤ 9223372036854775807) (hwb_ : -9223372036854775808 ≤ who ∧ who ≤ 9223372036854775807) (hab : -9223372036854775808 ≤ aa ∧ aa ≤ 9223372036854775807) (h : LNM L xb S col w) (hI : LInv S win n t) (ht : t + 1 ≤ 400) (hsn : S.sent.length ≤ 400) (hv : ∀ wz, Below L w wz → By wz v s) (hsl : s.length ≤ 140737488351232) (ewho : wl who 2 = 1) (ekd : wl kd 4 = 2) :
    Calls Try.prog 22 #[.pointer (some ⟨xb, 0, none⟩), .agg #[.int .i64 kd, .int .i64 who, .int .i64 aa, v], .agg #[.int .i64 (win 0 : Int), .int .i64 (win 1 : Int)]] w fun e w' => e = .returned (.bool true) ∧ ∃ S' col', LNM L xb S' col' w' ∧ LInv S' win n (t + 1) ∧ S'.sent.length ≤ 400 ∧ Below L w w' ∧ (∀ k, k < w.heap.size → 8 ≤ col k → w'.heap[k]? = w.heap[k]?) ∧ ∀ k, k < w.heap.size → col' k = col k := by
  obtain ⟨vo, vn, vc, hvv, hvn, _⟩ := id (hv w (Below.refl _ _))
  subst hvv
  obtain ⟨X, hX⟩ : ∃ X, X = (w.alloc (.cells #[.int .i64 kd, .int .i64 who, .int .i64 aa, .slice vo vn vc] 54)).alloc (.cells #[.int .i64 (win 0 : Int), .int .i64 (win 1 : Int)] 51) := ⟨_, rfl⟩
  obtain ⟨mb, hmb⟩ : ∃ mb, mb = w.heap.size := ⟨_, rfl⟩
  obtain ⟨wb, hwb⟩ : ∃ wb, wb = w.heap.size + 1 := ⟨_, rfl⟩
  have hb1 : Below w.heap.size w (w.alloc (.cells #[.int .i64 kd, .int .i64 who, .int .i64 aa, .slice vo vn vc] 54)) := (Below.refl _ _).alloc (Nat.le_refl _) _
  have hbX : Below w.heap.size w X := by rw [hX]; exact hb1.alloc hb1.size _
  have hBm : Blk X mb #[.int .i64 kd, .int .i64 who, .int .i64 aa, .slice vo vn vc] 54 := by
    rw [hX, hmb]
    exact (Below.heap_alloc _ _ _ (by simp)).trans (heap_alloc_new w _)
  have hBw : Blk X wb #[.int .i64 (win 0 : Int), .int .i64 (win 1 : Int)] 51 := by
    have := heap_alloc_new (w.alloc (.cells #[.int .i64 kd, .int .i64 who, .int .i64 aa, .slice vo vn vc] 54)) (.cells #[.int .i64 (win 0 : Int), .int .i64 (win 1 : Int)] 51)
    rw [World.size_alloc] at this
    rw [hX, hwb]
    exact this
  have HWW : Hid (Calls Try.prog 15 #[.int .i64 who, .int .i64 0, .int .i64 1] X fun e w' => e = .returned (.int .i64 1) ∧ w' = X) := by
    have h0 := within_wl who 2 X hwb_ (by omega) (by omega)
    rw [ewho] at h0
    exact h0
  have HWK : Hid (Calls Try.prog 15 #[.int .i64 kd, .int .i64 0, .int .i64 3] X fun e w' => e = .returned (.int .i64 2) ∧ w' = X) := by
    have h0 := within_wl kd 4 X hkb (by omega) (by omega)
    rw [ekd] at h0
    exact h0
  obtain ⟨col1, hcol1⟩ : ∃ col1 : Nat → Nat, col1 = fun k => if k < w.heap.size then col k else 9 := ⟨_, rfl⟩
  have hLX := (h.recol (col' := col1) (fun k hk => by rw [hcol1]; exact if_pos hk)).more hbX
  have HCW : Hid (col1 wb = 9 ∧ col1 mb = 9) := show _ ∧ _ from by rw [hcol1, hwb, hmb]; exact ⟨if_neg (by omega), if_neg (by omega)⟩
  have HC1 : Hid (∀ k, k < w.heap.size → col1 k = col k) := fun k hk => by rw [hcol1]; exact if_pos hk
  clear hcol1
  have HH : Hid (LNM L xb S col w) := h
  have HLX : Hid (LNM L xb S col1 X) := hLX
  have HI : Hid (LInv S win n t) := hI
  have HbX : Hid (Below w.heap.size w X) := hbX
  have HBm : Hid (Blk X mb #[.int .i64 kd, .int .i64 who, .int .i64 aa, .slice vo vn vc] 54) := hBm
  have HBw : Hid (Blk X wb #[.int .i64 (win 0 : Int), .int .i64 (win 1 : Int)] 51) := hBw
  have HMB : Hid (mb = w.heap.size) := hmb
  have HWB : Hid (wb = w.heap.size + 1) := hwb
  have HSN : Hid (S.sent.length ≤ 400) := hsn
  have HBY : Hid (By X (.slice vo vn vc) s) := hv X (hbX.mono h.hL)
  have HVA : Hid (∀ wz, Below L w wz → By wz (.slice vo vn vc) s) := hv
  have HVN : Hid (s.length = vn) := hvn
  have hvnl : vn ≤ 140737488351232 := by omega
  have m0 : X.cell? ⟨mb, 0, none⟩ = some (.int .i64 kd) := hBm.cell 0
  have m1 : X.cell? ⟨mb, 1, none⟩ = some (.int .i64 who) := hBm.cell 1
  have c0 : X.cell? ⟨xb, 1, none⟩ = some (.pointer (some ⟨(S.e 1).lb, 0, none⟩)) := hLX.b.cell 1
  clear h hI hb1 hbX hBm hBw hLX hv hvn hsl hkb hwb_ ewho ekd hsn
  have HNM : Hid _ := HI.out.nums (i := 1) (by omega)
  have HOU : Hid _ := out_any X (HLX.out.em 1 (by omega)).lm (by have := HNM.out.1; omega) (by have := HNM.out.2.1; omega) (by have := HNM.out.2.2.1; omega) (by have := HNM.out.2.2.2.1; omega) (fun d hd => by have := HNM.out.2.2.2.2.1 d hd; omega)
  go_enter Try.func22, Try.ntmps22
  go_upto_region 1 with fail
  rw [← hX, ← hwb, ← hmb]
  clear hX hmb hwb
  go_wp2_with fail
  refine Calls.mono HWW.out ?_
  rintro e w' ⟨rfl, hw'⟩
  replace hw' := hw'.symm
  subst hw'
  go_wp2_with fail
  refine Calls.mono HWK.out ?_
  rintro e w' ⟨rfl, hw'⟩
  replace hw' := hw'.symm
  subst hw'
  clear HWW HWK m0 m1
  go_wp2_with fail
  refine Calls.mono HOU.out ?_
  rintro e w3 ⟨v3, uv3, l, rfl, hl3, hSL3, hM3, hs3, hdj3⟩
  obtain ⟨S2, hS2⟩ : ∃ S2, S2 = S.endX 1 uv3 ((S.e 1).x.calm.moved (S.e 1).x.box.length) := ⟨_, rfl⟩
  have hIo := HI.out.out (i := 1) (by omega) uv3
  have hgs : ∀ g ∈ l, g.f = meOf 1 ∧ g.t = meOf (1 - 1) ∧ SegOk ((S2.e 1).inn.map Dv.s) ((S2.e 1).inn.length - (S2.e 1).x.box.length) (S2.e (1 - 1)).out g.q g.a g.d.s := fun g hg => by
    have h1 := hIo.2 g (by rw [← hl3]; exact List.mem_map_of_mem hg)
    rw [hS2, Ln.endX_same, Ln.endX_ne _ _ _ (by decide)]
    refine ⟨h1.1, h1.2.1, ?_⟩
    have hb0 : ((S.e 1).x.calm.moved (S.e 1).x.box.length).box.length = 0 := by simp [LV.moved, LV.calm]
    show SegOk _ ((S.e 1).inn.length - ((S.e 1).x.calm.moved (S.e 1).x.box.length).box.length) _ _ _ _
    rw [hb0, Nat.sub_zero]
    exact h1.2.2
  obtain ⟨ln, hln⟩ : ∃ ln, ln = l.length := ⟨_, rfl⟩
  have hlb : ln ≤ 33 := by
    have h1 := congrArg List.length hl3
    have h2 := HNM.out.2.2.1
    have h3 := HNM.out.2.2.2.1
    rw [List.length_map] at h1
    unfold outTells at h1
    simp only [List.length_append, tell_len, List.length_map] at h1
    rw [hln, h1]
    have e1 : (if (S.e 1).x.owed = true then [((S.e 1).x.me, (S.e 1).x.peer, (0 : Int), (S.e 1).x.next - 1, ([] : List UInt8))] else []).length ≤ 1 := by split <;> simp
    have e2 : (if (S.e 1).x.due = true then tell (S.e 1).x.me (S.e 1).x.peer ((S.e 1).x.next - 1) ((S.e 1).x.acked + 1) ((S.e 1).x.under.map Dv.s) else []).length ≤ 16 := by
      split
      · rw [tell_len, List.length_map]; exact h2
      · simp
    omega
  open Classical in
  obtain ⟨col3, hcol3⟩ : ∃ col3 : Nat → Nat, col3 = fun k => if k < X.heap.size then col1 k else if lown (S.e 1).lb (S.e 1).cb (S.e 1).mb uv3 ((S.e 1).x.calm.moved (S.e 1).x.box.length) k then 1 + 1 else if v3.ownBlock = some k then 8 else 7 := ⟨_, rfl⟩
  have hlow3 : ∀ k, k < X.heap.size → col3 k = col1 k := fun k hk => by rw [hcol3]; exact if_pos hk
  have hL3 : LNM L xb S2 col3 w3 := by
    rw [hS2]
    exact HLX.out.endStepC (by omega) hM3 hs3 col3 hlow3 (fun k hk ho => by rw [hcol3]; simp only; rw [if_neg (by omega), if_pos ho])
  have hXL := HLX.out.hL
  have hBw3 : Blk w3 wb #[.int .i64 (win 0 : Int), .int .i64 (win 1 : Int)] 51 := hs3.1.blk HBw.out (fun hk => by
    have h1 := ((HH.out.em 1 (by omega)).lm.lt hk).2
    have := HWB.out
    omega)
  have hOM : OM L X.heap.size xb S2 v3 l wb #[.int .i64 (win 0 : Int), .int .i64 (win 1 : Int)] col w 0 col3 S2.sv w3 := by
    refine ⟨?_, hSL3.r, fun k e => ?_, fun g hg => ownsRow_mono (hSL3.d g hg) hXL, fun g hg k e => ?_, hBw3, (hlow3 wb HBw.out.lt).trans HCW.out.1, (HbX.out.mono HH.out.hL).trans (hs3.1.below hXL (fun k hk => ((HLX.out.em 1 (by omega)).lm.lt hk).1)), kp_of HbX.out hs3.1 (fun k hk a => by have h1 := (HLX.out.ec 1 (by omega)).ce k a; rw [HC1.out k hk] at h1; omega), fun k hk => (hlow3 k (Nat.lt_of_lt_of_le hk HbX.out.size)).trans (HC1.out k hk)⟩
    · have e1 : ({ S2 with sv := S2.sv, sent := S2.sent ++ l.take 0 } : Ln) = S2 := by cases S2; simp
      rw [e1]
      exact hL3
    · have h1 := (ownsRow_lt hSL3.r e).1
      rw [hcol3]
      simp only
      rw [if_neg (by omega), if_neg (hdj3 k (.inl e)), if_pos e]
    · have h1 := (ownsRow_lt (hSL3.d g hg) e).1
      rw [hcol3]
      simp only
      rw [if_neg (by omega), if_neg (hdj3 k (.inr ⟨g, hg, e⟩)), if_neg (fun e2 => ?_)]
      obtain ⟨cu, hcu⟩ := ownsRow_type hSL3.r e2
      obtain ⟨cu', hcu'⟩ := ownsRow_type (hSL3.d g hg) e
      exact Blk.ne_t hcu hcu' (by decide) rfl
  have HOM0 : Hid _ := hOM
  have HGS : Hid (∀ g ∈ l, g.f = meOf 1 ∧ g.t = meOf (1 - 1) ∧ SegOk ((S2.e 1).inn.map Dv.s) ((S2.e 1).inn.length - (S2.e 1).x.box.length) (S2.e (1 - 1)).out g.q g.a g.d.s) := hgs
  have HIS : Hid (LInv S2 win n t) := show LInv _ _ _ _ from by rw [hS2]; exact hIo.1
  have hsn2 : S2.sent.length ≤ 400 := by rw [hS2]; exact HSN.out
  obtain ⟨s2n, hs2n⟩ : ∃ s2n, s2n = S2.sent.length := ⟨_, rfl⟩
  have HS2N : Hid (s2n = S2.sent.length) := hs2n
  rw [← hs2n] at hsn2
  obtain ⟨vo3, vc3, hv3, _⟩ := own_slice hSL3.r
  rw [← hln] at hv3
  have HLN : Hid (ln = l.length) := hln
  subst hv3
  clear hl3 hSL3 hM3 hs3 hdj3 hS2 hIo hgs hcol3 hlow3 hL3 hXL hBw3 hOM hs2n hln HOU c0 HLX
  go_wp2_with fail
  obtain ⟨colw, hcolw⟩ : ∃ colw, colw = col := ⟨_, rfl⟩
  rw [← hcolw] at HOM0
  have HCOW : Hid (colw = col) := hcolw
  clear hcolw
  go_loopw [12] (fun s12 wr => ∃ m : Nat, m ≤ ln ∧ s12 = .int .i64 (m : Int) ∧ s2n + m ≤ 400 ∧ ∃ col sv, OM L X.heap.size xb S2 (.slice vo3 ln vc3) l wb #[.int .i64 (win 0 : Int), .int .i64 (win 1 : Int)] colw w m col sv wr) (fun s12 _ => ln - (intOf s12).toNat)
  case atStart => exact ⟨0, by omega, rfl, by omega, _, _, HOM0.out⟩
  case round =>
    clear HOM0
    obtain ⟨m, hm, rfl, hsm, colr, sv, hO⟩ := hrel
    have hsr := hO.ln.sr
    obtain ⟨so, sc, hsv, _⟩ := own_slice hsr
    obtain ⟨sn, hsn⟩ : ∃ sn, sn = s2n + m := ⟨_, rfl⟩
    have hle : (S2.sent ++ l.take m).length = sn := by
      have h1 := HLN.out
      have h2 := HS2N.out
      simp
      omega
    have hsv' : sv = .slice so sn sc := by
      have h1 : sv = .slice so (S2.sent ++ l.take m).length sc := hsv
      rw [hle] at h1
      exact h1
    subst hsv'
    have HOM : Hid _ := hO
    have c6 : wr.cell? ⟨xb, 6, none⟩ = some (.slice so sn sc) := hO.ln.b.cell 6
    have hsn4 : sn ≤ 400 := by omega
    have HSN2 : Hid (sn = S2.sent.length + m) := show _ = _ from by rw [hsn, HS2N.out]
    have HSE : Hid (sn = s2n + m) := hsn
    clear hO hsr hsv hle hsn
    by_cases hml : m < ln
    · by_cases h4 : sn < 400
      · obtain ⟨g, hg⟩ : ∃ g, l[m]? = some g := ⟨l[m]'(by rw [← HLN.out]; exact hml), List.getElem?_eq_getElem _⟩
        have HGM : Hid (l[m]? = some g) := hg
        obtain ⟨vo', vc', hvv, _, _, hrd⟩ := own_read HOM.out.r
        obtain ⟨vg, hvg, _, hvgl, hvcl⟩ := hrd (by rw [← HLN.out]; omega)
        have evo := (Value.slice.inj hvv).1
        rw [hvg] at evo
        have hfl : ∀ f u, f < 5 → g.row[f]? = some u → wr.cell? ⟨vg, m * 5 + f, none⟩ = some u := fun f u hf hu => hvcl _ _ (by rw [flatG, flat_at Sgm.row 5 (fun _ => rfl) l m f g hg hf]; exact hu)
        have HCF : Hid (wr.cell? ⟨xb, 6, none⟩ = some (Value.slice so sn sc) ∧ wr.cell? ⟨vg, m * 5, none⟩ = some (.int .i64 g.f) ∧ wr.cell? ⟨vg, m * 5 + 1, none⟩ = some (.int .i64 g.t) ∧ wr.cell? ⟨vg, m * 5 + 2, none⟩ = some (.int .i64 g.q) ∧ wr.cell? ⟨vg, m * 5 + 3, none⟩ = some (.int .i64 g.a) ∧ wr.cell? ⟨vg, m * 5 + 4, none⟩ = some g.d.v) := ⟨c6, hfl 0 _ (by omega) rfl, hfl 1 _ (by omega) rfl, hfl 2 _ (by omega) rfl, hfl 3 _ (by omega) rfl, hfl 4 _ (by omega) rfl⟩
        have hxl := HOM.out.ln.b.lt
        have HCB : Hid (∀ wz, Below wr.heap.size wr wz → wz.cell? ⟨xb, 6, none⟩ = some (Value.slice so sn sc) ∧ wz.cell? ⟨vg, m * 5, none⟩ = some (.int .i64 g.f) ∧ wz.cell? ⟨vg, m * 5 + 1, none⟩ = some (.int .i64 g.t) ∧ wz.cell? ⟨vg, m * 5 + 2, none⟩ = some (.int .i64 g.q) ∧ wz.cell? ⟨vg, m * 5 + 3, none⟩ = some (.int .i64 g.a) ∧ wz.cell? ⟨vg, m * 5 + 4, none⟩ = some g.d.v) := fun wz hb => by
          obtain ⟨a1, a2, a3, a4, a5, a6⟩ := HCF.out
          exact ⟨(hb.cell (p := ⟨xb, 6, none⟩) hxl).trans a1, (hb.cell (p := ⟨vg, m * 5, none⟩) hvgl).trans a2, (hb.cell (p := ⟨vg, m * 5 + 1, none⟩) hvgl).trans a3, (hb.cell (p := ⟨vg, m * 5 + 2, none⟩) hvgl).trans a4, (hb.cell (p := ⟨vg, m * 5 + 3, none⟩) hvgl).trans a5, (hb.cell (p := ⟨vg, m * 5 + 4, none⟩) hvgl).trans a6⟩
        have hcv : colr vg = 8 := HOM.out.cr vg (by rw [evo]; rfl)
        have HC6F : Hid (∀ w6 : World, w6.cell? ⟨xb, 6, none⟩ = some (Value.slice so sn sc) → (∀ k, k < wr.heap.size → colr k ≠ 6 → w6.heap[k]? = wr.heap[k]?) → w6.cell? ⟨xb, 6, none⟩ = some (Value.slice so sn sc) ∧ w6.cell? ⟨vg, m * 5, none⟩ = some (.int .i64 g.f) ∧ w6.cell? ⟨vg, m * 5 + 1, none⟩ = some (.int .i64 g.t) ∧ w6.cell? ⟨vg, m * 5 + 2, none⟩ = some (.int .i64 g.q) ∧ w6.cell? ⟨vg, m * 5 + 3, none⟩ = some (.int .i64 g.a) ∧ w6.cell? ⟨vg, m * 5 + 4, none⟩ = some g.d.v) := fun w6 hx hk => by
          obtain ⟨a1, a2, a3, a4, a5, a6⟩ := HCF.out
          have hb := hk vg hvgl (by rw [hcv]; omega)
          exact ⟨hx, (World.cell?_of_block (w := wr) (a := ⟨vg, m * 5, none⟩) hb).trans a2, (World.cell?_of_block (w := wr) (a := ⟨vg, m * 5 + 1, none⟩) hb).trans a3, (World.cell?_of_block (w := wr) (a := ⟨vg, m * 5 + 2, none⟩) hb).trans a4, (World.cell?_of_block (w := wr) (a := ⟨vg, m * 5 + 3, none⟩) hb).trans a5, (World.cell?_of_block (w := wr) (a := ⟨vg, m * 5 + 4, none⟩) hb).trans a6⟩
        clear hg hvv hrd hvg hvcl hfl hxl hcv hvgl
        subst evo
        go_upto_region 20 with fail
        clear c6
        try rw [show ∀ a : Act, a.put none undef = a from fun _ => rfl]
        refine wp_region_mix (fun wz => wz.cell? ⟨xb, 6, none⟩ = some (Value.slice so sn sc) ∧ wz.cell? ⟨vg, m * 5, none⟩ = some (.int .i64 g.f) ∧ wz.cell? ⟨vg, m * 5 + 1, none⟩ = some (.int .i64 g.t) ∧ wz.cell? ⟨vg, m * 5 + 2, none⟩ = some (.int .i64 g.q) ∧ wz.cell? ⟨vg, m * 5 + 3, none⟩ = some (.int .i64 g.a) ∧ wz.cell? ⟨vg, m * 5 + 4, none⟩ = some (g.d.v)) (fun i => i == 9 || i == 10 || i == 13) 13 (by kernel_rfl) rfl (by kernel_rfl) (by kernel_rfl) (by kernel_rfl) ?_
        refine withFrP (N := 155) rfl ?_
        intro f0 F0 hff
        have e0 : f0 0 = Value.pointer (some ⟨xb, 0, none⟩) := hff 0
        have e11 : f0 11 = Value.slice (some ⟨vg, 0, none⟩) ln vc3 := hff 11
        have e12 : f0 12 = Value.int .i64 (m : Int) := hff 12
        clear hff
        have H2 : (fun wz => wz.cell? ⟨xb, 6, none⟩ = some (Value.slice so sn sc) ∧ wz.cell? ⟨vg, m * 5, none⟩ = some (.int .i64 g.f) ∧ wz.cell? ⟨vg, m * 5 + 1, none⟩ = some (.int .i64 g.t) ∧ wz.cell? ⟨vg, m * 5 + 2, none⟩ = some (.int .i64 g.q) ∧ wz.cell? ⟨vg, m * 5 + 3, none⟩ = some (.int .i64 g.a) ∧ wz.cell? ⟨vg, m * 5 + 4, none⟩ = some (g.d.v)) (({ wr with drawn := wr.drawn + 1 } : World)) := HCF.out
        refine lyp F0 rfl H2 rfl (by omega) (wanted_none rfl) (v := Value.pointer (some ⟨xb, 0, none⟩)) (fun wr hwr => by simp only [execOp, (F0.eval 0 (by omega)).trans (show _ = Value.pointer (some ⟨xb, 0, none⟩) from by simp [upd, e0, e11, e12])]; first | rfl | simp [go_sem]) fun Fp1 => ?_
        refine lyp Fp1 rfl H2 rfl (by omega) (wanted_none rfl) (v := Value.pointer (some ⟨xb, 0, none⟩)) (fun wr hwr => by simp only [execOp, (Fp1.eval 0 (by omega)).trans (show _ = Value.pointer (some ⟨xb, 0, none⟩) from by simp [upd, e0, e11, e12])]; first | rfl | simp [go_sem]) fun Fp2 => ?_
        refine lyp Fp2 rfl H2 rfl (by omega) (wanted_none rfl) (v := Value.pointer (some ⟨xb, 0, none⟩)) (fun wr hwr => by simp only [execOp, (Fp2.eval 109 (by omega)).trans (show _ = Value.pointer (some ⟨xb, 0, none⟩) from by simp [upd, e0, e11, e12])]; simp [go_sem]) fun Fp3 => ?_
        refine lyp Fp3 rfl H2 rfl (by omega) (wanted_none rfl) (v := Value.pointer (some ⟨xb, 6, none⟩)) (fun wr hwr => by simp only [execOp, (Fp3.eval 110 (by omega)).trans (show _ = Value.pointer (some ⟨xb, 0, none⟩) from by simp [upd, e0, e11, e12])]; simp [go_sem]) fun Fp4 => ?_
        refine lyp Fp4 rfl H2 rfl (by omega) (wanted_none rfl) (v := Value.slice so sn sc) (fun wr hwr => by simp only [execOp, (Fp4.eval 111 (by omega)).trans (show _ = Value.pointer (some ⟨xb, 6, none⟩) from by simp [upd, e0, e11, e12])]; simp [go_sem, hwr.1]) fun Fp5 => ?_
        refine lyp Fp5 rfl H2 rfl (by omega) (wanted_none rfl) (v := Value.slice (some ⟨vg, 0, none⟩) ln vc3) (fun wr hwr => by simp only [execOp, (Fp5.eval 11 (by omega)).trans (show _ = Value.slice (some ⟨vg, 0, none⟩) ln vc3 from by simp [upd, e0, e11, e12])]; first | rfl | simp [go_sem]) fun Fp6 => ?_
        refine lyp Fp6 rfl H2 rfl (by omega) (wanted_none rfl) (v := Value.int .i64 (m : Int)) (fun wr hwr => by simp only [execOp, (Fp6.eval 12 (by omega)).trans (show _ = Value.int .i64 (m : Int) from by simp [upd, e0, e11, e12])]; first | rfl | simp [go_sem]) fun Fp7 => ?_
        refine lyp Fp7 rfl H2 rfl (by omega) (wanted_none rfl) (v := Value.pointer (some ⟨vg, m * 5, none⟩)) (fun wr hwr => by simp only [execOp, (Fp7.eval 113 (by omega)).trans (show _ = Value.slice (some ⟨vg, 0, none⟩) ln vc3 from by simp [upd, e0, e11, e12]), (Fp7.eval 114 (by omega)).trans (show _ = Value.int .i64 (m : Int) from by simp [upd, e0, e11, e12])]; simp only [Sem.run_bind, Sem.run_pure, Result.andThen_ok, idx_run 33 45 5 Try.underlying33 (by kernel_rfl) _ vg 0 ln vc3 m hml, Nat.zero_add, Nat.mul_one]; try rfl) fun Fp8 => ?_
        refine lyp Fp8 rfl H2 rfl (by omega) (wanted_none rfl) (v := Value.agg #[.int .i64 g.f, .int .i64 g.t, .int .i64 g.q, .int .i64 g.a, g.d.v]) (fun wr hwr => by simp only [execOp, (Fp8.eval 115 (by omega)).trans (show _ = Value.pointer (some ⟨vg, m * 5, none⟩) from by simp [upd, e0, e11, e12])]; simp only [Sem.run_bind, Sem.run_pure, Result.andThen_ok, load5at hwr.2]; try rfl) fun Fp9 => ?_
        refine lep Fp9 rfl H2 rfl (by omega) (wanted_none rfl) (v := Value.slice (some ⟨wr.heap.size, 0, none⟩) 1 1) (w1 := (({ wr with drawn := wr.drawn + 1 } : World).alloc (.cells #[.int .i64 g.f, .int .i64 g.t, .int .i64 g.q, .int .i64 g.a, g.d.v] 45))) (by simp only [execOp, List.map_toArray, List.map_cons, List.map_nil, (Fp9.eval 116 (by omega)).trans (show _ = Value.agg #[.int .i64 g.f, .int .i64 g.t, .int .i64 g.q, .int .i64 g.a, g.d.v] from by simp [upd, e0, e11, e12])]; simp [go_sem]) fun Fp10 => ?_
        have HC2 : (fun wz => wz.cell? ⟨xb, 6, none⟩ = some (Value.slice so sn sc) ∧ wz.cell? ⟨vg, m * 5, none⟩ = some (.int .i64 g.f) ∧ wz.cell? ⟨vg, m * 5 + 1, none⟩ = some (.int .i64 g.t) ∧ wz.cell? ⟨vg, m * 5 + 2, none⟩ = some (.int .i64 g.q) ∧ wz.cell? ⟨vg, m * 5 + 3, none⟩ = some (.int .i64 g.a) ∧ wz.cell? ⟨vg, m * 5 + 4, none⟩ = some (g.d.v)) (({ wr with drawn := wr.drawn + 1 } : World).alloc (.cells #[.int .i64 g.f, .int .i64 g.t, .int .i64 g.q, .int .i64 g.a, g.d.v] 45)) := HCB.out _ ((Below.refl _ _).drew.alloc (Nat.le_refl _) _)
        obtain ⟨ao6, c6, w6, hr6, hsm6, hx6, hf6, col6, hOM6⟩ := (HOM.out.more (Below.refl _ _).drew).step HGM.out (by have := HSN2.out; omega)
        rw [← HSN2.out] at hr6 hOM6
        replace hr6 : ∀ ty, (Builtin.append_ #[33, 33] ty #[.slice so sn sc, .slice (some ⟨wr.heap.size, 0, none⟩) 1 1]).run Try.prog (({ wr with drawn := wr.drawn + 1 } : World).alloc (.cells #[.int .i64 g.f, .int .i64 g.t, .int .i64 g.q, .int .i64 g.a, g.d.v] 45)) = .ok (.slice ao6 (sn + 1) c6) w6 := hr6
        have HC6 : (fun wz => wz.cell? ⟨xb, 6, none⟩ = some (Value.slice so sn sc) ∧ wz.cell? ⟨vg, m * 5, none⟩ = some (.int .i64 g.f) ∧ wz.cell? ⟨vg, m * 5 + 1, none⟩ = some (.int .i64 g.t) ∧ wz.cell? ⟨vg, m * 5 + 2, none⟩ = some (.int .i64 g.q) ∧ wz.cell? ⟨vg, m * 5 + 3, none⟩ = some (.int .i64 g.a) ∧ wz.cell? ⟨vg, m * 5 + 4, none⟩ = some (g.d.v)) w6 := HC6F.out w6 hx6 hsm6
        refine lep Fp10 rfl HC2 rfl (by omega) (wanted_none rfl) (v := Value.slice ao6 (sn + 1) c6) (w1 := w6) (by simp only [execOp, resolve, invoke, builtin, List.map_toArray, List.map_cons, List.map_nil, (Fp10.eval 112 (by omega)).trans (show _ = Value.slice so sn sc from by simp [upd, e0, e11, e12]), (Fp10.eval 117 (by omega)).trans (show _ = Value.slice (some ⟨wr.heap.size, 0, none⟩) 1 1 from by simp [upd, e0, e11, e12])]; simp only [Sem.run_bind, Sem.run_pure, Result.andThen_ok, hr6]; try rfl) fun Fp11 => ?_
        refine lyp Fp11 rfl HC6 rfl (by omega) (wanted_none rfl) (v := Value.pointer (some ⟨xb, 0, none⟩)) (fun wr hwr => by simp only [execOp, (Fp11.eval 108 (by omega)).trans (show _ = Value.pointer (some ⟨xb, 0, none⟩) from by simp [upd, e0, e11, e12])]; simp [go_sem]) fun Fp12 => ?_
        refine lyp Fp12 rfl HC6 rfl (by omega) (wanted_none rfl) (v := Value.pointer (some ⟨xb, 6, none⟩)) (fun wr hwr => by simp only [execOp, (Fp12.eval 119 (by omega)).trans (show _ = Value.pointer (some ⟨xb, 0, none⟩) from by simp [upd, e0, e11, e12])]; simp [go_sem]) fun Fp13 => ?_
        refine lst rfl HC6 rfl (wanted_none rfl) (w1 := w6.setCell ⟨xb, 6, none⟩ (.slice ao6 (sn + 1) c6)) (by simp only [execOp, (Fp13.eval 120 (by omega)).trans (show _ = Value.pointer (some ⟨xb, 6, none⟩) from by simp [upd, e0, e11, e12]), (Fp13.eval 118 (by omega)).trans (show _ = Value.slice ao6 (sn + 1) c6 from by simp [upd, e0, e11, e12])]; simp [go_sem, hf6, hx6]) ?_
        refine ⟨fun h => by omega, ?_⟩
        clear F0 Fp1 Fp2 Fp3 Fp4 Fp5 Fp6 Fp7 Fp8 Fp9 Fp10 Fp11 Fp12 Fp13 e0 e11 e12 H2 HC2 HC6
        simp only [Act.put, List.setIfInBounds_toArray, List.set_cons_succ, List.set_cons_zero]
        have HF : Hid _ := hOM6
        have hsm1 : s2n + (m + 1) ≤ 400 := by have := HSE.out; omega
        try go_wp2_with fail
        go_roundw
        case rel => exact ⟨m + 1, by omega, by go_num, hsm1, _, _, HF.out⟩
        case measure => simp [intOf]; omega
      · have HL3 : Hid (LNM L xb { S2 with sv := .slice so sn sc, sent := S2.sent ++ l.take m } colr wr) := HOM.out.ln
        have HI3 : Hid (LInv { S2 with sv := .slice so sn sc, sent := S2.sent ++ l.take m } win n (t + 1)) := (HIS.out.addAll (i := 1) (by omega) _ (l.take m) (fun g hg => HGS.out g (List.mem_of_mem_take hg))).later (Nat.le_succ t)
        have HSX : Hid ((S2.sent ++ l.take m).length ≤ 400) := show _ ≤ _ from by have h1 := HLN.out; have h2 := HS2N.out; have h3 := HSE.out; simp; omega
        have HBL : Hid (Below L w wr) := HOM.out.bl
        have HKP : Hid (∀ k, k < w.heap.size → 8 ≤ col k → wr.heap[k]? = w.heap[k]?) := by rw [← HCOW.out]; exact HOM.out.kp
        have HZ9 : Hid (∀ k, k < w.heap.size → colr k = col k) := by rw [← HCOW.out]; exact HOM.out.cl
        have d5 : wr.cell? ⟨wb, 1, none⟩ = some (.int .i64 (win 1 : Int)) := HOM.out.b.cell 1
        have h4' : ¬ (sn : Int) < 400 := by omega
        go_wp2_with fail
        refine Calls.mono (sound_1 wr HL3.out HI3.out (by omega)) ?_
        rintro e w9 ⟨rfl, hb9⟩
        have HF9 : Hid (LNM L xb ({ S2 with sv := .slice so sn sc, sent := S2.sent ++ l.take m }) colr w9) := HL3.out.more hb9
        have HB9 : Hid (Below L w w9) := HBL.out.trans (hb9.mono HL3.out.hL)
        have HK9 : Hid (∀ k, k < w.heap.size → 8 ≤ col k → w9.heap[k]? = w.heap[k]?) := fun k hk h8 => (hb9.block k (Nat.lt_of_lt_of_le hk HBL.out.size)).trans (HKP.out k hk h8)
        clear hb9
        go_wp2_with fail
        go_ret
        exact ⟨rfl, _, _, HF9.out, HI3.out, HSX.out, HB9.out, HK9.out, HZ9.out⟩
    · have HL3 : Hid (LNM L xb { S2 with sv := .slice so sn sc, sent := S2.sent ++ l.take m } colr wr) := HOM.out.ln
      have HI3 : Hid (LInv { S2 with sv := .slice so sn sc, sent := S2.sent ++ l.take m } win n (t + 1)) := (HIS.out.addAll (i := 1) (by omega) _ (l.take m) (fun g hg => HGS.out g (List.mem_of_mem_take hg))).later (Nat.le_succ t)
      have HSX : Hid ((S2.sent ++ l.take m).length ≤ 400) := show _ ≤ _ from by have h1 := HLN.out; have h2 := HS2N.out; have h3 := HSE.out; simp; omega
      have HBL : Hid (Below L w wr) := HOM.out.bl
      have HKP : Hid (∀ k, k < w.heap.size → 8 ≤ col k → wr.heap[k]? = w.heap[k]?) := by rw [← HCOW.out]; exact HOM.out.kp
      have HZ9 : Hid (∀ k, k < w.heap.size → colr k = col k) := by rw [← HCOW.out]; exact HOM.out.cl
      have d5 : wr.cell? ⟨wb, 1, none⟩ = some (.int .i64 (win 1 : Int)) := HOM.out.b.cell 1
      go_wp2_with fail
      refine Calls.mono (sound_1 wr HL3.out HI3.out (by omega)) ?_
      rintro e w9 ⟨rfl, hb9⟩
      have HF9 : Hid (LNM L xb ({ S2 with sv := .slice so sn sc, sent := S2.sent ++ l.take m }) colr w9) := HL3.out.more hb9
      have HB9 : Hid (Below L w w9) := HBL.out.trans (hb9.mono HL3.out.hL)
      have HK9 : Hid (∀ k, k < w.heap.size → 8 ≤ col k → w9.heap[k]? = w.heap[k]?) := fun k hk h8 => (hb9.block k (Nat.lt_of_lt_of_le hk HBL.out.size)).trans (HKP.out k hk h8)
      clear hb9
      go_wp2_with fail
      go_ret
      exact ⟨rfl, _, _, HF9.out, HI3.out, HSX.out, HB9.out, HK9.out, HZ9.out⟩
end Go.Proofs.Ytcjgicfmfjomgaa
