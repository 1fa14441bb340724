import Derived.Test.YtifgmefdlmjocaaRth
namespace Go.Proofs.Ytifgmefdlmjocaa
open Go.RowKit Go.PlainAid
set_option linter.unusedVariables false
set_option linter.unusedSimpArgs false
set_option maxRecDepth 100000 in
set_option maxHeartbeats 3200000 in
theorem viewsRefused_law (z : Int) (hz : i64 z) (ao1 : Option Addr) (N1 cap1 : Nat) (ss1 : List SayA) (bad : Ent) (hbs : bad.sane) (hbv : i64 bad.v) (at1 : Int) (hat0 : i64 at1) (W : World) (hl1 : ss1.length = N1) (hm1 : N1 ≤ maxLen)
    (hat1 : 0 < N1 → ∃ b off, ao1 = some ⟨b, off, none⟩ ∧ ∀ (i : Nat) (s : SayA), ss1[i]? = some s → SayAt W b (off + i * 7) s ∧ i64 s.w) :
    Calls Try.prog 5 #[.int .i64 z, .slice ao1 N1 cap1, viewV bad, .int .i64 at1] W fun e w' => e = .returned (.bool true) ∧ Below W.heap.size W w' := by
  have i1 := wx_in z 7 (by decide)
  obtain ⟨n, hn⟩ : ∃ n : Nat, 2 + wx z 7 = n := ⟨(2 + wx z 7).toNat, by omega⟩
  have HW : Hid (∀ w, Calls Try.prog 10 #[.int .i64 z, .int .i64 2, .int .i64 8] w fun e w' => e = .returned (.int .i64 (n : Int)) ∧ w' = w) := fun w => by
    have := within_any z 2 8 w hz.1 hz.2 (by decide) (by decide) (by decide)
    rw [show (2 : Int) + wx z (8 - 2 + 1) = n from hn] at this
    exact this
  have hkv := wx_in bad.v 1001 (by decide)
  obtain ⟨kv, hkve⟩ : ∃ kv, kv = wx bad.v 1001 := ⟨_, rfl⟩
  rw [← hkve] at hkv
  have HWV : Hid (∀ w, Calls Try.prog 10 #[.int .i64 bad.v, .int .i64 0, .int .i64 1000] w fun e w' => e = .returned (.int .i64 kv) ∧ w' = w) := fun w => by
    have := within_any bad.v 0 1000 w hbv.1 hbv.2 (by decide) (by decide) (by decide)
    rw [show (0 : Int) + wx bad.v (1000 - 0 + 1) = kv from by rw [hkve, Int.zero_add]; rfl] at this
    exact this
  have hneg : IntKind.i64.wrap (-kv) = -kv := by rw [IntKind.wrap_i64]; omega
  have HWA : Hid (∀ (m : Nat) w, m ≤ 64 → Calls Try.prog 10 #[.int .i64 at1, .int .i64 0, .int .i64 (m : Int)] w fun e w' => e = .returned (.int .i64 (wx at1 ((m : Int) + 1))) ∧ w' = w) := fun m w hm => by
    have := within_any at1 0 m w hat0.1 hat0.2 (by decide) (by omega) (by omega)
    rw [show (0 : Int) + wx at1 ((m : Int) - 0 + 1) = wx at1 ((m : Int) + 1) from by rw [Int.zero_add, Int.sub_zero]] at this
    exact this
  have hn2 : 2 ≤ n ∧ n ≤ 8 := by omega
  have hx1 : N1 ≤ 9223372036854775807 := by unfold maxLen at hm1; omega
  have HAL : Hid (∀ w, _) := fun w => alive_any w
  have HBG : Hid (∀ w, _) := fun w => begun_any n w hn2
  have HL1 : Hid _ := hl1
  have HA1 : Hid _ := hat1
  have HN : Hid _ := hn2
  have HKV : Hid (0 ≤ kv ∧ kv < 1001) := hkv
  have HBS : Hid _ := hbs
  obtain ⟨X, hX⟩ : ∃ X, X = W.alloc (.cells #[.string ⟨bad.n.toArray⟩, .int .i64 bad.c, .int .i64 bad.rc, .int .i64 bad.v, .int .i64 bad.d, .int .i64 bad.u, .int .i64 bad.h] 46) := ⟨_, rfl⟩
  have hXB : Blk X W.heap.size #[.string ⟨bad.n.toArray⟩, .int .i64 bad.c, .int .i64 bad.rc, .int .i64 bad.v, .int .i64 bad.d, .int .i64 bad.u, .int .i64 bad.h] 46 := by rw [hX]; exact heap_alloc_new W _
  have hWX : Below W.heap.size W X := by rw [hX]; exact (Below.refl _ _).alloc (Nat.le_refl _) _
  obtain ⟨bx, hbx⟩ : ∃ bx, bx = W.heap.size := ⟨_, rfl⟩
  have HXB : Hid (Blk X bx #[.string ⟨bad.n.toArray⟩, .int .i64 bad.c, .int .i64 bad.rc, .int .i64 bad.v, .int .i64 bad.d, .int .i64 bad.u, .int .i64 bad.h] 46) := show Blk X bx #[.string ⟨bad.n.toArray⟩, .int .i64 bad.c, .int .i64 bad.rc, .int .i64 bad.v, .int .i64 bad.d, .int .i64 bad.u, .int .i64 bad.h] 46 from by rw [hbx]; exact hXB
  have HWX : Hid _ := hWX
  have HBXW : Hid (W.heap.size ≤ bx) := Nat.le_of_eq hbx.symm
  clear hn i1 hn2 hl1 hat1 hm1 hz hkv hkve hbs hbv hat0 hXB hWX
  unfold viewV
  go_enter Try.func5, Try.ntmps5
  go_wp2_with fail
  rw [← hX, ← hbx]
  clear hX hbx
  refine Calls.mono (HAL.out _) ?_
  rintro e w1 ⟨rfl, hb1⟩
  have HB1 : Hid _ := hb1
  clear hb1 HAL
  go_wp2_with fail
  refine Calls.mono (HW.out _) ?_
  rintro e w' ⟨rfl, hw'⟩
  replace hw' := hw'.symm
  subst hw'
  go_wp2_with fail
  refine Calls.mono (HBG.out _) ?_
  rintro e w2 ⟨tb, ps, rfl, htb, hBG⟩
  obtain ⟨vr, vc, hb, mb, hTK⟩ := bg_tg hBG HN.out htb
  have HR0 : Hid (GRel w1.heap.size tb vr vc n hb mb X 0 w2) := ⟨_, _, _, hTK, fun i hi => LIr.nil _, fun j hj => Nat.le_refl _, HB1.out.trans (hBG.bel.mono HB1.out.size)⟩
  obtain ⟨L, hLe⟩ : ∃ L, L = w1.heap.size := ⟨_, rfl⟩
  rw [← hLe] at HR0
  have HLW : Hid (X.heap.size ≤ L) := show X.heap.size ≤ L from by rw [hLe]; exact HB1.out.size
  clear hTK hBG htb hLe HB1 HBG HW
  go_upto_block 0 with fail
  go_cut [12, 13] from 36 to 54 (fun _ _ wc => ∃ q : Nat, q ≤ 200 ∧ GRel L tb vr vc n hb mb X q wc)
  case first =>
    go_wp2_with fail
    go_loopw [12, 13] (fun i _ wr => ∃ q : Nat, q ≤ 200 ∧ i = .int .i64 q ∧ GRel L tb vr vc n hb mb X q wr) (fun i _ _ => 200 - (intOf i).toNat)
    case atStart => exact ⟨0, by decide, rfl, HR0.out⟩
    case round =>
      obtain ⟨q, hq, rfl, hR⟩ := hrel
      by_cases hlt : q < N1
      · by_cases h200 : q < 200
        · obtain ⟨s, hs⟩ : ∃ s, ss1[q]? = some s := ⟨ss1[q]'(by rw [HL1.out]; exact hlt), List.getElem?_eq_getElem _⟩
          obtain ⟨b, off, rfl, hc⟩ := HA1.out (by omega)
          have hbel := (show GRel L tb vr vc n hb mb X q wr from hR)
          obtain ⟨_, _, _, _, _, _, hbel⟩ := hbel
          have hbw := World.block_lt_of_cell? W _ (hc q s hs).1.c0
          have hbx2 := (hbel.block b (Nat.lt_of_lt_of_le hbw HWX.out.size)).trans (HWX.out.block b hbw)
          obtain ⟨d0, d1, d2, d3, d4, d5, d6, rg⟩ := (hc q s hs).1.keep hbx2
          have HST : Hid _ := step_relG s hR HLW.out HN.out (by omega) rg (hc q s hs).2
          clear hR hbel rg hs hc hbw hbx2 HR0
          go_wp2_with fail
          refine Calls.mono HST.out ?_
          rintro e w5 ⟨rfl, hN5⟩
          have HN5 : Hid _ := hN5
          clear hN5 HST
          go_wp2_with fail
          go_roundw
          case rel => exact ⟨q + 1, by omega, by go_num, HN5.out⟩
          case measure => simp [intOf]; omega
        · have HR : Hid _ := hR
          clear hR
          go_wp2_with fail
          go_meet
          case rel => exact ⟨q, hq, HR.out⟩
      · have HR : Hid _ := hR
        clear hR
        go_wp2_with fail
        go_meet
        case rel => exact ⟨q, hq, HR.out⟩
  case rest =>
    obtain ⟨q, hq, LV, hv, Hs, hT, hLI, hHs, hbel⟩ := hcut
    have hn0 : 0 < n := by have := HN.out; omega
    have hn1 : 1 < n := by have := HN.out; omega
    have hBc : Blk wc bx #[.string ⟨bad.n.toArray⟩, .int .i64 bad.c, .int .i64 bad.rc, .int .i64 bad.v, .int .i64 bad.d, .int .i64 bad.u, .int .i64 bad.h] 46 := Blk.below HXB.out hbel (Blk.lt HXB.out)
    have b3 : wc.cell? ⟨bx, 3, none⟩ = some (.int .i64 bad.v) := hBc.cell 3
    have f3 := hBc.frozen 3
    have hbr : ∀ k, k < 32 → ∀ b, (hv k).ownBlock = some b → b ≠ bx := fun k hk b e => by
      have h1 := (ownsRow_lt (hT.rows k hk) e).1
      have h2 := HLW.out
      have h3 := Blk.lt HXB.out
      omega
    obtain ⟨Y, hY⟩ : ∃ Y, Y = wc.setCell ⟨bx, 3, none⟩ (.int .i64 (-kv)) := ⟨_, rfl⟩
    have hTY : TG L tb vr vc n hb mb LV hv Hs (.slice none 0 0) Y := by rw [hY]; exact hT.box (j := 3) hBc hbr
    have hBY : Blk Y bx #[.string ⟨bad.n.toArray⟩, .int .i64 bad.c, .int .i64 bad.rc, .int .i64 (-kv), .int .i64 bad.d, .int .i64 bad.u, .int .i64 bad.h] 46 := by rw [hY]; exact hBc.set 3 (.int .i64 (-kv))
    have hWY : Below W.heap.size W Y := by
      have h1 : Below W.heap.size W wc := HWX.out.trans (hbel.mono HWX.out.size)
      rw [hY]
      exact h1.trans ⟨rfl, rfl, rfl, by simp [World.setCell], fun k hk => Below.heap_setCell _ _ _ _ (Nat.ne_of_lt (Nat.lt_of_lt_of_le hk HBXW.out))⟩
    obtain ⟨t0, p0, _⟩ := hT.cellr (r := 0) hn0
    obtain ⟨CT, hCT, _⟩ := hT.tk
    obtain ⟨CR, hCR, _⟩ := hT.vrow
    have hbt : ¬ bx = tb := Blk.ne_t hBc hCT (by decide)
    have hbt' : ¬ tb = bx := fun e => hbt e.symm
    have hbv2 : ¬ bx = vr := Blk.ne_t hBc hCR (by decide)
    have hbv3 : ¬ vr = bx := fun e => hbv2 e.symm
    clear hCT hCR
    have HDG : Hid _ := digest_any Y (hTY.vs 0 hn0) (by have := (hLI 0 hn0).len; omega)
    have HT : Hid _ := hTY
    have HLI : Hid _ := hLI
    have HBY : Hid _ := hBY
    have HWY : Hid _ := hWY
    unfold Ptr at p0
    clear hT hLI hHs hbel HR0 hBc hTY hBY hWY
    go_wp2_with fail
    refine Calls.mono (HWV.out _) ?_
    rintro e w' ⟨rfl, hw'⟩
    replace hw' := hw'.symm
    subst hw'
    go_wp2_with fail
    rw [← hY]
    clear hbt hbt' hbv2 hbv3
    refine Calls.mono HDG.out ?_
    rintro e wd ⟨vl, ds, rfl, htold, howd, hbd⟩
    have HDO : Hid (Dg0 q (LV 0) ds) := told_dg (HLI.out 0 hn0).zero htold
    have hd4 : ds.length ≤ 4 := HDO.out.len
    obtain ⟨aol, capl, hvl, hvl9⟩ := own_slice howd
    subst hvl
    have HTD : Hid _ := HT.out.more hbd
    have HBD : Hid (Blk wd bx #[.string ⟨bad.n.toArray⟩, .int .i64 bad.c, .int .i64 bad.rc, .int .i64 (-kv), .int .i64 bad.d, .int .i64 bad.u, .int .i64 bad.h] 46) := Blk.below HBY.out hbd (Blk.lt HBY.out)
    have HWD : Hid (Below W.heap.size W wd) := HWY.out.trans (hbd.mono HWY.out.size)
    have HOD : Hid (wd.ownsRow 0 46 7 (.slice aol ds.length capl) ds.length (flatV ds)) := ownsRow_mono howd (Nat.zero_le _)
    obtain ⟨kk, hkk⟩ : ∃ kk : Nat, wx at1 ((ds.length : Int) + 1) = kk := ⟨(wx at1 ((ds.length : Int) + 1)).toNat, by have := wx_in at1 ((ds.length : Int) + 1) (by omega); omega⟩
    have hkl : kk ≤ ds.length := by have := wx_in at1 ((ds.length : Int) + 1) (by omega); omega
    have HWK : Hid (∀ w, Calls Try.prog 10 #[.int .i64 at1, .int .i64 0, .int .i64 (ds.length : Int)] w fun e w' => e = .returned (.int .i64 (kk : Int)) ∧ w' = w) := fun w => by
      have := HWA.out ds.length w (by omega)
      rw [hkk] at this
      exact this
    clear hvl9 htold howd hbd HDG HT HBY HWY t0 p0 hY hkk HWA HWV f3 b3 hbr
    go_wp2_with fail
    refine Calls.mono (HWK.out _) ?_
    rintro e w' ⟨rfl, hw'⟩
    replace hw' := hw'.symm
    subst hw'
    clear HWK
    go_wp2_with fail
    have HS1 : Hid (MRow wd wd (.slice none 0 0) 0 (ds.take 0)) := ⟨Below.refl _ _, World.ownsRow_nil _ _ _ _⟩
    go_loopw [16, 17] (fun mv i wr => ∃ j : Nat, j ≤ kk ∧ i = .int .i64 j ∧ MRow wd wr mv j (ds.take j)) (fun _ i _ => kk - (intOf i).toNat)
    case atStart => exact ⟨0, Nat.zero_le _, rfl, HS1.out⟩
    case round =>
      obtain ⟨j, hj, rfl, hMR⟩ := hrel
      have hbw := hMR.1
      have hrow := hMR.2
      clear hMR
      clear HS1
      by_cases hjk : j < kk
      · have hjl : j < ds.length := by omega
        have hjli : (j : Int) < (ds.length : Int) := by omega
        have hjki : (j : Int) < (kk : Int) := by omega
        obtain ⟨x, hx⟩ : ∃ x, ds[j]? = some x := ⟨ds[j], List.getElem?_eq_getElem hjl⟩
        have hlr := row_more hbw HOD.out
        obtain ⟨ao2, cap2, hv2, _, _, hfv, hat⟩ := own_fromV hlr
        obtain ⟨g, hg, _, _⟩ := hat (by omega)
        cases hv2
        subst hg
        obtain ⟨b2, off2, hbo, hcv⟩ := hfv (by omega)
        cases hbo
        obtain ⟨d0, d1, d2, d3, d4, d5, d6⟩ := hcv _ _ hx
        simp only [Nat.zero_add] at d0 d1 d2 d3 d4 d5 d6
        have HBW : Hid _ := hbw
        have HTS : Hid (ds.take j ++ [x] = ds.take (j + 1)) := show ds.take j ++ [x] = ds.take (j + 1) from by rw [List.take_add_one, hx]; rfl
        have HSZ : Hid (wd.heap.size ≤ wr.heap.size) := hbw.size
        obtain ⟨aom, capm, hvm, hvm9⟩ := own_slice hrow
        subst hvm
        have HRO : Hid (World.ownsRow wr wd.heap.size 46 7 (.slice aom j capm) j (flatV (ds.take j))) := hrow
        clear hvm9 hfv hat hcv hx hlr hbw hrow
        go_wp2_with (first | (at_builtin; go_must (refine wpList_appV rfl _ _ rfl wd.heap.size j _ (ds.take j) rfl HRO.out x rfl (by first | rfl | simp) (by omega) HSZ.out ?_)))
        intro v' w5 ho5 hg5
        obtain ⟨ao5, cap5, hv5, hv59⟩ := own_slice ho5
        subst hv5
        have HB5 : Hid (Below wd.heap.size wd w5) := HBW.out.trans (hg5.below (fun j e => (ownsRow_lt HRO.out e).1) HBW.out.size)
        have HO5 : Hid (w5.ownsRow wd.heap.size 46 7 (.slice ao5 (j + 1) cap5) (j + 1) (flatV (ds.take (j + 1)))) := show World.ownsRow w5 wd.heap.size 46 7 (.slice ao5 (j + 1) cap5) (j + 1) (flatV (ds.take (j + 1))) from by rw [← HTS.out]; exact ho5
        clear ho5 hg5 hv59 d0 d1 d2 d3 d4 d5 d6
        go_wp2_with fail
        go_roundw
        case rel => exact ⟨j + 1, by omega, by go_num, ⟨HB5.out, HO5.out⟩⟩
        case measure => simp [intOf]; omega
      · obtain rfl : j = kk := by omega
        have HBW : Hid _ := hbw
        have HSZ : Hid (wd.heap.size ≤ wr.heap.size) := hbw.size
        obtain ⟨d0, d1, d2, d3, d4, d5, d6⟩ := box_cells (e := { bad with v := -kv }) (Blk.below HBD.out hbw (Blk.lt HBD.out))
        simp only [Nat.zero_add] at d0 d1 d2 d3 d4 d5 d6
        obtain ⟨aom, capm, hvm, hvm9⟩ := own_slice hrow
        subst hvm
        have HRO : Hid (World.ownsRow wr wd.heap.size 46 7 (.slice aom j capm) j (flatV (ds.take j))) := hrow
        clear hvm9 hbw hrow
        go_wp2_with (first | (at_builtin; go_must (refine wpList_appV rfl _ _ rfl wd.heap.size j _ (ds.take j) rfl HRO.out { bad with v := -kv } rfl (by first | rfl | simp) (by omega) HSZ.out ?_)))
        intro v' w5 ho5 hg5
        obtain ⟨ao5, cap5, hv5, hv59⟩ := own_slice ho5
        subst hv5
        have HS2 : Hid (MRow wd w5 (.slice ao5 (j + 1) cap5) (j + 0 + 1) (mixed ds j { bad with v := -kv } 0)) := ⟨HBW.out.trans (hg5.below (fun j e => (ownsRow_lt HRO.out e).1) HBW.out.size), by unfold mixed; rw [List.take_zero]; exact ho5⟩
        clear ho5 hg5 hv59 d0 d1 d2 d3 d4 d5 d6 HBW HRO HSZ
        go_wp2_with fail
        go_loopw [16, 18] (fun mv i wr => ∃ t : Nat, j + t ≤ ds.length ∧ i = .int .i64 (j + t : Nat) ∧ MRow wd wr mv (j + t + 1) (mixed ds j { bad with v := -kv } t)) (fun _ i _ => ds.length - (intOf i).toNat)
        case atStart => exact ⟨0, by omega, rfl, HS2.out⟩
        case round =>
          obtain ⟨t, ht, rfl, hMR⟩ := hrel
          have hbw := hMR.1
          have hrow := hMR.2
          clear hMR
          clear HS2
          by_cases htl : j + t < ds.length
          · have htli : ((j + t : Nat) : Int) < (ds.length : Int) := by omega
            obtain ⟨x, hx⟩ : ∃ x, ds[j + t]? = some x := ⟨ds[j + t], List.getElem?_eq_getElem htl⟩
            have hlr := row_more hbw HOD.out
            have HTS : Hid (mixed ds j { bad with v := -kv } t ++ [x] = mixed ds j { bad with v := -kv } (t + 1)) := mixed_succ hx
            obtain ⟨jt, hjt⟩ : ∃ jt, jt = j + t := ⟨_, rfl⟩
            rw [← hjt] at htl htli hx hrow ⊢
            obtain ⟨ao2, cap2, hv2, _, _, hfv, hat⟩ := own_fromV hlr
            obtain ⟨g, hg, _, _⟩ := hat (by omega)
            cases hv2
            subst hg
            obtain ⟨b2, off2, hbo, hcv⟩ := hfv (by omega)
            cases hbo
            obtain ⟨d0, d1, d2, d3, d4, d5, d6⟩ := hcv _ _ hx
            simp only [Nat.zero_add] at d0 d1 d2 d3 d4 d5 d6
            have HBW : Hid _ := hbw
            have HSZ : Hid (wd.heap.size ≤ wr.heap.size) := hbw.size
            have HJT : Hid (jt = j + t) := hjt
            obtain ⟨aom, capm, hvm, hvm9⟩ := own_slice hrow
            subst hvm
            have HRO : Hid (World.ownsRow wr wd.heap.size 46 7 (.slice aom (jt + 1) capm) (jt + 1) (flatV (mixed ds j { bad with v := -kv } t))) := hrow
            clear hvm9 hfv hat hcv hx hlr hbw hrow hjt
            go_wp2_with (first | (at_builtin; go_must (refine wpList_appV rfl _ _ rfl wd.heap.size (jt + 1) _ (mixed ds j { bad with v := -kv } t) rfl HRO.out x rfl (by first | rfl | simp) (by omega) HSZ.out ?_)))
            intro v' w5 ho5 hg5
            obtain ⟨ao5, cap5, hv5, hv59⟩ := own_slice ho5
            subst hv5
            have HB5 : Hid (Below wd.heap.size wd w5) := HBW.out.trans (hg5.below (fun j e => (ownsRow_lt HRO.out e).1) HBW.out.size)
            have HO5 : Hid (w5.ownsRow wd.heap.size 46 7 (.slice ao5 (jt + 1 + 1) cap5) (j + (t + 1) + 1) (flatV (mixed ds j { bad with v := -kv } (t + 1)))) := show World.ownsRow w5 wd.heap.size 46 7 (.slice ao5 (jt + 1 + 1) cap5) (j + (t + 1) + 1) (flatV (mixed ds j { bad with v := -kv } (t + 1))) from by
              rw [← HTS.out, show j + (t + 1) + 1 = jt + 1 + 1 from by have := HJT.out; omega]
              exact ho5
            clear ho5 hg5 hv59 d0 d1 d2 d3 d4 d5 d6
            go_wp2_with fail
            go_roundw
            case rel => exact ⟨t + 1, by have := HJT.out; omega, by have := HJT.out; subst this; go_num, ⟨HB5.out, HO5.out⟩⟩
            case measure =>
              have := HJT.out
              simp [intOf]
              omega
          · have htl0 : j + t = ds.length := by omega
            have hnlt : ¬ ((j + t : Nat) : Int) < (ds.length : Int) := by omega
            have hTr := HTD.out.more hbw
            obtain ⟨t0, p1, _⟩ := hTr.cellr (r := 1) hn1
            unfold Ptr at p1
            have hmm : ({ bad with v := -kv } : Ent) ∈ mixed ds j { bad with v := -kv } t := by unfold mixed; simp
            have hml := mixed_len (ds := ds) (k := j) (i := t) (b := { bad with v := -kv }) (by omega) ht
            obtain ⟨tc, tn⟩ := take_bad (n := n) HN.out.1 (M := LV 1) hmm (bad_right _ (by have := HKV.out; show -kv ≤ 0; omega)) (by rw [hml]; omega)
            have HTK : Hid _ := takeG hTr hn1 (HLI.out 1 hn1).len (B := wd.heap.size) (es := mixed ds j { bad with v := -kv } t) (by rw [hml]; exact hrow) (by rw [hml]; omega) (fun e he => by
              rcases mixed_mem he with rfl | he
              · exact ⟨HBS.out.n, HBS.out.c, HBS.out.d, HBS.out.u⟩
              · exact right_sane ((dgB_iff.1 HDO.out.dig).1 e he)) tc tn
            have HTR : Hid _ := hTr
            have HWR : Hid (Below W.heap.size W wr) := HWD.out.trans (hbw.mono HWD.out.size)
            have HLR : Hid _ := row_more hbw HOD.out
            clear hbw hrow hTr hmm hml tc tn HOD HTD HWD HBD htl0
            go_wp2_with fail
            refine Calls.mono HTK.out ?_
            rintro e w6 ⟨rfl, hT6, hc6⟩
            rw [updL_self rfl] at hT6
            have HK6 : Hid (KRel L tb vr vc n hb mb LV hv Hs W (.slice aol ds.length capl) ds w6) := ⟨hT6, HWR.out.trans ((hc6.below HTR.out.low (fun k e => by rw [e]; exact HTR.out.lo.2 1 hn1)).mono (Nat.le_trans HWX.out.size HLW.out)), row_map (HTR.out.vs 1 hn1).map hc6 HLR.out⟩
            clear hT6 hc6 HTK HTR HWR HLR t0 p1
            go_wp2_with fail
            go_loopw [21, 22] (fun i _ wr => ∃ m : Nat, m ≤ ds.length ∧ i = .int .i64 m ∧ KRel L tb vr vc n hb mb LV hv Hs W (.slice aol ds.length capl) ds wr) (fun i _ _ => ds.length - (intOf i).toNat)
            case atStart => exact ⟨0, Nat.zero_le _, rfl, HK6.out⟩
            case round =>
              obtain ⟨m, hm, rfl, hRi⟩ := hrel
              clear HK6
              by_cases hml : m < ds.length
              · have HML : Hid (m < ds.length) := hml
                have hwm : IntKind.i64.wrap ((m : Int) + 1) = (m : Int) + 1 := by rw [IntKind.wrap_i64]; omega
                obtain ⟨x, hx⟩ : ∃ x, ds[m]? = some x := ⟨ds[m], List.getElem?_eq_getElem hml⟩
                obtain ⟨hTy, hby, y2⟩ := hRi
                obtain ⟨XT, XV, _⟩ := hTy.cellr (r := 1) hn1
                unfold Ptr at XV
                obtain ⟨ao2, cap2, hv2, _, _, hfv, hat⟩ := own_fromV y2
                obtain ⟨g, hg, _, _⟩ := hat (by omega)
                cases hv2
                subst hg
                obtain ⟨b2, off2, hbo, hcv⟩ := hfv (by omega)
                cases hbo
                have hvat := hcv _ _ hx
                have XN := hvat.c0
                simp only [Nat.zero_add] at XN
                have hRi : KRel L tb vr vc n hb mb LV hv Hs W (.slice (some ⟨g, 0, none⟩) ds.length capl) ds wr := ⟨hTy, hby, y2⟩
                have HKN : Hid (∀ w', KRel L tb vr vc n hb mb LV hv Hs W (.slice (some ⟨g, 0, none⟩) ds.length capl) ds w' → Calls Try.prog 17 #[.pointer (some ⟨hb 1, 0, none⟩), .string ⟨x.n.toArray⟩] w' fun e w'' => ∃ g, e = .returned (.slice (some ⟨g, 0, none⟩) n n) ∧ w''.cell? ⟨g, 0, none⟩ = some (.int .i64 0) ∧ w''.cell? ⟨g, 1, none⟩ = some (.int .i64 0) ∧ Below w'.heap.size w' w'') := fun w' h => known_rel h HN.out (HLI.out 1 hn1) x.n
                have HSR : Hid (∀ w, _) := fun w => sameRights_any 0 0 0 0 w
                clear hTy hby y2 hfv hat hcv hvat hx
                go_wp2_with fail
                rename_i K hK
                try rw [show ∀ a : Act, a.put none undef = a from fun _ => rfl]
                refine wp_region_mix (fun wq => wq.cell? ⟨tb, 0, none⟩ = some (.slice (some ⟨vr, 0, none⟩) n vc) ∧ wq.cell? ⟨vr, 1, none⟩ = some (.pointer (some ⟨hb 1, 0, none⟩)) ∧ wq.cell? ⟨g, m * 7, none⟩ = some (.string ⟨x.n.toArray⟩)) (fun i => i == 11 || i == 99) 99 (by kernel_rfl) rfl (by kernel_rfl) (by kernel_rfl) (by kernel_rfl) ?_
                refine withFrP (N := 167) rfl ?_
                intro f0 F0 hff
                have e11 : f0 11 = Value.pointer (some ⟨tb, 0, none⟩) := hff 11
                have e14 : f0 14 = Value.slice (some ⟨g, 0, none⟩) ds.length capl := hff 14
                have e21 : f0 21 = Value.int .i64 (m : Int) := hff 21
                clear hff
                have HCC : (fun wq => wq.cell? ⟨tb, 0, none⟩ = some (.slice (some ⟨vr, 0, none⟩) n vc) ∧ wq.cell? ⟨vr, 1, none⟩ = some (.pointer (some ⟨hb 1, 0, none⟩)) ∧ wq.cell? ⟨g, m * 7, none⟩ = some (.string ⟨x.n.toArray⟩)) (({ wr with drawn := wr.drawn + 1 } : World)) := ⟨XT, XV, XN⟩
                refine lyp F0 rfl HCC rfl (by omega) (wanted_none rfl) (v := Value.pointer (some ⟨tb, 0, none⟩)) (fun wr hwr => by simp only [execOp, (F0.eval 11 (by omega)).trans (show _ = Value.pointer (some ⟨tb, 0, none⟩) from by simp [upd, e11, e14, e21])]; first | rfl | simp [go_sem]) fun F1 => ?_
                refine lyp F1 rfl HCC rfl (by omega) (wanted_none rfl) (v := Value.pointer (some ⟨tb, 0, none⟩)) (fun wr hwr => by simp only [execOp, (F1.eval 124 (by omega)).trans (show _ = Value.pointer (some ⟨tb, 0, none⟩) from by simp [upd, e11, e14, e21])]; simp [go_sem]) fun F2 => ?_
                refine lyp F2 rfl HCC rfl (by omega) (wanted_none rfl) (v := Value.pointer (some ⟨tb, 0, none⟩)) (fun wr hwr => by simp only [execOp, (F2.eval 125 (by omega)).trans (show _ = Value.pointer (some ⟨tb, 0, none⟩) from by simp [upd, e11, e14, e21])]; simp [go_sem]) fun F3 => ?_
                refine lyp F3 rfl HCC rfl (by omega) (wanted_none rfl) (v := Value.slice (some ⟨vr, 0, none⟩) n vc) (fun wr hwr => by simp only [execOp, (F3.eval 126 (by omega)).trans (show _ = Value.pointer (some ⟨tb, 0, none⟩) from by simp [upd, e11, e14, e21])]; simp [go_sem, hwr.1]) fun F4 => ?_
                refine lyp F4 rfl HCC rfl (by omega) (wanted_none rfl) (v := Value.pointer (some ⟨vr, 1, none⟩)) (fun wr hwr => by simp only [execOp, (F4.eval 127 (by omega)).trans (show _ = Value.slice (some ⟨vr, 0, none⟩) n vc from by simp [upd, e11, e14, e21])]; simp [go_sem, Act.eval, hn1, show ¬ (n : Int) ≤ 1 from by omega]) fun F5 => ?_
                refine lyp F5 rfl HCC rfl (by omega) (wanted_none rfl) (v := Value.pointer (some ⟨hb 1, 0, none⟩)) (fun wr hwr => by simp only [execOp, (F5.eval 128 (by omega)).trans (show _ = Value.pointer (some ⟨vr, 1, none⟩) from by simp [upd, e11, e14, e21])]; simp [go_sem, hwr.2.1]) fun F6 => ?_
                refine lyp F6 rfl HCC rfl (by omega) (wanted_none rfl) (v := Value.slice (some ⟨g, 0, none⟩) ds.length capl) (fun wr hwr => by simp only [execOp, (F6.eval 14 (by omega)).trans (show _ = Value.slice (some ⟨g, 0, none⟩) ds.length capl from by simp [upd, e11, e14, e21])]; first | rfl | simp [go_sem]) fun F7 => ?_
                refine lyp F7 rfl HCC rfl (by omega) (wanted_none rfl) (v := Value.int .i64 (m : Int)) (fun wr hwr => by simp only [execOp, (F7.eval 21 (by omega)).trans (show _ = Value.int .i64 (m : Int) from by simp [upd, e11, e14, e21])]; first | rfl | simp [go_sem]) fun F8 => ?_
                refine lyp F8 rfl HCC rfl (by omega) (wanted_none rfl) (v := Value.pointer (some ⟨g, m * 7, none⟩)) (fun wr hwr => by simp only [execOp, (F8.eval 130 (by omega)).trans (show _ = Value.slice (some ⟨g, 0, none⟩) ds.length capl from by simp [upd, e11, e14, e21]), (F8.eval 131 (by omega)).trans (show _ = Value.int .i64 (m : Int) from by simp [upd, e11, e14, e21])]; simp [go_sem, hml]) fun F9 => ?_
                refine lyp F9 rfl HCC rfl (by omega) (wanted_none rfl) (v := Value.pointer (some ⟨g, m * 7, none⟩)) (fun wr hwr => by simp only [execOp, (F9.eval 132 (by omega)).trans (show _ = Value.pointer (some ⟨g, m * 7, none⟩) from by simp [upd, e11, e14, e21])]; simp [go_sem]) fun F10 => ?_
                refine lyp F10 rfl HCC rfl (by omega) (wanted_none rfl) (v := Value.string ⟨x.n.toArray⟩) (fun wr hwr => by simp only [execOp, (F10.eval 133 (by omega)).trans (show _ = Value.pointer (some ⟨g, m * 7, none⟩) from by simp [upd, e11, e14, e21])]; simp [go_sem, hwr.2.2]) fun F11 => ?_
                refine lcp F11 rfl HCC rfl (by omega) (wanted_none rfl) (g := 17) (args := #[Value.pointer (some ⟨hb 1, 0, none⟩), Value.string ⟨x.n.toArray⟩]) (by simp only [execOp, resolve, invoke, List.map_toArray, List.map_cons, List.map_nil, (F11.eval 129 (by omega)).trans (show _ = Value.pointer (some ⟨hb 1, 0, none⟩) from by simp [upd, e11, e14, e21]), (F11.eval 134 (by omega)).trans (show _ = Value.string ⟨x.n.toArray⟩ from by simp [upd, e11, e14, e21])]; simp [go_sem, Act.eval]) (HKN.out (({ wr with drawn := wr.drawn + 1 } : World)) (KRel.more hRi (Below.drew (Below.refl _ _)))) ?_
                rintro e w8 ⟨gk, rfl, k0, k1, hb8⟩
                refine ⟨_, rfl, fun F12 => ?_⟩
                have HC8 : (fun wq => wq.cell? ⟨tb, 0, none⟩ = some (.slice (some ⟨vr, 0, none⟩) n vc) ∧ wq.cell? ⟨vr, 1, none⟩ = some (.pointer (some ⟨hb 1, 0, none⟩)) ∧ wq.cell? ⟨g, m * 7, none⟩ = some (.string ⟨x.n.toArray⟩)) w8 := ⟨(hb8.cell (p := ⟨tb, 0, none⟩) (World.block_lt_of_cell? wr _ XT)).trans XT, (hb8.cell (p := ⟨vr, 1, none⟩) (World.block_lt_of_cell? wr _ XV)).trans XV, (hb8.cell (p := ⟨g, m * 7, none⟩) (World.block_lt_of_cell? wr _ XN)).trans XN⟩
                refine lyp F12 rfl HC8 rfl (by omega) (wanted_none rfl) (v := Value.slice (some ⟨gk, 0, none⟩) n n) (fun wr hwr => by simp only [execOp, (F12.eval 135 (by omega)).trans (show _ = Value.slice (some ⟨gk, 0, none⟩) n n from by simp [upd, e11, e14, e21])]; first | rfl | simp [go_sem]) fun F13 => ?_
                refine ⟨fun _ => HC8, ?_⟩
                refine hK _ _ ?_
                clear F0 F1 F2 F3 F4 F5 F6 F7 F8 F9 F10 F11 F12 F13 e11 e14 e21 HCC
                simp only [Act.put, List.setIfInBounds_toArray, List.set_cons_succ, List.set_cons_zero]
                have HRj : Hid (KRel L tb vr vc n hb mb LV hv Hs W (.slice (some ⟨g, 0, none⟩) ds.length capl) ds w8) := KRel.more (KRel.more hRi (Below.drew (Below.refl _ _))) hb8
                clear hRi hb8 XT XV XN HKN HC8
                go_wp2_with fail
                refine Calls.mono (HSR.out _) ?_
                rintro e w9 ⟨rfl, hb9⟩
                have HR9 : Hid (KRel L tb vr vc n hb mb LV hv Hs W (.slice (some ⟨g, 0, none⟩) ds.length capl) ds w9) := KRel.more HRj.out hb9
                clear hb9 HRj HSR k0 k1
                go_wp2_with fail
                go_roundw
                case rel => exact ⟨m + 1, HML.out, by have := HML.out; go_num, HR9.out⟩
                case measure =>
                  have := HML.out
                  simp [intOf]
                  omega
              · obtain ⟨hTy, hby, y2⟩ := hRi
                obtain ⟨XT, XV, _⟩ := hTy.cellr (r := 1) hn1
                unfold Ptr at XV
                obtain ⟨fc, fn⟩ := take_firstR (n := n) HN.out.1 (HLI.out 1 hn1) HDO.out
                have HTK : Hid _ := takeG hTy hn1 (HLI.out 1 hn1).len y2 (by omega) (fun e he => right_sane ((dgB_iff.1 HDO.out.dig).1 e he)) fc fn
                have HTY : Hid _ := hTy
                have HBY : Hid _ := hby
                clear hTy hby y2 fc fn
                go_wp2_with fail
                refine Calls.mono HTK.out ?_
                rintro e w7 ⟨rfl, hT7, hc7⟩
                have HF : Hid (Below W.heap.size W w7) := HBY.out.trans ((hc7.below HTY.out.low (fun k e => by rw [e]; exact HTY.out.lo.2 1 hn1)).mono (Nat.le_trans HWX.out.size HLW.out))
                clear hT7 hc7 HTK HTY HBY XT XV
                go_wp2_with fail
                go_ret
                exact ⟨rfl, HF.out⟩
end Go.Proofs.Ytifgmefdlmjocaa
