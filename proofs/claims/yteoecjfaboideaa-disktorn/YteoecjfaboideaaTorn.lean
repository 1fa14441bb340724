import Derived.Test.YteoecjfaboideaaTornT
namespace Go.Proofs.Yteoecjfaboideaa
open Go.RowKit Go.PlainAid
set_option linter.unusedVariables false
set_option linter.unusedSimpArgs false
set_option maxRecDepth 100000 in
set_option maxHeartbeats 12800000 in
theorem torn_law (z1 z2 z3 : Int) (hz2 : -9223372036854775808 ≤ z2 ∧ z2 ≤ 9223372036854775807) (hz3 : -9223372036854775808 ≤ z3 ∧ z3 ≤ 9223372036854775807) (ao : Option Addr) (N cap : Nat) (os : List PutA) (W : World) (hl : os.length = N) (hMx : N ≤ 9223372036854775807) (hok : ∀ o ∈ os, o.ok) (hat : 0 < N → ∃ b off, ao = some ⟨b, off, none⟩ ∧ ∀ (i : Nat) (o : PutA), os[i]? = some o → RowAt W b (off + i * 2) o.row) :
    Calls Try.prog 4 #[.int .i64 z1, .slice ao N cap, .int .i64 z2, .int .i64 z3] W fun e w' => e = .returned (.bool true) ∧ Below W.heap.size W w' := by
  by_cases hbig : 300 < N
  · clear hat hok
    go_enter Try.func4, Try.ntmps4
    go_wp2_with fail
    go_ret
    exact ⟨rfl, Below.refl _ _⟩
  by_cases hzero : N = 0
  · clear hat hok
    subst hzero
    go_enter Try.func4, Try.ntmps4
    go_wp2_with fail
    go_ret
    exact ⟨rfl, Below.refl _ _⟩
  have hN : N ≤ 300 := by omega
  have hN0 : 1 ≤ N := by omega
  have hNb : ((N : Int) == 0) = false := by simp; omega
  obtain ⟨pb, pf, hao, hrow⟩ := hat hN0
  subst hao
  have HROW : Hid (∀ (i : Nat) (o : PutA), os[i]? = some o → RowAt W pb (pf + i * 2) o.row) := hrow
  have HOK : Hid (∀ o ∈ os, o.ok) := hok
  have HOL : Hid (os.length = N) := hl
  have HCT : Hid _ := count_any z1 W
  obtain ⟨k, hk⟩ : ∃ k, k = slotN z2 N := ⟨_, rfl⟩
  obtain ⟨j, hj⟩ : ∃ j, j = slotN z3 513 := ⟨_, rfl⟩
  have HSK : Hid (∀ w, Calls Try.prog 13 #[.int .i64 z2, .int .i64 (N : Int)] w fun e w' => e = .returned (.int .i64 (k : Int)) ∧ w' = w) := fun w => by rw [hk]; exact slot_any z2 N w hz2 ⟨hN0, by omega⟩
  have HSJ : Hid (∀ w, Calls Try.prog 13 #[.int .i64 z3, .int .i64 513] w fun e w' => e = .returned (.int .i64 (j : Int)) ∧ w' = w) := fun w => by rw [hj]; exact slot_any z3 513 w hz3 ⟨by omega, by omega⟩
  have hkN : k < N := by rw [hk]; exact slotN_lt z2 N hN0
  have hj512 : j ≤ 512 := by have := slotN_lt z3 513 (by omega); omega
  clear hat hok hl hbig hz2 hz3 hMx hrow hzero hk hj
  go_enter Try.func4, Try.ntmps4
  go_wp2_with fail
  refine Calls.mono HCT.out ?_
  rintro e w1 ⟨n, hn1, hn2, rfl, hw1⟩
  replace hw1 := hw1.symm
  subst hw1
  have HNW : Hid _ := new_yes n W ⟨hn1, by omega⟩
  clear HCT
  go_wp2_with fail
  refine Calls.mono (HSK.out _) ?_
  rintro e w9 ⟨rfl, hw9⟩
  replace hw9 := hw9.symm
  subst hw9
  go_wp2_with fail
  refine Calls.mono (HSJ.out _) ?_
  rintro e w9 ⟨rfl, hw9⟩
  replace hw9 := hw9.symm
  subst hw9
  go_wp2_with fail
  refine Calls.mono HNW.out ?_
  rintro e w2 ⟨rfl, hd2, hb2⟩
  have HD2 : Hid (DM W.heap.size (W.heap.size + 1) W.heap.size (fresh n) w2) := hd2
  have HB2 : Hid (Below W.heap.size W w2) := hb2
  have HNM : Hid (∀ x w, Calls Try.prog 11 #[.int .i64 x] w fun e w' => e = .returned (.int .i64 x) ∧ w' = w) := fun x w => num_any x w
  clear HNW hd2 hb2 HSK HSJ
  go_wp2_with fail
  refine Calls.mono (HNM.out 0 _) ?_
  rintro e w3 ⟨rfl, hw3⟩
  replace hw3 := hw3.symm
  subst hw3
  obtain ⟨p, hp⟩ : ∃ p, p = W.heap.size + 1 := ⟨_, rfl⟩
  obtain ⟨L, hL⟩ : ∃ L, L = W.heap.size := ⟨_, rfl⟩
  rw [← hp, ← hL] at HD2
  rw [← hL] at HB2
  have HL : Hid (L = W.heap.size) := hL
  have HP : Hid (p = L + 1) := by rw [Hid, hp, hL]
  rw [← hp]
  have HLS : Hid (∀ w', Below L W w' → L ≤ w'.heap.size) := fun w' h => by rw [hL]; exact h.size
  clear hp hL
  go_wp2_with fail
  go_loopw [15, 14] (fun s11 s10 wr => ∃ wv, wv = s10 ∧ ∃ i : Nat, i ≤ n ∧ s11 = .int .i64 (i : Int) ∧ (∃ ds, DM L p L (fresh n) wr ∧ WT L wv ds wr ∧ ds.length = i ∧ ∀ d ∈ ds, d.2 = fullL 0) ∧ Below L W wr) (fun s11 _ _ => n - (intOf s11).toNat)
  case atStart => exact ⟨_, rfl, 0, by omega, rfl, ⟨[], HD2.out, ⟨World.ownsRow_nil _ _ _ _, (fun d hd => by cases hd)⟩, rfl, (fun d hd => by cases hd)⟩, HB2.out⟩
  case round =>
    clear HD2 HB2
    obtain ⟨wv, rfl, i, hi, rfl, ⟨ds, hd, hw, hdl, hda⟩, hb⟩ := hrel
    obtain ⟨wo, wc, hwv, _⟩ := own_slice hw.row
    rw [hdl] at hwv
    by_cases hlt : i < n
    · have HFU : Hid _ := full_any 0 wr
      have HW : Hid (∀ w', Below wr.heap.size wr w' → DM L p L (fresh n) w' ∧ WT L wv ds w') := fun w' hb' => ⟨hd.more hb', hw.more hb'⟩
      have HB : Hid (Below L W wr) := hb
      have HDL : Hid (ds.length = i) := hdl
      have HDA : Hid (∀ d ∈ ds, d.2 = fullL 0) := hda
      have HWV : Hid (wv = .slice wo i wc) := hwv
      clear hd hw hdl hda hb
      subst hwv
      go_wp2_with fail
      refine Calls.mono HFU.out ?_
      rintro e w4 ⟨v4, rfl, hr4, hb4⟩
      obtain ⟨hd4, hw4⟩ := HW.out w4 hb4
      have hLr : L ≤ wr.heap.size := HLS.out _ HB.out
      have hr4' : w4.ownsRow L 5 1 v4 512 ((fullL 0).map B) := ownsRow_mono hr4 hLr
      obtain ⟨vo, vc, hv4, _⟩ := own_slice hr4
      have hb4' : Below L W w4 := HB.out.trans (hb4.mono hLr)
      obtain ⟨v5, w5, hr5, hw5, hg5⟩ := hw4.add (HLS.out _ hb4') hr4' (by rw [HDL.out]; omega)
      have HHR : Hid _ := hr5
      have HN : Hid ((∃ ds, DM L p L (fresh n) w5 ∧ WT L v5 ds w5 ∧ ds.length = i + 1 ∧ ∀ d ∈ ds, d.2 = fullL 0) ∧ Below L W w5) := by
        refine ⟨⟨_, hd4.keep hg5.chg (fun k hk hg => hd4.not_row hw4.row (by decide) hg hk), hw5, by rw [List.length_append, HDL.out]; rfl, fun d hm => ?_⟩, hb4'.trans (hg5.below (fun q hq => (hw4.lt hq).1) (HLS.out _ hb4'))⟩
        rcases List.mem_append.1 hm with h2 | h2
        · exact HDA.out d h2
        · rw [List.mem_singleton.1 h2]
      subst hv4
      clear HFU hr4 hb4 hd4 hw4 hr4' hb4' hr5 hw5 hg5 hLr
      go_wp2_with (at_builtin; refine wpList_runs rfl _ _ 29 rfl rfl rfl HHR.out ?_)
      go_roundw
      case rel => exact ⟨_, rfl, i + 1, by omega, by go_num, HN.out.1, HN.out.2⟩
      case measure => simp [intOf]; omega
    · obtain rfl : i = n := by omega
      have hds : ∀ (j : Nat) (d : Value × List UInt8), ds[j]? = some d → d.2 = secL (fresh i).b j := fun j d hj => by
        rw [fresh_sec]
        exact hda d (List.mem_of_getElem? hj)
      have HAR : Hid _ := arm_on (k : Int) (j : Int) wr hd rfl (by omega)
      have HD : Hid (DM L p L (fresh i) wr) := hd
      have HW : Hid (WT L (.slice wo i wc) ds wr ∧ ds.length = i ∧ ∀ (j : Nat) (d : Value × List UInt8), ds[j]? = some d → d.2 = secL (fresh i).b j) := ⟨by rw [← hwv]; exact hw, hdl, hds⟩
      have HB : Hid (Below L W wr) := hb
      subst hwv
      clear hd hw hdl hda hb hds
      go_wp2_with fail
      refine Calls.mono HAR.out ?_
      rintro e wA ⟨rfl, hdA, hcA⟩
      clear HAR
      have hax : (fresh i).arm (k : Int) (j : Int) = { fresh i with armed := true, whole := k, torn := j } := by
        unfold DV.arm tornN
        rw [if_neg (by omega)]
        congr 1
        omega
      rw [hax] at hdA
      obtain ⟨ok, hok⟩ : ∃ o, os[k]? = some o := ⟨os[k]'(by rw [HOL.out]; exact hkN), List.getElem?_eq_getElem (by rw [HOL.out]; exact hkN)⟩
      have HOKK : Hid (os[k]? = some ok) := hok
      obtain ⟨zk, hzk⟩ : ∃ zk, zk = slotN ok.z i := ⟨_, rfl⟩
      have HZK : Hid (zk = slotN ok.z i) := hzk
      have HI : Hid (TI L p L i (.slice wo i wc) k j zk 0 wA ∧ Below L W wA) := by
        obtain ⟨h1, h2, h3⟩ := HW.out
        exact ⟨⟨_, ds, hdA, h1.disk HD.out (hcA.mono (fun _ _ e => Or.inl e)), h2, rfl, h3, Or.inl ⟨by omega, rfl, rfl, by show k = k - 0; omega, rfl, rfl⟩⟩, HB.out.trans (hcA.below (HLS.out _ HB.out) (fun q hq => by have := HP.out; omega))⟩
      clear HD HW HB hdA hcA hax hok hzk
      go_wp2_with fail
      go_loopw [16] (fun s16 wr => ∃ q : Nat, q ≤ N ∧ s16 = .int .i64 (q : Int) ∧ TI L p L i (.slice wo i wc) k j zk q wr ∧ Below L W wr) (fun s16 _ => N - (intOf s16).toNat)
      case atStart => exact ⟨0, by omega, rfl, HI.out.1, HI.out.2⟩
      case round =>
        clear HI
        obtain ⟨q, hq, rfl, hti, hb⟩ := hrel
        by_cases hlt2 : q < N
        · obtain ⟨x, ds, hd, hw, hdl, hxn, hxs, hxc⟩ := hti.ex
          have hol := HOL.out
          obtain ⟨o, ho⟩ : ∃ o, os[q]? = some o := ⟨os[q]'(by omega), List.getElem?_eq_getElem (by omega)⟩
          have hro := HROW.out q o ho
          have hpb : pb < W.heap.size := hro.lt (by simp [PutA.row])
          have hro2 := hro.below hb (by rw [HL.out]; exact hpb)
          have kz : wr.cell? ⟨pb, pf + q * 2, none⟩ = some (.int .i64 o.z) := hro2 0 _ rfl
          have kf : wr.cell? ⟨pb, pf + q * 2 + 1, none⟩ = some (.int .u8 (o.f.toNat : Int)) := hro2 1 _ rfl
          have hozb := HOK.out o (List.mem_of_getElem? ho)
          obtain ⟨t, ht⟩ : ∃ t, t = slotN o.z i := ⟨_, rfl⟩
          have hsl := slot_any o.z i wr hozb ⟨hn1, by omega⟩
          have htn : t < i := by rw [ht]; exact slotN_lt o.z i hn1
          rw [← ht] at hsl
          have HSL : Hid _ := hsl
          have HTZ : Hid (q = k → t = zk) := fun e => by
            have h1 := HOKK.out
            have h2 := HZK.out
            subst e
            rw [ho] at h1
            cases h1
            rw [ht, h2]
          have HRO : Hid (RowAt W pb (pf + q * 2) o.row) := hro
          have HPB : Hid (pb < W.heap.size) := hpb
          have HB : Hid (Below L W wr) := hb
          have HST : Hid (DM L p L x wr ∧ WT L (.slice wo i wc) ds wr ∧ ds.length = i ∧ x.n = i ∧ (∀ (a : Nat) (d : Value × List UInt8), ds[a]? = some d → d.2 = secL x.b a)) := ⟨hd, hw, hdl, hxn, hxs⟩
          have HXC : Hid _ := hxc
          have HFU : Hid _ := full_any o.f wr
          have HWO : Hid (∃ g, wo = some ⟨g, 0, none⟩) := by
            obtain ⟨g, cap, e, _⟩ := hw.at' (i := t) (d := ds[t]'(by omega)) (List.getElem?_eq_getElem (by omega))
            cases e
            exact ⟨_, rfl⟩
          clear hti hd hw hdl hxn hxs hxc hol ho hro hpb hro2 hozb ht hb hsl
          go_wp2_with fail
          refine Calls.mono HSL.out ?_
          rintro e w9 ⟨rfl, hw9⟩
          replace hw9 := hw9.symm
          subst hw9
          clear HSL
          go_wp2_with fail
          refine Calls.mono HFU.out ?_
          rintro e w4 ⟨v4, rfl, hr4, hb4⟩
          clear HFU
          obtain ⟨hd, hw, hdl, hxn, hxs⟩ := HST.out
          have hv4p : ∀ ad k c, v4 = .slice (some ad) k c → ad.block ≠ p := fun ad k c e => by
            have h1 := (hd.lt (k := p) (.inl rfl)).2
            subst e
            rcases hr4.2 with ⟨e1, e2⟩ | ⟨g, c', cur, e1, h2, _⟩
            · cases e1
            · cases e1; show g ≠ p; omega
          have hb4' : Below L W w4 := HB.out.trans (hb4.mono (HLS.out _ HB.out))
          have HB4 : Hid (Below L W w4) := hb4'
          have HW4 : Hid (DM L p L x w4 ∧ WT L (.slice wo i wc) ds w4) := ⟨hd.more hb4, hw.more hb4⟩
          have HR4 : Hid (w4.ownsRow L 5 1 v4 512 ((fullL o.f).map B)) := ownsRow_mono hr4 (HLS.out _ HB.out)
          have hby4 : By w4 v4 (fullL o.f) := own_by (by rw [fullL_len]; exact hr4)
          clear HB kz kf
          rcases Nat.lt_trichotomy q k with hqk | hqk | hqk
          · have hc : x.off = false ∧ x.armed = true ∧ x.whole = k - q ∧ x.torn = j ∧ x.writes = q := by
              rcases HXC.out with ⟨_, h⟩ | ⟨h, _⟩
              · exact h
              · omega
            obtain ⟨hxo, hxa, hxw, hxt, hxq⟩ := hc
            have HWR : Hid _ := write_whole t w4 HW4.out.1 hxo (by omega) (fullL_len o.f) hby4 hv4p (by omega) (by omega) (by omega)
            obtain ⟨vo, vc, hv4, _⟩ := own_slice hr4
            have HV4 : Hid (v4 = .slice vo 512 vc) := hv4
            subst hv4
            clear hr4 hb4 hd hw hdl hxn hxs hv4p hb4' hby4
            go_wp2_with fail
            refine Calls.mono HWR.out ?_
            rintro e w5 ⟨rfl, hd5, hc5⟩
            clear HWR
            have hw5 := HW4.out.2.disk HW4.out.1 hc5
            have hb5 : Below L W w5 := HB4.out.trans (hc5.below (HLS.out _ HB4.out) (fun k hk => (hd5.lt hk).1))
            have HR5 : Hid (w5.ownsRow L 5 1 (.slice vo 512 vc) 512 ((fullL o.f).map B)) := own_keep2 HR4.out hc5 (fun g hg => HW4.out.1.not_row HR4.out (by decide) hg)
            have HS5 : Hid (DM L p L ((x.noted t).dec.put t 512 (fullL o.f)) w5 ∧ WT L (.slice wo i wc) ds w5 ∧ Below L W w5) := ⟨hd5, hw5, hb5⟩
            have hio := isOn_any w5 hd5
            have hxo' : ((x.noted t).dec.put t 512 (fullL o.f)).off = false := by unfold DV.dec; split <;> exact hxo
            rw [hxo'] at hio
            have HIO : Hid _ := hio
            clear HB4 HW4 HR4 hd5 hc5 hw5 hb5 hio hxo'
            go_wp2_with fail
            refine Calls.mono (HNM.out 0 _) ?_
            rintro e w9 ⟨rfl, hw9⟩
            replace hw9 := hw9.symm
            subst hw9
            have hqk1 : (q : Int) < (k : Int) := by omega
            have hqkd : decide ((q : Int) < (k : Int)) = true := decide_eq_true hqk1
            go_wp2_with fail
            refine Calls.mono HIO.out ?_
            rintro e w9 ⟨rfl, hw9⟩
            replace hw9 := hw9.symm
            subst hw9
            clear HIO
            obtain ⟨g, hg⟩ := HWO.out
            obtain ⟨hd5, hw5, hb5⟩ := HS5.out
            obtain ⟨_, _, hdl, hxn, hxs⟩ := HST.out
            subst hg
            obtain ⟨hw8, hc8⟩ := hw5.set (i := t) hdl HR5.out
            obtain ⟨g', c', e', kg, fg⟩ := hw5.at' (i := t) (d := ds[t]'(by omega)) (List.getElem?_eq_getElem (by omega))
            obtain rfl := slice_g e'
            clear e'
            have hd8 := hd5.keep hc8 (fun a ha e => hd5.not_row hw5.row (by decide) (g := g') rfl (by subst e; exact ha))
            have HN : Hid (TI L p L i (.slice (some ⟨g', 0, none⟩) i wc) k j zk (q + 1) (w5.setCell ⟨g', t, none⟩ (.slice vo 512 vc)) ∧ Below L W (w5.setCell ⟨g', t, none⟩ (.slice vo 512 vc))) := by
              have hdec : (x.noted t).dec = { x.noted t with whole := x.whole - 1 } := by unfold DV.dec; rw [if_pos (by show x.armed = true; exact hxa)]; rfl
              rw [hdec] at hd8
              refine ⟨⟨_, _, hd8, hw8, by rw [List.length_set]; exact hdl, hxn, fun a d ha => ?_, Or.inl ⟨by omega, hxo, hxa, by show x.whole - 1 = _; omega, hxt, by show x.writes + 1 = _; omega⟩⟩, hb5.trans (hc8.below (HLS.out _ hb5) (fun a ha => by subst ha; exact (hw5.lt rfl).1))⟩
              by_cases e : a = t
              · subst e
                rw [List.getElem?_set_self (by omega)] at ha
                cases ha
                exact (secL_same (fullL_len o.f)).symm
              · rw [List.getElem?_set_ne (fun e' => e e'.symm)] at ha
                rw [secL_put e (Nat.le_refl _)]
                exact hxs a d ha
            obtain ⟨dk, hdk⟩ : ∃ dk, dk = (ds[t]'(by omega)).1 := ⟨_, rfl⟩
            rw [← hdk] at kg
            have hqe : ((q : Int) == (k : Int)) = false := by simp; omega
            clear hd5 hw5 hb5 hdl hxn hxs hxo hxa hxw hxt hxq hw8 hc8 hd8 hdk HS5 HST HR5 HRO HWO HXC HTZ
            go_wp2_with fail
            go_roundw
            case rel => exact ⟨q + 1, by omega, by go_num, HN.out.1, HN.out.2⟩
            case measure => simp [intOf]; omega
          · subst hqk
            have hc : x.off = false ∧ x.armed = true ∧ x.whole = q - q ∧ x.torn = j ∧ x.writes = q := by
              rcases HXC.out with ⟨_, h⟩ | ⟨h, _⟩
              · exact h
              · omega
            obtain ⟨hxo, hxa, hxw, hxt, hxq⟩ := hc
            have HWR : Hid _ := write_torn t w4 HW4.out.1 hxo (by omega) (fullL_len o.f) hby4 hv4p hxa (by omega) (by omega) (by omega)
            obtain ⟨vo, vc, hv4, _⟩ := own_slice hr4
            subst hv4
            clear hr4 hb4 hd hw hdl hxn hxs hv4p hb4' hby4 HR4
            go_wp2_with fail
            refine Calls.mono HWR.out ?_
            rintro e w5 ⟨rfl, hd5, hc5⟩
            clear HWR
            rw [hxt] at hd5
            have hw5 := HW4.out.2.disk HW4.out.1 hc5
            have hb5 : Below L W w5 := HB4.out.trans (hc5.below (HLS.out _ HB4.out) (fun k hk => (hd5.lt hk).1))
            have HS5 : Hid (DM L p L ((x.noted t).put t j (fullL o.f)).offed w5 ∧ WT L (.slice wo i wc) ds w5 ∧ Below L W w5) := ⟨hd5, hw5, hb5⟩
            have hio : Calls Try.prog 17 #[.pointer (some ⟨p, 0, none⟩)] w5 fun e w' => e = .returned (.bool false) ∧ w' = w5 := isOn_any (x := ((x.noted t).put t j (fullL o.f)).offed) w5 hd5
            have HIO : Hid _ := hio
            clear HB4 HW4 hd5 hc5 hw5 hb5 hio
            go_wp2_with fail
            refine Calls.mono (HNM.out 200 _) ?_
            rintro e w9 ⟨rfl, hw9⟩
            replace hw9 := hw9.symm
            subst hw9
            have hqk1 : ¬ (q : Int) < (q : Int) := by omega
            go_wp2_with fail
            refine Calls.mono HIO.out ?_
            rintro e w9 ⟨rfl, hw9⟩
            replace hw9 := hw9.symm
            subst hw9
            clear HIO
            have hro5 := HRO.out.below HS5.out.2.2 (by rw [HL.out]; exact HPB.out)
            have kf : w5.cell? ⟨pb, pf + q * 2 + 1, none⟩ = some (.int .u8 (o.f.toNat : Int)) := hro5 1 _ rfl
            have HFU : Hid _ := full_any o.f w5
            clear hro5
            go_wp2_with fail
            refine Calls.mono HFU.out ?_
            rintro e w6 ⟨v6, rfl, hr6, hb6⟩
            clear HFU kf
            obtain ⟨g, hg⟩ := HWO.out
            obtain ⟨hd5, hw5, hb5⟩ := HS5.out
            obtain ⟨_, _, hdl, hxn, hxs⟩ := HST.out
            subst hg
            have hd6 := hd5.more hb6
            have hw6 := hw5.more hb6
            have hb6' : Below L W w6 := hb5.trans (hb6.mono (HLS.out _ hb5))
            obtain ⟨d, hdt⟩ : ∃ d, ds[t]? = some d := ⟨ds[t]'(by omega), List.getElem?_eq_getElem (by omega)⟩
            obtain ⟨g', c', e', kg, fg⟩ := hw6.at' hdt
            obtain rfl := slice_g e'
            clear e'
            have hrd := hw6.dt d (List.mem_of_getElem? hdt)
            have hdlen : d.2.length = 512 := by have := hrd.1; simpa using this
            obtain ⟨gd, cd, hdv, hcd⟩ : ∃ gd cd, d.1 = .slice (some ⟨gd, 0, none⟩) 512 cd ∧ 512 ≤ cd := by
              rcases hrd.2 with ⟨e1, e2⟩ | ⟨gg, cc, cur, e1, h2, h3, h4, _⟩
              · omega
              · exact ⟨gg, cc, e1, h4⟩
            obtain ⟨g6, c6, hv6, hc6⟩ : ∃ gd cd, v6 = .slice (some ⟨gd, 0, none⟩) 512 cd ∧ 512 ≤ cd := by
              rcases hr6.2 with ⟨e1, e2⟩ | ⟨gg, cc, cur, e1, h2, h3, h4, _⟩
              · omega
              · exact ⟨gg, cc, e1, h4⟩
            have hg6 : w5.heap.size ≤ g6 := by subst hv6; exact (ownsRow_lt hr6 rfl).1
            rw [hdv] at kg
            have hrdd : w6.drew.ownsRow L 5 1 (.slice (some ⟨gd, 0, none⟩) 512 cd) 512 (d.2.map B) := by rw [← hdv]; exact ownsRow_same hrd (fun _ _ => rfl)
            have hr6d : w6.drew.ownsRow L 5 1 (.slice (some ⟨g6, 0, none⟩) 512 c6) 512 ((fullL o.f).map B) := by rw [← hv6]; exact ownsRow_same (ownsRow_mono hr6 (HLS.out _ hb5)) (fun _ _ => rfl)
            obtain ⟨o1, hs1, ho1, ho1'⟩ := slice30c g6 512 c6 j hj512 hc6 w6.drew
            obtain ⟨o2, hs2, ho2, ho2'⟩ := slice30c gd 512 cd j hj512 hcd w6.drew
            have hby := (own_by (by rw [hdlen]; exact hrdd) : By w6.drew (.slice (some ⟨gd, 0, none⟩) 512 cd) d.2).dropc hj512 ho2'
            have hmn : min (d.2.drop j).length (512 - j) = 512 - j := by rw [List.length_drop]; omega
            obtain ⟨w7, hcp, hr7, hc7⟩ := own_copy (o := o1) (dLen := 512 - j) (dCap := c6 - j) hr6d hby (by rw [hmn]; omega)
            rw [hmn] at hcp hr7
            rw [torn_sec (x.noted t) t j o1 (512 - j) o.f d.2 (hxs t d hdt) hj512 ho1' rfl] at hr7
            have hb6d : Below L W w6.drew := hb6'.drew
            have hd7 : DM L p L ((x.noted t).put t j (fullL o.f)).offed w7 := (hd6.drew 1).keep hc7 (fun a ha e => by
              have h1 := (hd5.lt ha).2
              omega)
            have hw7 : WT L (.slice (some ⟨g', 0, none⟩) i wc) ds w7 := hw5.keep ((Chg.ofBelow (fun k => k = g6) hb6).drewN 1 |>.trans hc7 (fun _ _ e => e)) (fun a ha e => by
              have h1 := (ownsRow_lt hw5.row ha).2
              omega) (fun b hb a ha e => by
              have h1 := (ownsRow_lt (hw5.dt b hb) ha).2
              omega)
            have hb7 : Below L W w7 := hb6d.trans (hc7.below (HLS.out _ hb6d) (fun a ha => by have := HLS.out _ hb5; omega))
            obtain ⟨hw8, hc8⟩ := hw7.set (i := t) hdl hr7
            obtain ⟨g'', c'', e', kg7, fg7⟩ := hw7.at' hdt
            obtain rfl := slice_g e'
            clear e'
            rw [hdv] at kg7
            have hd8 := hd7.keep hc8 (fun a ha e => hd7.not_row hw7.row (by decide) (g := g'') rfl (by subst e; exact ha))
            have HN : Hid (TI L p L i (.slice (some ⟨g'', 0, none⟩) i wc) q j zk (q + 1) (w7.setCell ⟨g'', t, none⟩ (.slice (some ⟨g6, 0, none⟩) 512 c6)) ∧ Below L W (w7.setCell ⟨g'', t, none⟩ (.slice (some ⟨g6, 0, none⟩) 512 c6))) := by
              refine ⟨⟨_, _, hd8, hw8, by rw [List.length_set]; exact hdl, hxn, fun a b ha => ?_, Or.inr ⟨by omega, rfl, rfl, rfl, by show x.writes + 1 = _; omega, ?_⟩⟩, hb7.trans (hc8.below (HLS.out _ hb7) (fun a ha => by subst ha; exact (hw7.lt rfl).1))⟩
              · by_cases e : a = t
                · subst e
                  rw [List.getElem?_set_self (by omega)] at ha
                  cases ha
                  rfl
                · rw [List.getElem?_set_ne (fun e' => e e'.symm)] at ha
                  show b.2 = secL ((x.noted t).put t j (fullL o.f)).b a
                  rw [secL_put e hj512]
                  exact hxs a b ha
              · show (if q % 64 = x.writes % 64 then t else x.tr (q % 64)) = zk
                rw [hxq, if_pos rfl]
                first | exact HTZ.out rfl | exact HTZ.out trivial | exact HTZ.out
            have hti : (t : Int) < (i : Int) := by omega
            subst hv6
            clear hd5 hw5 hb5 hdl hxn hxs hxo hxa hxw hxt hxq hw8 hc8 hd8 HS5 HST HRO HWO HXC HTZ hd6 hw6 hb6' hrd hdlen hrdd hr6d ho1 ho1' ho2 ho2' hby hmn hr7 hc7 hb6d hd7 hw7 hb7 hr6 hb6 hdt hcd hc6 hg6 hdv
            go_wp2_with fail
            go_region
            all_goals (go_wp2_with fail)
            all_goals (first | (refine ⟨⟨q + 1, by omega, by go_num, HN.out.1, HN.out.2⟩, ?_⟩; simp [intOf]; omega) | (go_roundw; exact ⟨q + 1, by omega, by go_num, HN.out.1, HN.out.2⟩; simp [intOf]; omega))
          · have hc : x.off = true ∧ x.armed = false ∧ x.whole = 0 ∧ x.writes = k + 1 ∧ x.tr (k % 64) = zk := by
              rcases HXC.out with ⟨h, _⟩ | ⟨_, h⟩
              · omega
              · exact h
            obtain ⟨hxo, hxa, hxw, hxq, hxt⟩ := hc
            have hre : reachE x (t : Int) = 200 := by unfold reachE; rw [if_pos hxo]
            have hwn := write_no (v := v4) (t : Int) w4 HW4.out.1 (by rw [hre]; decide)
            rw [hre] at hwn
            have HWR : Hid _ := hwn
            have hio := isOn_any w4 HW4.out.1
            rw [hxo] at hio
            have HIO : Hid _ := hio
            have HN : Hid (TI L p L i (.slice wo i wc) k j zk (q + 1) w4 ∧ Below L W w4) := ⟨⟨x, ds, HW4.out.1, HW4.out.2, hdl, hxn, hxs, Or.inr ⟨by omega, hxo, hxa, hxw, hxq, hxt⟩⟩, HB4.out⟩
            obtain ⟨vo, vc, hv4, _⟩ := own_slice hr4
            subst hv4
            clear hr4 hb4 hd hw hdl hxn hxs hv4p hb4' hby4 hwn hio hxo hxa hxw hxq hxt hre HW4 HB4 HR4 HST HXC HRO HWO HTZ
            go_wp2_with fail
            refine Calls.mono HWR.out ?_
            rintro e w9 ⟨rfl, hw9⟩
            replace hw9 := hw9.symm
            subst hw9
            clear HWR
            go_wp2_with fail
            refine Calls.mono (HNM.out 200 _) ?_
            rintro e w9 ⟨rfl, hw9⟩
            replace hw9 := hw9.symm
            subst hw9
            have hqk1 : ¬ (q : Int) < (k : Int) := by omega
            have hqk2 : (k : Int) ≤ (q : Int) := by omega
            have hqkd : decide ((q : Int) < (k : Int)) = false := decide_eq_false hqk1
            have hqe : ((q : Int) == (k : Int)) = false := by simp; omega
            go_wp2_with fail
            refine Calls.mono HIO.out ?_
            rintro e w9 ⟨rfl, hw9⟩
            replace hw9 := hw9.symm
            subst hw9
            clear HIO
            go_wp2_with fail
            go_roundw
            case rel => exact ⟨q + 1, by omega, by go_num, HN.out.1, HN.out.2⟩
            case measure => simp [intOf]; omega
        · obtain rfl : q = N := by omega
          obtain ⟨x, ds, hd, hw, hdl, hxn, hxs, hxc⟩ := hti.ex
          have hc : x.off = true ∧ x.armed = false ∧ x.whole = 0 ∧ x.writes = k + 1 ∧ x.tr (k % 64) = zk := by
            rcases hxc with ⟨h, _⟩ | ⟨_, h⟩
            · omega
            · exact h
          have HON : Hid _ := on_any wr hd
          have HST : Hid (DM L p L x wr ∧ WT L (.slice wo i wc) ds wr ∧ ds.length = i ∧ x.n = i ∧ (∀ (a : Nat) (d : Value × List UInt8), ds[a]? = some d → d.2 = secL x.b a)) := ⟨hd, hw, hdl, hxn, hxs⟩
          have HXC : Hid _ := hc
          have HB : Hid (Below L W wr) := hb
          clear hti hd hw hdl hxn hxs hxc hc hb
          go_wp2_with fail
          refine Calls.mono HON.out ?_
          rintro e w5 ⟨rfl, hd5, hc5⟩
          clear HON
          obtain ⟨x', hx'⟩ : ∃ x' : DV, x' = { x with off := false } := ⟨_, rfl⟩
          rw [← hx'] at hd5
          have HI : Hid ((DQ L p L i (k + 1) w5 x' ∧ WT L (.slice wo i wc) ds w5) ∧ Below L W w5) := by
            obtain ⟨h1, h2, h3, h4, h5⟩ := HST.out
            obtain ⟨k1, k2, k3, k4, k5⟩ := HXC.out
            refine ⟨⟨⟨hd5, ?_, ?_, ?_, ?_, ?_⟩, h2.disk h1 (hc5.mono (fun _ _ e => Or.inl e))⟩, HB.out.trans (hc5.below (HLS.out _ HB.out) (fun a ha => by have := HP.out; omega))⟩ <;> rw [hx']
            · exact h4
            · exact k2
            · exact k3
            · exact k4
          have HXS : Hid (ds.length = i ∧ (∀ (a : Nat) (d : Value × List UInt8), ds[a]? = some d → d.2 = secL x'.b a) ∧ x'.tr (k % 64) = zk ∧ x'.writes = k + 1) := by
            obtain ⟨h1, h2, h3, h4, h5⟩ := HST.out
            obtain ⟨k1, k2, k3, k4, k5⟩ := HXC.out
            rw [Hid, hx']
            exact ⟨h3, h5, k5, k4⟩
          clear HST HXC HB hd5 hc5 hx'
          go_wp2_with fail
          go_loopw [21] (fun s21 wr => ∃ b : Nat, b ≤ i ∧ s21 = .int .i64 (b : Int) ∧ (DQ L p L i (k + 1) wr x' ∧ WT L (.slice wo i wc) ds wr) ∧ Below L W wr) (fun s21 _ => i - (intOf s21).toNat)
          case atStart => exact ⟨0, by omega, rfl, HI.out.1, HI.out.2⟩
          case round =>
            clear HI
            obtain ⟨b, hb, rfl, ⟨hq', hw⟩, hbl⟩ := hrel
            by_cases hlt3 : b < i
            · obtain ⟨hdl, hxs, _⟩ := HXS.out
              obtain ⟨d, hdj⟩ : ∃ d, ds[b]? = some d := ⟨ds[b]'(by omega), List.getElem?_eq_getElem (by omega)⟩
              obtain ⟨g, cap', e', kg, fg⟩ := hw.at' hdj
              have hr := hw.dt d (List.mem_of_getElem? hdj)
              have hdl2 : d.2.length = 512 := by have := hr.1; simpa using this
              have hrd := reads_any (v := d.1) (bs := d.2) b wr hq'.d hq'.off (by rw [hq'.n]; exact hlt3) (own_by (by rw [hdl2]; exact hr))
              have hbe : (secL x'.b b == d.2) = true := by rw [hxs b d hdj]; simp
              rw [hbe] at hrd
              have hwo : wo = some ⟨g, 0, none⟩ := by cases e'; rfl
              obtain ⟨dv, hdv⟩ : ∃ dv, dv = d.1 := ⟨_, rfl⟩
              rw [← hdv] at hrd kg
              obtain ⟨dvo, dvc, hdvs, _⟩ := own_slice hr
              rw [← hdv] at hdvs
              have HRD : Hid _ := hrd
              have HLI : Hid ((DQ L p L i (k + 1) wr x' ∧ WT L (.slice wo i wc) ds wr) ∧ Below L W wr) := ⟨⟨hq', hw⟩, hbl⟩
              subst hwo
              subst hdvs
              clear hq' hw hbl hdl hxs hr hrd hbe hdl2 hdv hdj e'
              go_wp2_with fail
              refine Calls.mono HRD.out ?_
              rintro e w6 ⟨rfl, hb6⟩
              have HN : Hid ((DQ L p L i (k + 1) w6 x' ∧ WT L (.slice (some ⟨g, 0, none⟩) i wc) ds w6) ∧ Below L W w6) := ⟨⟨HLI.out.1.1.more hb6, HLI.out.1.2.more hb6⟩, HLI.out.2.trans (hb6.mono (HLS.out _ HLI.out.2))⟩
              clear HRD HLI hb6 kg fg
              go_wp2_with fail
              go_roundw
              case rel => exact ⟨b + 1, by omega, by go_num, HN.out.1, HN.out.2⟩
              case measure => simp [intOf]; omega
            · have hii : ¬ ((b : Int) < (i : Int)) := by omega
              obtain ⟨_, _, htr, hwr⟩ := HXS.out
              have htc := trace_any wr hq'.d (by omega)
              obtain ⟨m, hm⟩ : ∃ m, m = min x'.writes 64 := ⟨_, rfl⟩
              rw [← hm] at htc
              have htl : (trL x')[m - 1]? = some (zk : Int) := by
                rw [trL_get x' (m - 1) (by omega), ← htr]
                congr 4
                omega
              have HTC : Hid _ := htc
              have HTL : Hid ((trL x')[m - 1]? = some (zk : Int)) := htl
              have HQ : Hid (DQ L p L i (k + 1) wr x' ∧ Below L W wr) := ⟨hq', hbl⟩
              have hmin : (if (64 : Int) < (k : Int) + 1 then (64 : Int) else (k : Int) + 1) = (m : Int) := by split <;> omega
              have hm1 : 1 ≤ m := by omega
              have hm64 : m ≤ 64 := by omega
              clear hq' hw hbl htr hwr htc htl hm HXS
              go_wp2_with fail
              refine Calls.mono HTC.out ?_
              rintro e w6 ⟨v6, rfl, hr6, hb6⟩
              clear HTC
              obtain ⟨tg, tc, hv6⟩ : ∃ tg tc, v6 = .slice (some ⟨tg, 0, none⟩) m tc := by
                rcases hr6.2 with ⟨e1, e2⟩ | ⟨gg, cc, cur, e1, _⟩
                · omega
                · exact ⟨gg, cc, e1⟩
              subst hv6
              have hqd : DQ L p L i (k + 1) w6 x' := HQ.out.1.more hb6
              have hb6' : Below L W w6 := HQ.out.2.trans (hb6.mono (HLS.out _ HQ.out.2))
              have HDQ : Hid (DQ L p L i (k + 1) w6 x') := hqd
              have HB6 : Hid (Below L W w6) := hb6'
              have kt : w6.cell? ⟨tg, m - 1, none⟩ = some (.int .i64 ((zk : Nat) : Int)) := by
                have := hr6.cells (g := tg) rfl (m - 1) (I (zk : Int)) (by rw [List.getElem?_map, HTL.out]; rfl)
                rwa [addr_add, Nat.zero_add] at this
              have hrok := HROW.out k ok HOKK.out
              have hpb : pb < W.heap.size := hrok.lt (by simp [PutA.row])
              have kz : w6.cell? ⟨pb, pf + k * 2, none⟩ = some (.int .i64 ok.z) := (hrok.below hb6' (by rw [HL.out]; exact hpb)) 0 _ rfl
              have HNT : Hid (¬ down p L tg) := hqd.d.not_row hr6 (by decide) rfl
              have HNP : Hid (¬ down p L pb) := by
                have h1 := HP.out
                have h2 := HL.out
                rintro (e | e) <;> omega
              have hozb := HOK.out ok (List.mem_of_getElem? HOKK.out)
              have HSZ : Hid (∀ w, Calls Try.prog 13 #[.int .i64 ok.z, .int .i64 (i : Int)] w fun e w' => e = .returned (.int .i64 ((zk : Nat) : Int)) ∧ w' = w) := fun w => by rw [HZK.out]; exact slot_any ok.z i w hozb ⟨hn1, by omega⟩
              have HFU1 : Hid (∀ w, Calls Try.prog 12 #[.int .u8 1] w fun e w' => ∃ v', e = .returned v' ∧ w'.ownsRow w.heap.size 5 1 v' 512 ((fullL 1).map B) ∧ Below w.heap.size w w') := fun w => full_any 1 w
              have HWC : Hid (∀ w', Below w6.heap.size w6 w' → Calls Try.prog 20 #[.pointer (some ⟨p, 0, none⟩)] w' fun e w2 => e = .returned (.int .i64 ((k : Nat) + 1)) ∧ w2 = w') := fun w' hbw => by
                have h := writes_any w' (hqd.more hbw).d
                rw [hqd.writes, Int.natCast_add] at h
                exact h
              clear hr6 hb6 hqd hb6' hrok hpb hozb HQ HTL
              go_wp2_with fail
              rename_i K hK
              try rw [show ∀ a : Act, a.put none undef = a from fun _ => rfl]
              refine wp_region_mix (fun wq : World => wq.cell? ⟨tg, m - 1, none⟩ = some (Value.int .i64 ((zk : Nat) : Int)) ∧ wq.cell? ⟨pb, pf + k * 2, none⟩ = some (Value.int .i64 ok.z)) (fun i => i == 1 || i == 26 || i == 31 || i == 32 || i == 33 || i == 99) 99 (by kernel_rfl) rfl (by kernel_rfl) (by kernel_rfl) (by kernel_rfl) ?_
              refine withFrP (N := 197) rfl ?_
              intro f0 F0 hff
              have ee12 : f0 12 = Value.pointer (some ⟨p, 0, none⟩) := hff 12
              have ee10 : f0 10 = Value.int .i64 (k : Nat) := hff 10
              have ee23 : f0 23 = Value.slice (some ⟨tg, 0, none⟩) m tc := hff 23
              have ee1 : f0 1 = Value.slice (some ⟨pb, pf, none⟩) q cap := hff 1
              have ee9 : f0 9 = Value.int .i64 (i : Nat) := hff 9
              clear hff
              have HCC : (fun wq : World => wq.cell? ⟨tg, m - 1, none⟩ = some (Value.int .i64 ((zk : Nat) : Int)) ∧ wq.cell? ⟨pb, pf + k * 2, none⟩ = some (Value.int .i64 ok.z)) (({ w6 with drawn := w6.drawn + 1 } : World)) := ⟨kt, kz⟩
              refine lyp F0 rfl HCC rfl (by omega) (wanted_none rfl) (v := Value.pointer (some ⟨p, 0, none⟩)) (fun wr hwr => by simp only [execOp, (F0.eval 12 (by omega)).trans (show _ = Value.pointer (some ⟨p, 0, none⟩) from by simp [upd, ee12, ee10, ee23, ee1, ee9])]; first | rfl | simp [go_sem]) fun F1 => ?_
              refine lcp F1 rfl HCC rfl (by omega) (wanted_none rfl) (g := 20) (args := #[Value.pointer (some ⟨p, 0, none⟩)]) (by simp only [execOp, resolve, invoke, List.map_toArray, List.map_cons, List.map_nil, (F1.eval 161 (by omega)).trans (show _ = Value.pointer (some ⟨p, 0, none⟩) from by simp [upd, ee12, ee10, ee23, ee1, ee9])]; simp [go_sem, Act.eval]) (HWC.out _ (Below.drew (Below.refl _ _))) ?_
              rintro e9 w9 ⟨rfl, rfl⟩
              refine ⟨_, rfl, fun F2 => ?_⟩
              refine lyp F2 rfl HCC rfl (by omega) (wanted_none rfl) (v := Value.int .i64 (k : Nat)) (fun wr hwr => by simp only [execOp, (F2.eval 10 (by omega)).trans (show _ = Value.int .i64 (k : Nat) from by simp [upd, ee12, ee10, ee23, ee1, ee9])]; first | rfl | simp [go_sem]) fun F3 => ?_
              refine lyp F3 rfl HCC rfl (by omega) (wanted_none rfl) (v := Value.int .i64 ((k : Nat) + 1)) (fun wr hwr => by simp only [execOp, (F3.eval 163 (by omega)).trans (show _ = Value.int .i64 (k : Nat) from by simp [upd, ee12, ee10, ee23, ee1, ee9])]; simp [go_sem, Act.eval, show IntKind.i64.wrap ((k : Nat) + 1) = (k : Nat) + 1 from by rw [IntKind.wrap_i64]; omega]) fun F4 => ?_
              refine lyp F4 rfl HCC rfl (by omega) (wanted_none rfl) (v := Value.bool true) (fun wr hwr => by simp only [execOp, (F4.eval 162 (by omega)).trans (show _ = Value.int .i64 ((k : Nat) + 1) from by simp [upd, ee12, ee10, ee23, ee1, ee9]), (F4.eval 164 (by omega)).trans (show _ = Value.int .i64 ((k : Nat) + 1) from by simp [upd, ee12, ee10, ee23, ee1, ee9])]; simp [go_sem, Act.eval]) fun F5 => ?_
              refine lyp F5 rfl HCC rfl (by omega) (wanted_none rfl) (v := Value.bool true) (fun wr hwr => by simp only [execOp, (F5.eval 165 (by omega)).trans (show _ = Value.bool true from by simp [upd, ee12, ee10, ee23, ee1, ee9])]; first | rfl | simp [go_sem]) fun F6 => ?_
              refine lyp F6 rfl HCC rfl (by omega) (want_yes F6 rfl (e := 166) rfl (by omega) (show _ = Value.bool true from by simp [upd, ee12, ee10, ee23, ee1, ee9])) (v := Value.slice (some ⟨tg, 0, none⟩) m tc) (fun wr hwr => by simp only [execOp, (F6.eval 23 (by omega)).trans (show _ = Value.slice (some ⟨tg, 0, none⟩) m tc from by simp [upd, ee12, ee10, ee23, ee1, ee9])]; first | rfl | simp [go_sem]) fun F7 => ?_
              refine lyp F7 rfl HCC rfl (by omega) (want_yes F7 rfl (e := 166) rfl (by omega) (show _ = Value.bool true from by simp [upd, ee12, ee10, ee23, ee1, ee9])) (v := Value.int .i64 (m : Nat)) (fun wr hwr => by simp only [execOp, resolve, invoke, builtin, List.map_toArray, List.map_cons, List.map_nil, (F7.eval 167 (by omega)).trans (show _ = Value.slice (some ⟨tg, 0, none⟩) m tc from by simp [upd, ee12, ee10, ee23, ee1, ee9])]; simp [go_sem, Builtin.len_, Builtin.lenOf]) fun F8 => ?_
              refine lyp F8 rfl HCC rfl (by omega) (want_yes F8 rfl (e := 166) rfl (by omega) (show _ = Value.bool true from by simp [upd, ee12, ee10, ee23, ee1, ee9])) (v := Value.int .i64 (k : Nat)) (fun wr hwr => by simp only [execOp, (F8.eval 10 (by omega)).trans (show _ = Value.int .i64 (k : Nat) from by simp [upd, ee12, ee10, ee23, ee1, ee9])]; first | rfl | simp [go_sem]) fun F9 => ?_
              refine lyp F9 rfl HCC rfl (by omega) (want_yes F9 rfl (e := 166) rfl (by omega) (show _ = Value.bool true from by simp [upd, ee12, ee10, ee23, ee1, ee9])) (v := Value.int .i64 ((k : Nat) + 1)) (fun wr hwr => by simp only [execOp, (F9.eval 169 (by omega)).trans (show _ = Value.int .i64 (k : Nat) from by simp [upd, ee12, ee10, ee23, ee1, ee9])]; simp [go_sem, Act.eval, show IntKind.i64.wrap ((k : Nat) + 1) = (k : Nat) + 1 from by rw [IntKind.wrap_i64]; omega]) fun F10 => ?_
              refine lyp F10 rfl HCC rfl (by omega) (want_yes F10 rfl (e := 166) rfl (by omega) (show _ = Value.bool true from by simp [upd, ee12, ee10, ee23, ee1, ee9])) (v := Value.int .i64 (m : Nat)) (fun wr hwr => by simp only [execOp, resolve, invoke, builtin, List.map_toArray, List.map_cons, List.map_nil, (F10.eval 170 (by omega)).trans (show _ = Value.int .i64 ((k : Nat) + 1) from by simp [upd, ee12, ee10, ee23, ee1, ee9])]; simp [go_sem, Act.eval, hmin]) fun F11 => ?_
              refine lyp F11 rfl HCC rfl (by omega) (want_yes F11 rfl (e := 166) rfl (by omega) (show _ = Value.bool true from by simp [upd, ee12, ee10, ee23, ee1, ee9])) (v := Value.bool true) (fun wr hwr => by simp only [execOp, (F11.eval 168 (by omega)).trans (show _ = Value.int .i64 (m : Nat) from by simp [upd, ee12, ee10, ee23, ee1, ee9]), (F11.eval 171 (by omega)).trans (show _ = Value.int .i64 (m : Nat) from by simp [upd, ee12, ee10, ee23, ee1, ee9])]; simp [go_sem, Act.eval]) fun F12 => ?_
              refine lyp F12 rfl HCC rfl (by omega) (wanted_none rfl) (v := Value.bool true) (fun wr hwr => by simp only [execOp, (F12.eval 166 (by omega)).trans (show _ = Value.bool true from by simp [upd, ee12, ee10, ee23, ee1, ee9]), (F12.eval 172 (by omega)).trans (show _ = Value.bool true from by simp [upd, ee12, ee10, ee23, ee1, ee9])]; simp [go_sem, Act.eval]) fun F13 => ?_
              refine lyp F13 rfl HCC rfl (by omega) (wanted_none rfl) (v := Value.bool true) (fun wr hwr => by simp only [execOp, (F13.eval 173 (by omega)).trans (show _ = Value.bool true from by simp [upd, ee12, ee10, ee23, ee1, ee9])]; first | rfl | simp [go_sem]) fun F14 => ?_
              refine lyp F14 rfl HCC rfl (by omega) (want_yes F14 rfl (e := 174) rfl (by omega) (show _ = Value.bool true from by simp [upd, ee12, ee10, ee23, ee1, ee9])) (v := Value.slice (some ⟨tg, 0, none⟩) m tc) (fun wr hwr => by simp only [execOp, (F14.eval 23 (by omega)).trans (show _ = Value.slice (some ⟨tg, 0, none⟩) m tc from by simp [upd, ee12, ee10, ee23, ee1, ee9])]; first | rfl | simp [go_sem]) fun F15 => ?_
              refine lyp F15 rfl HCC rfl (by omega) (want_yes F15 rfl (e := 174) rfl (by omega) (show _ = Value.bool true from by simp [upd, ee12, ee10, ee23, ee1, ee9])) (v := Value.slice (some ⟨tg, 0, none⟩) m tc) (fun wr hwr => by simp only [execOp, (F15.eval 23 (by omega)).trans (show _ = Value.slice (some ⟨tg, 0, none⟩) m tc from by simp [upd, ee12, ee10, ee23, ee1, ee9])]; first | rfl | simp [go_sem]) fun F16 => ?_
              refine lyp F16 rfl HCC rfl (by omega) (want_yes F16 rfl (e := 174) rfl (by omega) (show _ = Value.bool true from by simp [upd, ee12, ee10, ee23, ee1, ee9])) (v := Value.int .i64 (m : Nat)) (fun wr hwr => by simp only [execOp, resolve, invoke, builtin, List.map_toArray, List.map_cons, List.map_nil, (F16.eval 176 (by omega)).trans (show _ = Value.slice (some ⟨tg, 0, none⟩) m tc from by simp [upd, ee12, ee10, ee23, ee1, ee9])]; simp [go_sem, Builtin.len_, Builtin.lenOf]) fun F17 => ?_
              refine lyp F17 rfl HCC rfl (by omega) (want_yes F17 rfl (e := 174) rfl (by omega) (show _ = Value.bool true from by simp [upd, ee12, ee10, ee23, ee1, ee9])) (v := Value.int .i64 ((m - 1 : Nat) : Int)) (fun wr hwr => by simp only [execOp, (F17.eval 177 (by omega)).trans (show _ = Value.int .i64 (m : Nat) from by simp [upd, ee12, ee10, ee23, ee1, ee9])]; simp [go_sem, Act.eval, show IntKind.i64.wrap ((m : Int) - 1) = ((m - 1 : Nat) : Int) from by rw [IntKind.wrap_i64]; omega]) fun F18 => ?_
              refine lyp F18 rfl HCC rfl (by omega) (want_yes F18 rfl (e := 174) rfl (by omega) (show _ = Value.bool true from by simp [upd, ee12, ee10, ee23, ee1, ee9])) (v := Value.pointer (some ⟨tg, m - 1, none⟩)) (fun wr hwr => by simp only [execOp, (F18.eval 175 (by omega)).trans (show _ = Value.slice (some ⟨tg, 0, none⟩) m tc from by simp [upd, ee12, ee10, ee23, ee1, ee9]), (F18.eval 178 (by omega)).trans (show _ = Value.int .i64 ((m - 1 : Nat) : Int) from by simp [upd, ee12, ee10, ee23, ee1, ee9])]; simp only [Sem.run_bind, Sem.run_pure, Result.andThen_ok, idx_run 44 3 1 Try.underlying44 (by kernel_rfl) wr tg 0 m tc (m - 1) (by omega), Nat.zero_add, Nat.mul_one]; try rfl) fun F19 => ?_
              refine lyp F19 rfl HCC rfl (by omega) (want_yes F19 rfl (e := 174) rfl (by omega) (show _ = Value.bool true from by simp [upd, ee12, ee10, ee23, ee1, ee9])) (v := Value.int .i64 ((zk : Nat) : Int)) (fun wr hwr => by simp only [execOp, (F19.eval 179 (by omega)).trans (show _ = Value.pointer (some ⟨tg, m - 1, none⟩) from by simp [upd, ee12, ee10, ee23, ee1, ee9])]; simp [go_sem, hwr.1]) fun F20 => ?_
              refine lyp F20 rfl HCC rfl (by omega) (want_yes F20 rfl (e := 174) rfl (by omega) (show _ = Value.bool true from by simp [upd, ee12, ee10, ee23, ee1, ee9])) (v := Value.slice (some ⟨pb, pf, none⟩) q cap) (fun wr hwr => by simp only [execOp, (F20.eval 1 (by omega)).trans (show _ = Value.slice (some ⟨pb, pf, none⟩) q cap from by simp [upd, ee12, ee10, ee23, ee1, ee9])]; first | rfl | simp [go_sem]) fun F21 => ?_
              refine lyp F21 rfl HCC rfl (by omega) (want_yes F21 rfl (e := 174) rfl (by omega) (show _ = Value.bool true from by simp [upd, ee12, ee10, ee23, ee1, ee9])) (v := Value.int .i64 (k : Nat)) (fun wr hwr => by simp only [execOp, (F21.eval 10 (by omega)).trans (show _ = Value.int .i64 (k : Nat) from by simp [upd, ee12, ee10, ee23, ee1, ee9])]; first | rfl | simp [go_sem]) fun F22 => ?_
              refine lyp F22 rfl HCC rfl (by omega) (want_yes F22 rfl (e := 174) rfl (by omega) (show _ = Value.bool true from by simp [upd, ee12, ee10, ee23, ee1, ee9])) (v := Value.pointer (some ⟨pb, pf + k * 2, none⟩)) (fun wr hwr => by simp only [execOp, (F22.eval 181 (by omega)).trans (show _ = Value.slice (some ⟨pb, pf, none⟩) q cap from by simp [upd, ee12, ee10, ee23, ee1, ee9]), (F22.eval 182 (by omega)).trans (show _ = Value.int .i64 (k : Nat) from by simp [upd, ee12, ee10, ee23, ee1, ee9])]; simp only [Sem.run_bind, Sem.run_pure, Result.andThen_ok, idx_run 22 34 2 Try.underlying22 (by kernel_rfl) wr pb pf q cap k (by omega)]; try rfl) fun F23 => ?_
              refine lyp F23 rfl HCC rfl (by omega) (want_yes F23 rfl (e := 174) rfl (by omega) (show _ = Value.bool true from by simp [upd, ee12, ee10, ee23, ee1, ee9])) (v := Value.pointer (some ⟨pb, pf + k * 2, none⟩)) (fun wr hwr => by simp only [execOp, (F23.eval 183 (by omega)).trans (show _ = Value.pointer (some ⟨pb, pf + k * 2, none⟩) from by simp [upd, ee12, ee10, ee23, ee1, ee9])]; simp [go_sem]) fun F24 => ?_
              refine lyp F24 rfl HCC rfl (by omega) (want_yes F24 rfl (e := 174) rfl (by omega) (show _ = Value.bool true from by simp [upd, ee12, ee10, ee23, ee1, ee9])) (v := Value.int .i64 ok.z) (fun wr hwr => by simp only [execOp, (F24.eval 184 (by omega)).trans (show _ = Value.pointer (some ⟨pb, pf + k * 2, none⟩) from by simp [upd, ee12, ee10, ee23, ee1, ee9])]; simp [go_sem, hwr.2]) fun F25 => ?_
              refine lyp F25 rfl HCC rfl (by omega) (want_yes F25 rfl (e := 174) rfl (by omega) (show _ = Value.bool true from by simp [upd, ee12, ee10, ee23, ee1, ee9])) (v := Value.int .i64 (i : Nat)) (fun wr hwr => by simp only [execOp, (F25.eval 9 (by omega)).trans (show _ = Value.int .i64 (i : Nat) from by simp [upd, ee12, ee10, ee23, ee1, ee9])]; first | rfl | simp [go_sem]) fun F26 => ?_
              refine lcp F26 rfl HCC rfl (by omega) (want_yes F26 rfl (e := 174) rfl (by omega) (show _ = Value.bool true from by simp [upd, ee12, ee10, ee23, ee1, ee9])) (g := 13) (args := #[Value.int .i64 ok.z, Value.int .i64 (i : Nat)]) (by simp only [execOp, resolve, invoke, List.map_toArray, List.map_cons, List.map_nil, (F26.eval 185 (by omega)).trans (show _ = Value.int .i64 ok.z from by simp [upd, ee12, ee10, ee23, ee1, ee9]), (F26.eval 186 (by omega)).trans (show _ = Value.int .i64 (i : Nat) from by simp [upd, ee12, ee10, ee23, ee1, ee9])]; simp [go_sem, Act.eval]) (HSZ.out _) ?_
              rintro e9 w9 ⟨rfl, rfl⟩
              refine ⟨_, rfl, fun F27 => ?_⟩
              refine lyp F27 rfl HCC rfl (by omega) (want_yes F27 rfl (e := 174) rfl (by omega) (show _ = Value.bool true from by simp [upd, ee12, ee10, ee23, ee1, ee9])) (v := Value.bool true) (fun wr hwr => by simp only [execOp, (F27.eval 180 (by omega)).trans (show _ = Value.int .i64 ((zk : Nat) : Int) from by simp [upd, ee12, ee10, ee23, ee1, ee9]), (F27.eval 187 (by omega)).trans (show _ = Value.int .i64 ((zk : Nat) : Int) from by simp [upd, ee12, ee10, ee23, ee1, ee9])]; simp [go_sem, Act.eval]) fun F28 => ?_
              refine lyp F28 rfl HCC rfl (by omega) (wanted_none rfl) (v := Value.bool true) (fun wr hwr => by simp only [execOp, (F28.eval 174 (by omega)).trans (show _ = Value.bool true from by simp [upd, ee12, ee10, ee23, ee1, ee9]), (F28.eval 188 (by omega)).trans (show _ = Value.bool true from by simp [upd, ee12, ee10, ee23, ee1, ee9])]; simp [go_sem, Act.eval]) fun F29 => ?_
              refine lyp F29 rfl HCC rfl (by omega) (wanted_none rfl) (v := Value.bool true) (fun wr hwr => by simp only [execOp, (F29.eval 189 (by omega)).trans (show _ = Value.bool true from by simp [upd, ee12, ee10, ee23, ee1, ee9])]; first | rfl | simp [go_sem]) fun F30 => ?_
              refine lyp F30 rfl HCC rfl (by omega) (want_yes F30 rfl (e := 190) rfl (by omega) (show _ = Value.bool true from by simp [upd, ee12, ee10, ee23, ee1, ee9])) (v := Value.pointer (some ⟨p, 0, none⟩)) (fun wr hwr => by simp only [execOp, (F30.eval 12 (by omega)).trans (show _ = Value.pointer (some ⟨p, 0, none⟩) from by simp [upd, ee12, ee10, ee23, ee1, ee9])]; first | rfl | simp [go_sem]) fun F31 => ?_
              refine lcp F31 rfl HCC rfl (by omega) (want_yes F31 rfl (e := 190) rfl (by omega) (show _ = Value.bool true from by simp [upd, ee12, ee10, ee23, ee1, ee9])) (g := 12) (args := #[Value.int .u8 1]) (by simp only [execOp, resolve, invoke, List.map_toArray, List.map_cons, List.map_nil]; simp [go_sem, Act.eval]) (HFU1.out _) ?_
              rintro e9 wa ⟨va, rfl, hra, hba⟩
              refine ⟨_, rfl, fun F32 => ?_⟩
              have HC2 : (fun wq : World => wq.cell? ⟨tg, m - 1, none⟩ = some (Value.int .i64 ((zk : Nat) : Int)) ∧ wq.cell? ⟨pb, pf + k * 2, none⟩ = some (Value.int .i64 ok.z)) wa := ⟨(hba.cell (World.block_lt_of_cell? _ _ HCC.1)).trans HCC.1, (hba.cell (World.block_lt_of_cell? _ _ HCC.2)).trans HCC.2⟩
              have hba' : Below w6.heap.size w6 wa := (Below.drew (Below.refl _ _)).trans hba
              refine lcp F32 rfl HC2 rfl (by omega) (want_yes F32 rfl (e := 190) rfl (by omega) (show _ = Value.bool true from by simp [upd, ee12, ee10, ee23, ee1, ee9])) (g := 14) (args := #[Value.pointer (some ⟨p, 0, none⟩), Value.int .i64 0, va]) (by simp only [execOp, resolve, invoke, List.map_toArray, List.map_cons, List.map_nil, (F32.eval 191 (by omega)).trans (show _ = Value.pointer (some ⟨p, 0, none⟩) from by simp [upd, ee12, ee10, ee23, ee1, ee9]), (F32.eval 192 (by omega)).trans (show _ = va from by simp [upd, ee12, ee10, ee23, ee1, ee9])]; simp [go_sem, Act.eval]) ((HDQ.out.more hba').write (k := 0) hra (by omega) (by omega)) ?_
              rintro e9 wb ⟨rfl, hqb, hcb⟩
              refine ⟨_, rfl, fun F33 => ?_⟩
              have HC3 : (fun wq : World => wq.cell? ⟨tg, m - 1, none⟩ = some (Value.int .i64 ((zk : Nat) : Int)) ∧ wq.cell? ⟨pb, pf + k * 2, none⟩ = some (Value.int .i64 ok.z)) wb := ⟨(World.cell?_of_block (w := wa) (hcb.block tg (World.block_lt_of_cell? _ _ HC2.1) HNT.out)).trans HC2.1, (World.cell?_of_block (w := wa) (hcb.block pb (World.block_lt_of_cell? _ _ HC2.2) HNP.out)).trans HC2.2⟩
              refine lcp F33 rfl HC3 rfl (by omega) (want_yes F33 rfl (e := 190) rfl (by omega) (show _ = Value.bool true from by simp [upd, ee12, ee10, ee23, ee1, ee9])) (g := 11) (args := #[Value.int .i64 0]) (by simp only [execOp, resolve, invoke, List.map_toArray, List.map_cons, List.map_nil, (F33.eval 193 (by omega)).trans (show _ = Value.int .i64 0 from by simp [upd, ee12, ee10, ee23, ee1, ee9])]; simp [go_sem, Act.eval]) (HNM.out 0 _) ?_
              rintro e9 w9 ⟨rfl, hw9⟩
              replace hw9 := hw9.symm
              subst hw9
              refine ⟨_, rfl, fun F34 => ?_⟩
              refine lyp F34 rfl HC3 rfl (by omega) (want_yes F34 rfl (e := 190) rfl (by omega) (show _ = Value.bool true from by simp [upd, ee12, ee10, ee23, ee1, ee9])) (v := Value.bool true) (fun wr hwr => by simp only [execOp, (F34.eval 194 (by omega)).trans (show _ = Value.int .i64 0 from by simp [upd, ee12, ee10, ee23, ee1, ee9])]; simp [go_sem, Act.eval]) fun F35 => ?_
              refine lyp F35 rfl HC3 rfl (by omega) (wanted_none rfl) (v := Value.bool true) (fun wr hwr => by simp only [execOp, (F35.eval 190 (by omega)).trans (show _ = Value.bool true from by simp [upd, ee12, ee10, ee23, ee1, ee9]), (F35.eval 195 (by omega)).trans (show _ = Value.bool true from by simp [upd, ee12, ee10, ee23, ee1, ee9])]; simp [go_sem, Act.eval]) fun F36 => ?_
              refine lyp F36 rfl HC3 rfl (by omega) (wanted_none rfl) (v := Value.bool true) (fun wr hwr => by simp only [execOp, (F36.eval 196 (by omega)).trans (show _ = Value.bool true from by simp [upd, ee12, ee10, ee23, ee1, ee9])]; first | rfl | simp [go_sem]) fun F37 => ?_
              refine ⟨fun _ => HC3, ?_⟩
              refine hK _ _ ?_
              clear F0 F1 F2 F3 F4 F5 F6 F7 F8 F9 F10 F11 F12 F13 F14 F15 F16 F17 F18 F19 F20 F21 F22 F23 F24 F25 F26 F27 F28 F29 F30 F31 F32 F33 F34 F35 F36 F37 ee12 ee10 ee23 ee1 ee9 HCC HC2 HC3
              simp only [Act.put, List.setIfInBounds_toArray, List.set_cons_succ, List.set_cons_zero]
              have HF : Hid (Below L W wb) := by
                have h1 : Below L W wa := HB6.out.trans (hba'.mono (HLS.out _ HB6.out))
                exact h1.trans (hcb.below (HLS.out _ h1) (fun a ha => (hqb.d.lt ha).1))
              clear hra hba hba' hqb hcb kt kz hmin
              go_wp2_with fail
              go_ret
              exact ⟨rfl, by rw [← HL.out]; exact HF.out⟩
end Go.Proofs.Yteoecjfaboideaa
