import Derived.Test.YtlajcaofpmjdlaaWt
import Derived.Test.YtlajcaofpmjdlaaArgs
namespace Go.Proofs.Ytlajcaofpmjdlaa
open Go.RowKit Go.PlainAid
set_option linter.unusedVariables false
set_option linter.unusedSimpArgs false
/-- The disk and what is wanted of it, after i puts. -/
structure LI (L p s n : Nat) (wv : Value) (i : Nat) (wr : World) : Prop where
  ex : ∃ x ds, DM L p s x wr ∧ WT L wv ds wr ∧ ds.length = n ∧ x.n = n ∧ x.off = false ∧ x.armed = false ∧ x.whole = 0 ∧ x.writes = i ∧ ∀ (j : Nat) (d : Value × List UInt8), ds[j]? = some d → d.2 = secL x.b j
theorem LI.more {L p s n i : Nat} {wv : Value} {w w' : World} (h : LI L p s n wv i w) (hb : Below w.heap.size w w') : LI L p s n wv i w' := by
  obtain ⟨x, ds, h1, h2, h3⟩ := h.ex
  exact ⟨x, ds, h1.more hb, h2.more hb, h3⟩
theorem secL_put {x : DV} {i j m : Nat} {bs : List UInt8} (hne : j ≠ i) (hm : m ≤ 512) : secL (x.put i m bs).b j = secL x.b j := by
  unfold secL DV.put
  apply List.map_congr_left
  intro k hk
  have hk' := List.mem_range.1 hk
  simp only
  rw [if_neg (by omega)]
theorem secL_same {x : DV} {i : Nat} {bs : List UInt8} (hl : bs.length = 512) : secL (x.put i 512 bs).b i = bs := by
  unfold secL DV.put
  apply List.ext_getElem?
  intro j
  by_cases hj : j < 512
  · rw [List.getElem?_map, List.getElem?_range hj]
    simp only [Option.map_some]
    rw [if_pos (by omega), List.getD_eq_getElem?_getD, show i * 512 + j - i * 512 = j by omega, List.getElem?_eq_getElem (by omega)]
    rfl
  · rw [List.getElem?_eq_none (by simp; omega), List.getElem?_eq_none (by omega)]
/-- A put: the disk is written, then what is wanted. -/
theorem LI.wrote {L p s n i k : Nat} {wv v : Value} {f : UInt8} {x : DV} {ds : List (Value × List UInt8)} {w : World} (hd : DM L p s ((x.noted k).dec.put k 512 (fullL f)) w) (hw : WT L wv (ds.set k (v, fullL f)) w) (hl : ds.length = n) (hn : x.n = n) (ho : x.off = false) (ha : x.armed = false) (hwh : x.whole = 0) (hwr : x.writes = i) (hs : ∀ (j : Nat) (d : Value × List UInt8), ds[j]? = some d → d.2 = secL x.b j) (hk : k < n) : LI L p s n wv (i + 1) w := by
  have hdec : (x.noted k).dec = x.noted k := by unfold DV.dec; rw [if_neg (by show ¬ x.armed = true; rw [ha]; simp)]
  rw [hdec] at hd
  refine ⟨_, _, hd, hw, by rw [List.length_set]; exact hl, hn, ho, ha, hwh, by show x.writes + 1 = _; rw [hwr], fun j d hj => ?_⟩
  by_cases e : j = k
  · subst e
    rw [List.getElem?_set_self (by omega)] at hj
    cases hj
    exact (secL_same (fullL_len f)).symm
  · rw [List.getElem?_set_ne (fun e' => e e'.symm)] at hj
    rw [secL_put e (Nat.le_refl _)]
    exact hs j d hj
theorem slice_g {g g' n n' c c' : Nat} (e : Value.slice (some ⟨g, 0, none⟩) n c = .slice (some ⟨g', 0, none⟩) n' c') : g' = g := by cases e; rfl
theorem fresh_sec (n i : Nat) : secL (fresh n).b i = fullL 0 := by
  unfold secL fresh fullL
  apply List.ext_getElem?
  intro j
  rw [List.getElem?_map, List.getElem?_replicate]
  by_cases hj : j < 512
  · rw [List.getElem?_range hj, if_pos hj]; rfl
  · rw [List.getElem?_eq_none (by simp; omega), if_neg hj]; rfl
set_option maxRecDepth 100000 in
set_option maxHeartbeats 6400000 in
theorem lasts_law (z1 z2 : Int) (hz2 : -9223372036854775808 ≤ z2 ∧ z2 ≤ 9223372036854775807) (ao : Option Addr) (N cap : Nat) (os : List PutA) (W : World) (hl : os.length = N) (hMx : N ≤ 9223372036854775807) (hok : ∀ o ∈ os, o.ok) (hat : 0 < N → ∃ b off, ao = some ⟨b, off, none⟩ ∧ ∀ (i : Nat) (o : PutA), os[i]? = some o → RowAt W b (off + i * 2) o.row) :
    Calls Try.prog 3 #[.int .i64 z1, .slice ao N cap, .int .i64 z2] W fun e w' => e = .returned (.bool true) ∧ Below W.heap.size W w' := by
  by_cases hbig : 300 < N
  · clear hat hok
    go_enter Try.func3, Try.ntmps3
    go_wp2_with fail
    go_ret
    exact ⟨rfl, Below.refl _ _⟩
  have hN : N ≤ 300 := by omega
  have HAT : Hid (0 < N → ∃ b off, ao = some ⟨b, off, none⟩ ∧ ∀ (i : Nat) (o : PutA), os[i]? = some o → RowAt W b (off + i * 2) o.row) := hat
  have HOK : Hid (∀ o ∈ os, o.ok) := hok
  have HOL : Hid (os.length = N) := hl
  have HZ2 : Hid _ := hz2
  have HCT : Hid _ := count_any z1 W
  clear hat hok hl hbig hz2 hMx
  go_enter Try.func3, Try.ntmps3
  go_wp2_with fail
  refine Calls.mono HCT.out ?_
  rintro e w1 ⟨n, hn1, hn2, rfl, hw1⟩
  replace hw1 := hw1.symm
  subst hw1
  have HNW : Hid _ := new_yes n W ⟨hn1, by omega⟩
  clear HCT
  go_wp2_with fail
  refine Calls.mono HNW.out ?_
  rintro e w2 ⟨rfl, hd2, hb2⟩
  have HD2 : Hid (DM W.heap.size (W.heap.size + 1) W.heap.size (fresh n) w2) := hd2
  have HB2 : Hid (Below W.heap.size W w2) := hb2
  have HNM : Hid (∀ x w, Calls Try.prog 11 #[.int .i64 x] w fun e w' => e = .returned (.int .i64 x) ∧ w' = w) := fun x w => num_any x w
  clear HNW hd2 hb2
  go_wp2_with fail
  refine Calls.mono (HNM.out 0 _) ?_
  rintro e w3 ⟨rfl, hw3⟩
  replace hw3 := hw3.symm
  subst hw3
  obtain ⟨p, hp⟩ : ∃ p, p = W.heap.size + 1 := ⟨_, rfl⟩
  obtain ⟨L, hL⟩ : ∃ L, L = W.heap.size := ⟨_, rfl⟩
  rw [← hp, ← hL] at HD2
  rw [← hL] at HB2
  have HL : Hid (L = W.heap.size) := hL
  have HP : Hid (p = L + 1) := by rw [Hid, hp, hL]
  rw [← hp]
  have HLS : Hid (∀ w', Below L W w' → L ≤ w'.heap.size) := fun w' h => by rw [hL]; exact h.size
  clear hp hL
  go_wp2_with fail
  go_loopw [11, 10] (fun s11 s10 wr => ∃ wv, wv = s10 ∧ ∃ i : Nat, i ≤ n ∧ s11 = .int .i64 (i : Int) ∧ (∃ ds, DM L p L (fresh n) wr ∧ WT L wv ds wr ∧ ds.length = i ∧ ∀ d ∈ ds, d.2 = fullL 0) ∧ Below L W wr) (fun s11 _ _ => n - (intOf s11).toNat)
  case atStart => exact ⟨_, rfl, 0, by omega, rfl, ⟨[], HD2.out, ⟨World.ownsRow_nil _ _ _ _, (fun d hd => by cases hd)⟩, rfl, (fun d hd => by cases hd)⟩, HB2.out⟩
  case round =>
    clear HD2 HB2
    obtain ⟨wv, rfl, i, hi, rfl, ⟨ds, hd, hw, hdl, hda⟩, hb⟩ := hrel
    obtain ⟨wo, wc, hwv, _⟩ := own_slice hw.row
    rw [hdl] at hwv
    by_cases hlt : i < n
    · have HFU : Hid _ := full_any 0 wr
      have HW : Hid (∀ w', Below wr.heap.size wr w' → DM L p L (fresh n) w' ∧ WT L wv ds w') := fun w' hb' => ⟨hd.more hb', hw.more hb'⟩
      have HB : Hid (Below L W wr) := hb
      have HDL : Hid (ds.length = i) := hdl
      have HDA : Hid (∀ d ∈ ds, d.2 = fullL 0) := hda
      have HWV : Hid (wv = .slice wo i wc) := hwv
      clear hd hw hdl hda hb
      subst hwv
      go_wp2_with fail
      refine Calls.mono HFU.out ?_
      rintro e w4 ⟨v4, rfl, hr4, hb4⟩
      obtain ⟨hd4, hw4⟩ := HW.out w4 hb4
      have hLr : L ≤ wr.heap.size := HLS.out _ HB.out
      have hr4' : w4.ownsRow L 5 1 v4 512 ((fullL 0).map B) := ownsRow_mono hr4 hLr
      obtain ⟨vo, vc, hv4, _⟩ := own_slice hr4
      have hb4' : Below L W w4 := HB.out.trans (hb4.mono hLr)
      obtain ⟨v5, w5, hr5, hw5, hg5⟩ := hw4.add (HLS.out _ hb4') hr4' (by rw [HDL.out]; omega)
      have HHR : Hid _ := hr5
      have HN : Hid ((∃ ds, DM L p L (fresh n) w5 ∧ WT L v5 ds w5 ∧ ds.length = i + 1 ∧ ∀ d ∈ ds, d.2 = fullL 0) ∧ Below L W w5) := by
        refine ⟨⟨_, hd4.keep hg5.chg (fun k hk hg => hd4.not_row hw4.row (by decide) hg hk), hw5, by rw [List.length_append, HDL.out]; rfl, fun d hm => ?_⟩, hb4'.trans (hg5.below (fun q hq => (hw4.lt hq).1) (HLS.out _ hb4'))⟩
        rcases List.mem_append.1 hm with h2 | h2
        · exact HDA.out d h2
        · rw [List.mem_singleton.1 h2]
      subst hv4
      clear HFU hr4 hb4 hd4 hw4 hr4' hb4' hr5 hw5 hg5 hLr
      go_wp2_with (at_builtin; refine wpList_runs rfl _ _ 29 rfl rfl rfl HHR.out ?_)
      go_roundw
      case rel => exact ⟨_, rfl, i + 1, by omega, by go_num, HN.out.1, HN.out.2⟩
      case measure => simp [intOf]; omega
    · obtain rfl : i = n := by omega
      have HI : Hid (LI L p L i (.slice wo i wc) 0 wr) := by
        refine ⟨_, ds, hd, by rw [← hwv]; exact hw, hdl, rfl, rfl, rfl, rfl, rfl, fun j d hj => ?_⟩
        rw [fresh_sec]
        exact hda d (List.mem_of_getElem? hj)
      have HB : Hid (Below L W wr) := hb
      subst hwv
      clear hd hw hdl hda hb
      go_wp2_with fail
      go_loopw [12] (fun s12 wr => ∃ q : Nat, q ≤ N ∧ s12 = .int .i64 (q : Int) ∧ LI L p L i (.slice wo i wc) q wr ∧ Below L W wr) (fun s12 _ => N - (intOf s12).toNat)
      case atStart => exact ⟨0, by omega, rfl, HI.out, HB.out⟩
      case round =>
        clear HI HB
        obtain ⟨q, hq, rfl, hli, hb⟩ := hrel
        by_cases hlt2 : q < N
        · obtain ⟨x, ds, hd, hw, hdl, hxn, hxo, hxa, hxw, hxq, hxs⟩ := hli.ex
          have hol := HOL.out
          obtain ⟨o, ho⟩ : ∃ o, os[q]? = some o := ⟨os[q]'(by omega), List.getElem?_eq_getElem (by omega)⟩
          obtain ⟨pb, pf, hao, hrow⟩ := HAT.out (by omega)
          have hro := hrow q o ho
          have hpb : pb < W.heap.size := hro.lt (by simp [PutA.row])
          have hro2 := hro.below hb (by rw [HL.out]; exact hpb)
          have kz : wr.cell? ⟨pb, pf + q * 2, none⟩ = some (.int .i64 o.z) := hro2 0 _ rfl
          have kf : wr.cell? ⟨pb, pf + q * 2 + 1, none⟩ = some (.int .u8 (o.f.toNat : Int)) := hro2 1 _ rfl
          have hozb := HOK.out o (List.mem_of_getElem? ho)
          have HSL : Hid _ := slot_any o.z i wr hozb ⟨hn1, by omega⟩
          have hsl := slotN_lt o.z i hn1
          obtain ⟨k, hk⟩ : ∃ k, k = slotN o.z i := ⟨_, rfl⟩
          rw [← hk] at HSL hsl
          have HRO : Hid (RowAt W pb (pf + q * 2) o.row) := hro
          have HPB : Hid (pb < W.heap.size) := hpb
          have HB : Hid (Below L W wr) := hb
          have HST : Hid (DM L p L x wr ∧ WT L (.slice wo i wc) ds wr ∧ ds.length = i ∧ x.n = i ∧ x.off = false ∧ x.armed = false ∧ x.whole = 0 ∧ x.writes = q ∧ ∀ (j : Nat) (d : Value × List UInt8), ds[j]? = some d → d.2 = secL x.b j) := ⟨hd, hw, hdl, hxn, hxo, hxa, hxw, hxq, hxs⟩
          have HFU : Hid _ := full_any o.f wr
          have HWO : Hid (∃ g, wo = some ⟨g, 0, none⟩) := by
            obtain ⟨g, cap, e, _⟩ := hw.at' (i := k) (d := ds[k]'(by omega)) (List.getElem?_eq_getElem (by omega))
            cases e
            exact ⟨_, rfl⟩
          subst hao
          clear hli hd hw hdl hxn hxo hxa hxw hxq hxs hol ho hrow hro hpb hro2 hozb hk hb
          go_wp2_with fail
          refine Calls.mono HSL.out ?_
          rintro e w3 ⟨rfl, hw3⟩
          replace hw3 := hw3.symm
          subst hw3
          clear HSL
          go_wp2_with fail
          refine Calls.mono HFU.out ?_
          rintro e w4 ⟨v4, rfl, hr4, hb4⟩
          clear HFU
          obtain ⟨hd, hw, hdl, hxn, hxo, hxa, hxw, hxq, hxs⟩ := HST.out
          have hv4p : ∀ ad k c, v4 = .slice (some ad) k c → ad.block ≠ p := fun ad k c e => by
            have h1 := (hd.lt (k := p) (.inl rfl)).2
            subst e
            rcases hr4.2 with ⟨e1, e2⟩ | ⟨g, c', cur, e1, h2, _⟩
            · cases e1
            · cases e1; show g ≠ p; omega
          have HWR : Hid _ := write_whole k w4 (hd.more hb4) hxo (by omega) (fullL_len o.f) (own_by (by rw [fullL_len]; exact hr4)) hv4p (by rw [hxa]; intro e; cases e) (by omega) (by omega)
          have hb4' : Below L W w4 := HB.out.trans (hb4.mono (HLS.out _ HB.out))
          have HB4 : Hid (Below L W w4) := hb4'
          have HW4 : Hid (DM L p L x w4 ∧ WT L (.slice wo i wc) ds w4) := ⟨hd.more hb4, hw.more hb4⟩
          obtain ⟨vo, vc, hv4, _⟩ := own_slice hr4
          subst hv4
          clear hr4 hb4 hd hw hdl hxn hxo hxa hxw hxq hxs hv4p hb4'
          go_wp2_with fail
          refine Calls.mono HWR.out ?_
          rintro e w5 ⟨rfl, hd5, hc5⟩
          clear HWR
          have hw5 := HW4.out.2.disk HW4.out.1 hc5
          have hb5 : Below L W w5 := HB4.out.trans (hc5.below (HLS.out _ HB4.out) (fun k hk => (hd5.lt hk).1))
          have HS5 : Hid (DM L p L ((x.noted k).dec.put k 512 (fullL o.f)) w5 ∧ WT L (.slice wo i wc) ds w5 ∧ Below L W w5) := ⟨hd5, hw5, hb5⟩
          clear HB HB4 HW4 kz kf hd5 hc5 hw5 hb5
          go_wp2_with fail
          refine Calls.mono (HNM.out 0 _) ?_
          rintro e w6 ⟨rfl, hw6⟩
          replace hw6 := hw6.symm
          subst hw6
          have hro5 := HRO.out.below HS5.out.2.2 (by rw [HL.out]; exact HPB.out)
          have kf : w5.cell? ⟨pb, pf + q * 2 + 1, none⟩ = some (.int .u8 (o.f.toNat : Int)) := hro5 1 _ rfl
          have HFU : Hid _ := full_any o.f w5
          clear hro5
          go_wp2_with fail
          refine Calls.mono HFU.out ?_
          rintro e w7 ⟨v7, rfl, hr7, hb7⟩
          clear HFU kf
          obtain ⟨g, hg⟩ := HWO.out
          obtain ⟨hd5, hw5, hb5⟩ := HS5.out
          obtain ⟨_, _, hdl, hxn, hxo, hxa, hxw, hxq, hxs⟩ := HST.out
          subst hg
          have hd7 := hd5.more hb7
          have hw7 := hw5.more hb7
          have hb7' : Below L W w7 := hb5.trans (hb7.mono (HLS.out _ hb5))
          obtain ⟨hw8, hc8⟩ := hw7.set (i := k) hdl (ownsRow_mono hr7 (HLS.out _ hb5))
          obtain ⟨g', c', e', kg, fg⟩ := hw7.at' (i := k) (d := ds[k]'(by omega)) (List.getElem?_eq_getElem (by omega))
          obtain rfl := slice_g e'
          clear e'
          have hd8 := hd7.keep hc8 (fun j hj e => hd7.not_row hw7.row (by decide) (g := g') rfl (by subst e; exact hj))
          have hLI := LI.wrote hd8 hw8 hdl hxn hxo hxa hxw hxq hxs (by omega)
          have hb8 : Below L W (w7.setCell ⟨g', k, none⟩ v7) := hb7'.trans (hc8.below (HLS.out _ hb7') (fun j hj => by subst hj; exact (hw7.lt rfl).1))
          have HLI : Hid (LI L p L i (.slice (some ⟨g', 0, none⟩) i wc) (q + 1) (w7.setCell ⟨g', k, none⟩ v7)) := hLI
          have HB8 : Hid (Below L W (w7.setCell ⟨g', k, none⟩ v7)) := hb8
          obtain ⟨vo7, vc7, hv7, _⟩ := own_slice hr7
          obtain ⟨dk, hdk⟩ : ∃ dk, dk = (ds[k]'(by omega)).1 := ⟨_, rfl⟩
          rw [← hdk] at kg
          have HS2 : Hid _ := slot_any z2 N (w7.setCell ⟨g', k, none⟩ v7) HZ2.out ⟨by omega, by omega⟩
          obtain ⟨k2, hk2⟩ : ∃ k2, k2 = slotN z2 N := ⟨_, rfl⟩
          rw [← hk2] at HS2
          have HLL : Hid (LI L p L i (.slice (some ⟨g', 0, none⟩) i wc) (q + 1) (w7.setCell ⟨g', k, none⟩ (.slice vo7 512 vc7)) ∧ Below L W (w7.setCell ⟨g', k, none⟩ (.slice vo7 512 vc7))) := by rw [← hv7]; exact ⟨HLI.out, HB8.out⟩
          rw [hv7] at HS2
          subst hv7
          clear hr7 hb7 hd5 hw5 hb5 hdl hxn hxo hxa hxw hxq hxs hd7 hw7 hb7' hw8 hc8 hd8 hLI hb8 hdk HS5 HST hk2 HRO HWO HLI HB8
          go_wp2_with fail
          clear kg fg
          obtain ⟨w8, hw8⟩ : ∃ w8, w8 = w7.setCell ⟨g', k, none⟩ (.slice vo7 512 vc7) := ⟨_, rfl⟩
          rw [← hw8] at HLL HS2 ⊢
          clear hw8
          refine Calls.mono HS2.out ?_
          rintro e w6 ⟨rfl, hw6⟩
          replace hw6 := hw6.symm
          subst hw6
          clear HS2
          by_cases hk2 : (q : Int) = (k2 : Int)
          · obtain ⟨x8, ds8, hd8, hw8, hr8⟩ := HLL.out.1.ex
            have HOF : Hid _ := off_any w8 hd8
            have HX8 : Hid (WT L (.slice (some ⟨g', 0, none⟩) i wc) ds8 w8 ∧ ds8.length = i ∧ x8.n = i ∧ x8.off = false ∧ x8.armed = false ∧ x8.whole = 0 ∧ x8.writes = q + 1 ∧ ∀ (j : Nat) (d : Value × List UInt8), ds8[j]? = some d → d.2 = secL x8.b j) := ⟨hw8, hr8⟩
            have HD8 : Hid (DM L p L x8 w8) := hd8
            have HB8 : Hid (Below L W w8) := HLL.out.2
            have hqk : q = k2 := by omega
            subst hqk
            clear hd8 hw8 hr8 HLL hk2
            go_wp2_with fail
            refine Calls.mono HOF.out ?_
            rintro e w9 ⟨rfl, hd9, hc9⟩
            clear HOF
            have hr200 : ∀ z, reachE x8.offed z = 200 := fun z => by unfold reachE; exact if_pos rfl
            have hrd := read_no 0 w9 hd9 (by rw [hr200]; decide)
            rw [hr200] at hrd
            have HRD : Hid _ := hrd
            have hw9 : WT L (.slice (some ⟨g', 0, none⟩) i wc) ds8 w9 := HX8.out.1.disk HD8.out (hc9.mono (fun _ _ e => Or.inl e))
            have hb9 : Below L W w9 := HB8.out.trans (hc9.below (HLS.out _ HB8.out) (fun k hk => by subst hk; exact hd9.lo.1))
            have HS9 : Hid (DM L p L x8.offed w9 ∧ WT L (.slice (some ⟨g', 0, none⟩) i wc) ds8 w9 ∧ Below L W w9) := ⟨hd9, hw9, hb9⟩
            have HFU : Hid _ := full_any 9 w9
            have HR2 : Hid (∀ z, reachE x8.offed z = 200) := hr200
            clear hd9 hc9 hrd hw9 hb9 HD8 HB8 hr200
            go_wp2_with fail
            refine Calls.mono HRD.out ?_
            rintro e w6 ⟨rfl, hw6⟩
            replace hw6 := hw6.symm
            subst hw6
            clear HRD
            go_wp2_with fail
            refine Calls.mono HFU.out ?_
            rintro e w10 ⟨v10, rfl, hr10, hb10⟩
            clear HFU
            have hd10 := HS9.out.1.more hb10
            have hwn := write_no (v := v10) 0 w10 hd10 (by rw [HR2.out]; decide)
            rw [HR2.out] at hwn
            have HWN : Hid _ := hwn
            have HS10 : Hid (DM L p L x8.offed w10 ∧ WT L (.slice (some ⟨g', 0, none⟩) i wc) ds8 w10 ∧ Below L W w10) := ⟨hd10, HS9.out.2.1.more hb10, HS9.out.2.2.trans (hb10.mono (HLS.out _ HS9.out.2.2))⟩
            obtain ⟨vo10, vc10, hv10, _⟩ := own_slice hr10
            subst hv10
            have HIO : Hid _ := isOn_any w10 hd10
            have HON : Hid _ := on_any w10 hd10
            clear hr10 hb10 hd10 hwn HS9 HR2
            go_wp2_with fail
            refine Calls.mono HWN.out ?_
            rintro e w6 ⟨rfl, hw6⟩
            replace hw6 := hw6.symm
            subst hw6
            clear HWN
            go_wp2_with fail
            refine Calls.mono (HNM.out 200 _) ?_
            rintro e w6 ⟨rfl, hw6⟩
            replace hw6 := hw6.symm
            subst hw6
            go_wp2_with fail
            refine Calls.mono (HNM.out 200 _) ?_
            rintro e w6 ⟨rfl, hw6⟩
            replace hw6 := hw6.symm
            subst hw6
            go_wp2_with fail
            refine Calls.mono HIO.out ?_
            rintro e w6 ⟨rfl, hw6⟩
            replace hw6 := hw6.symm
            subst hw6
            clear HIO
            simp only [DV.offed, Bool.not_true]
            go_wp2_with fail
            refine Calls.mono HON.out ?_
            rintro e w11 ⟨rfl, hd11, hc11⟩
            clear HON
            have HLI : Hid (LI L p L i (.slice (some ⟨g', 0, none⟩) i wc) (q + 1) w11 ∧ Below L W w11) := by
              obtain ⟨_, h1, h2, h3, h4, h5, h6, h7⟩ := HX8.out
              refine ⟨⟨_, ds8, hd11, HS10.out.2.1.disk HS10.out.1 (hc11.mono (fun _ _ e => Or.inl e)), h1, h2, rfl, rfl, rfl, h6, h7⟩, HS10.out.2.2.trans (hc11.below (HLS.out _ HS10.out.2.2) (fun k hk => by subst hk; exact hd11.lo.1))⟩
            clear HX8 HS10 hd11 hc11
            go_wp2_with fail
            go_roundw
            case rel => exact ⟨q + 1, by omega, by go_num, HLI.out.1, HLI.out.2⟩
            case measure => simp [intOf]; omega
          · have hkb : ((q : Int) == (k2 : Int)) = false := by simpa using hk2
            go_wp2_with fail
            go_roundw
            case rel => exact ⟨q + 1, by omega, by go_num, HLL.out.1, HLL.out.2⟩
            case measure => simp [intOf]; omega
        · obtain rfl : q = N := by omega
          have HI : Hid (LI L p L i (.slice wo i wc) q wr ∧ Below L W wr) := ⟨hli, hb⟩
          clear hli hb
          go_wp2_with fail
          go_loopw [18] (fun s18 wr => ∃ j : Nat, j ≤ i ∧ s18 = .int .i64 (j : Int) ∧ LI L p L i (.slice wo i wc) q wr ∧ Below L W wr) (fun s18 _ => i - (intOf s18).toNat)
          case atStart => exact ⟨0, by omega, rfl, HI.out.1, HI.out.2⟩
          case round =>
            clear HI
            obtain ⟨j, hj, rfl, hli, hb⟩ := hrel
            obtain ⟨x, ds, hd, hw, hdl, hxn, hxo, hxa, hxw, hxq, hxs⟩ := id hli.ex
            by_cases hlt3 : j < i
            · obtain ⟨d, hdj⟩ : ∃ d, ds[j]? = some d := ⟨ds[j]'(by omega), List.getElem?_eq_getElem (by omega)⟩
              obtain ⟨g, cap', e', kg, fg⟩ := hw.at' hdj
              have hr := hw.dt d (List.mem_of_getElem? hdj)
              have hdl2 : d.2.length = 512 := by have := hr.1; simpa using this
              have hrd := reads_any (v := d.1) (bs := d.2) j wr hd hxo (by omega) (own_by (by rw [hdl2]; exact hr))
              have hbe : (secL x.b j == d.2) = true := by rw [hxs j d hdj]; simp
              rw [hbe] at hrd
              have hwo : wo = some ⟨g, 0, none⟩ := by cases e'; rfl
              obtain ⟨dv, hdv⟩ : ∃ dv, dv = d.1 := ⟨_, rfl⟩
              rw [← hdv] at hrd kg
              obtain ⟨dvo, dvc, hdvs, _⟩ := own_slice hr
              rw [← hdv] at hdvs
              have HRD : Hid _ := hrd
              have HLI : Hid (LI L p L i (.slice wo i wc) q wr ∧ Below L W wr) := ⟨hli, hb⟩
              subst hwo
              subst hdvs
              clear hli hb hd hw hdl hxn hxo hxa hxw hxq hxs hr hrd hbe hdl2 hdv hdj e'
              go_wp2_with fail
              refine Calls.mono HRD.out ?_
              rintro e w6 ⟨rfl, hb6⟩
              have HN : Hid (LI L p L i (.slice (some ⟨g, 0, none⟩) i wc) q w6 ∧ Below L W w6) := ⟨HLI.out.1.more hb6, HLI.out.2.trans (hb6.mono (HLS.out _ HLI.out.2))⟩
              clear HRD HLI hb6 kg fg
              go_wp2_with fail
              go_roundw
              case rel => exact ⟨j + 1, by omega, by go_num, HN.out.1, HN.out.2⟩
              case measure => simp [intOf]; omega
            · have hii : ¬ ((j : Int) < (i : Int)) := by omega
              have hio := isOn_any wr hd
              rw [hxo] at hio
              have hwr := writes_any wr hd
              rw [hxq] at hwr
              have him := image_any wr hd
              rw [hxn] at him
              have HIO : Hid _ := hio
              have HWR : Hid _ := hwr
              have HIM : Hid _ := him
              have HB : Hid (Below L W wr) := hb
              clear hli hb hd hw hdl hxn hxo hxa hxw hxq hxs hio hwr him
              go_wp2_with fail
              refine Calls.mono HIO.out ?_
              rintro e w6 ⟨rfl, hw6⟩
              replace hw6 := hw6.symm
              subst hw6
              clear HIO
              simp only [Bool.not_false]
              go_wp2_with fail
              refine Calls.mono HWR.out ?_
              rintro e w6 ⟨rfl, hw6⟩
              replace hw6 := hw6.symm
              subst hw6
              clear HWR
              go_wp2_with fail
              refine Calls.mono HIM.out ?_
              rintro e w6 ⟨v6, rfl, hr6, hb6⟩
              obtain ⟨vo6, vc6, hv6, _⟩ := own_slice hr6
              subst hv6
              have HF : Hid (Below L W w6) := HB.out.trans (hb6.mono (HLS.out _ HB.out))
              clear HIM hr6 hb6
              go_wp2_with fail
              go_ret
              refine ⟨?_, by rw [← HL.out]; exact HF.out⟩
              rfl
end Go.Proofs.Ytlajcaofpmjdlaa
