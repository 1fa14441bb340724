import Derived.Test.YtmnihombiabkgaaSlT
import Derived.Deep.CutRange
namespace Go.Proofs.Ytmnihombiabkgaa
open Go.RowKit Go.PlainAid Go.MapKept
set_option linter.unusedVariables false
set_option linter.unusedSimpArgs false
set_option maxRecDepth 100000 in
set_option maxHeartbeats 12800000 in
theorem slots_law (z1 z2 : Int) (hz1 : -9223372036854775808 ≤ z1 ∧ z1 ≤ 9223372036854775807) (hz2 : -9223372036854775808 ≤ z2 ∧ z2 ≤ 9223372036854775807) (ao2 ao3 : Option Addr) (N2 N3 c2 c3 : Nat) (os2 os3 : List LA) (W : World) (h2 : ActsAt W ao2 N2 os2) (h3 : ActsAt W ao3 N3 os3) (hn2 : N2 ≤ maxLen) (hn3 : N3 ≤ maxLen) :
    Calls Try.prog 4 #[.int .i64 z1, .int .i64 z2, .slice ao2 N2 c2, .slice ao3 N3 c3] W fun r w' => r = .returned (.bool true) ∧ Below W.heap.size W w' := by
  have HA2 : Hid (ActsAt W ao2 N2 os2) := h2
  have HA3 : Hid (ActsAt W ao3 N3 os3) := h3
  have HAB : Hid _ := able_any W
  have HWI1 : Hid (∀ w, Calls Try.prog 10 #[.int .i64 z1, .int .i64 64] w _) := fun w => within_any z1 w hz1
  have HWI2 : Hid (∀ w, Calls Try.prog 10 #[.int .i64 z2, .int .i64 64] w _) := fun w => within_any z2 w hz2
  clear h2 h3 hz1 hz2
  go_enter Try.func4, Try.ntmps4
  go_wp2_with fail
  refine Calls.mono HAB.out ?_
  rintro e w1 ⟨rfl, hb1⟩
  have HB1 : Hid (Below W.heap.size W w1) := hb1
  clear hb1 HAB
  go_wp2_with fail
  refine Calls.mono (HWI1.out _) ?_
  rintro e w0 ⟨⟨ua, rfl, hua⟩, hw0⟩
  replace hw0 := hw0.symm
  subst hw0
  have HNEW : Hid _ := new_any ua w1 hua
  go_wp2_with fail
  refine Calls.mono HNEW.out ?_
  rintro e w2 ⟨rfl, hW2, hb2⟩
  have HW2 : Hid _ := hW2
  have HB2 : Hid (Below w1.heap.size w1 w2) := hb2
  clear HNEW hW2 hb2
  obtain ⟨pa, hpa⟩ : ∃ pa, pa = w1.heap.size + 1 := ⟨_, rfl⟩
  rw [← hpa] at HW2 ⊢
  have HPA : Hid (pa = w1.heap.size + 1) := hpa
  clear hpa
  go_wp2_with fail
  refine Calls.mono (HWI2.out _) ?_
  rintro e w0 ⟨⟨ub, rfl, hub⟩, hw0⟩
  replace hw0 := hw0.symm
  subst hw0
  have HNEW : Hid _ := new_any ub w2 hub
  go_wp2_with fail
  refine Calls.mono HNEW.out ?_
  rintro e w3 ⟨rfl, hW3, hb3⟩
  have HW3 : Hid _ := hW3
  have HB3 : Hid (Below w2.heap.size w2 w3) := hb3
  clear HNEW hW3 hb3
  obtain ⟨pb, hpb⟩ : ∃ pb, pb = w2.heap.size + 1 := ⟨_, rfl⟩
  rw [← hpb] at HW3 ⊢
  have HPB : Hid (pb = w2.heap.size + 1) := hpb
  clear hpb
  go_wp2_with fail
  refine Calls.mono (HWI1.out _) ?_
  rintro e w0 ⟨⟨uc, rfl, huc⟩, hw0⟩
  replace hw0 := hw0.symm
  subst hw0
  have HNEW : Hid _ := new_any uc w3 huc
  go_wp2_with fail
  refine Calls.mono HNEW.out ?_
  rintro e w4 ⟨rfl, hW4, hb4⟩
  have HW4 : Hid _ := hW4
  have HB4 : Hid (Below w3.heap.size w3 w4) := hb4
  clear HNEW hW4 hb4 HWI1 HWI2
  obtain ⟨pc, hpc⟩ : ∃ pc, pc = w3.heap.size + 1 := ⟨_, rfl⟩
  rw [← hpc] at HW4 ⊢
  have HPC : Hid (pc = w3.heap.size + 1) := hpc
  clear hpc
  obtain ⟨L, hL⟩ : ∃ L, L = W.heap.size := ⟨_, rfl⟩
  obtain ⟨ma, hma⟩ : ∃ ma, ma = w1.heap.size := ⟨_, rfl⟩
  obtain ⟨mb, hmb⟩ : ∃ mb, mb = w2.heap.size := ⟨_, rfl⟩
  obtain ⟨mc, hmc⟩ : ∃ mc, mc = w3.heap.size := ⟨_, rfl⟩
  have HR0 : Hid (SRel L ⟨ma, pa, ma, ua⟩ ⟨mb, pb, mb, ub⟩ ⟨mc, pc, mc, uc⟩ W 0 w4) := by
    have hpa := HPA.out
    have hpb := HPB.out
    have hpc := HPC.out
    have b12 : w1.heap.size ≤ w2.heap.size := HB2.out.size
    have b23 : w2.heap.size ≤ w3.heap.size := HB3.out.size
    have b01 : W.heap.size ≤ w1.heap.size := HB1.out.size
    have a3 := HW2.out.more HB3.out
    have a4 := a3.more HB4.out
    have c4 := HW3.out.more HB4.out
    have low : ∀ (p q : Nat) (k : Nat), wown p q nil64 k → k = p ∨ k = q := fun p q k hk => by
      rcases hk with h | h | ⟨v, hv, e⟩
      · exact Or.inl h
      · exact Or.inr h
      · unfold nil64 at hv
        rw [List.eq_of_mem_replicate hv] at e
        cases e
    have la := HW2.out.lt (k := pa) (Or.inl rfl)
    have lb := HW3.out.lt (k := pb) (Or.inl rfl)
    have lc := HW4.out.lt (k := pc) (Or.inl rfl)
    refine ⟨⟨0, 0, []⟩, ⟨0, 0, []⟩, nil64, nil64, nil64, ⟨?_, ?_, ?_, ?_, ?_, ?_, ?_, ?_, ?_⟩, by simp, by simp, by simp, by simp⟩
    · rw [hma]; exact ⟨a4, WB.new hua⟩
    · rw [hmb]; exact ⟨c4, WB.new hub⟩
    · rw [hmc]; exact ⟨HW4.out, WB.new huc⟩
    · intro k h1 h2
      rcases low _ _ k h1 with h | h <;> rcases low _ _ k h2 with h' | h' <;> simp only at h h' <;> omega
    · intro k h1 h2
      rcases low _ _ k h1 with h | h <;> rcases low _ _ k h2 with h' | h' <;> simp only at h h' <;> omega
    · intro k h1 h2
      rcases low _ _ k h1 with h | h <;> rcases low _ _ k h2 with h' | h' <;> simp only at h h' <;> omega
    · refine ⟨?_, ?_, ?_⟩ <;> simp only <;> omega
    · rw [hL]
      exact ((HB1.out.trans (HB2.out.mono b01)).trans (HB3.out.mono (by omega))).trans (HB4.out.mono (by omega))
    · have := HB4.out.size; omega
  have HLW : Hid (L = W.heap.size) := hL
  clear HW2 HW3 HW4 HB1 HB2 HB3 HB4 hua hub huc hL hma hmb hmc HPA HPB HPC
  go_wp2_with fail
  go_loopw [15, 16, 17, 18, 19] (fun s15 _ _ _ _ wr => ∃ m : Nat, m ≤ 400 ∧ s15 = .int .i64 (m : Int) ∧ SRel L ⟨ma, pa, ma, ua⟩ ⟨mb, pb, mb, ub⟩ ⟨mc, pc, mc, uc⟩ W m wr) (fun s15 _ _ _ _ _ => 400 - (intOf s15).toNat)
  case atStart => exact ⟨0, by omega, rfl, HR0.out⟩
  case round =>
    clear HR0
    obtain ⟨m, hm, rfl, hR⟩ := hrel
    by_cases hlt : m < N2
    · by_cases h400 : m < 400
      · have h4i : (m : Int) < 400 := by omega
        obtain ⟨s, sc, va, vb, vc, hS, hs1, hs2, hs3, hs4⟩ := hR
        obtain ⟨b2, off2, o, hao, d0, d1, d2, d3, ho⟩ := HA2.out.get (by rw [← HLW.out]; exact hS.bl) hlt
        subst hao
        have HT1 : Hid _ := ticked_any (base := ma) (whb := pa) (mp := ma) (u := ua) (vs := va) (s := s) o.k o.a o.b o.c wr hS.ha (by omega) (by omega)
        have HS : Hid _ := hS
        have HO : Hid (os2[m]? = some o) := ho
        clear hS ho
        go_wp2_with fail
        refine Calls.mono HT1.out ?_
        rintro e w5 ⟨v5, l5, va5, rfl, hal5, hr5, hW5, hs5⟩
        have HS5 : Hid (SS L ⟨ma, pa, ma, ua⟩ ⟨mb, pb, mb, ub⟩ ⟨mc, pc, mc, uc⟩ W (nx o.k o.a o.b o.c s) s sc va5 vb vc w5) := HS.out.set hW5 hs5
        have HR5 : Hid (w5.ownsRow wr.heap.size 50 4 v5 l5.length (flatT l5)) := hr5
        have HAL5 : Hid (al o.k s l5) := hal5
        have HLC : Hid (∀ k, HD.own ⟨mc, pc, mc, uc⟩ vc k → k < wr.heap.size) := fun k hk => (HD.lt HS.out.hc hk).2
        have HLB : Hid (∀ k, HD.own ⟨mb, pb, mb, ub⟩ vb k → k < wr.heap.size) := fun k hk => (HD.lt HS.out.hb hk).2
        have HUA : Hid (Up s.A) := HS.out.ha.wb.up
        have hlA : s.A.length ≤ 1000000 := by have := HS.out.ha.wb.len; omega
        clear hal5 hr5 hW5 hs5 HT1 HS d0 d1 d2 d3
        go_upto_if 84 with fail
        go_cut [18] from 62 to 108 (fun _ wc => ∃ sc5 vc5, SS L ⟨ma, pa, ma, ua⟩ ⟨mb, pb, mb, ub⟩ ⟨mc, pc, mc, uc⟩ W (nx o.k o.a o.b o.c s) s sc5 va5 vb vc5 wc ∧ wc.ownsRow wr.heap.size 50 4 v5 l5.length (flatT l5) ∧ sc5.now ≤ m + 1 ∧ sc5.last ≤ m + 1)
        case first =>
          by_cases h3 : m < N3
          · rw [show decide (m < N3) = true from decide_eq_true h3]
            obtain ⟨b3, off3, o3, hao3, d0, d1, d2, d3, ho3⟩ := HA3.out.get (by rw [← HLW.out]; exact HS5.out.bl) h3
            subst hao3
            have HT3 : Hid _ := ticked_any (base := mc) (whb := pc) (mp := mc) (u := uc) (vs := vc) (s := sc) o3.k o3.a o3.b o3.c w5 HS5.out.hc (by omega) (by omega)
            clear ho3
            go_wp2_with fail
            refine Calls.mono HT3.out ?_
            rintro e w6 ⟨v6, l6, vc6, rfl, _, _, hW6, hs6⟩
            have HS6 : Hid _ := (HS5.out.swac.set hW6 hs6).swac
            have HR6 : Hid (w6.ownsRow wr.heap.size 50 4 v5 l5.length (flatT l5)) := ownsRow_same HR5.out (fun g e => hs6.1.block g (ownsRow_lt HR5.out e).2 (fun hk => by
              have h1 := HLC.out g hk
              have h2 := (ownsRow_lt HR5.out e).1
              omega))
            clear hW6 hs6 HT3 d0 d1 d2 d3
            go_wp2_with fail
            go_meet
            case rel => exact ⟨_, _, HS6.out, HR6.out, by have := (nx_now o3.k o3.a o3.b o3.c sc).1; omega, by have := (nx_now o3.k o3.a o3.b o3.c sc).2; omega⟩
          · rw [show decide (m < N3) = false from decide_eq_false h3]
            go_wp2_with fail
            go_meet
            case rel => exact ⟨_, _, HS5.out, HR5.out, by omega, by omega⟩
        case rest =>
          clear HS5 HR5
          obtain ⟨sc6, vc6, hS6, hr6, hn6, hl6⟩ := hcut
          obtain ⟨b2', off2', o', hao, d0, d1, d2, d3, ho'⟩ := HA2.out.get (by rw [← HLW.out]; exact hS6.bl) hlt
          cases hao
          obtain rfl : o' = o := Option.some.inj (ho'.symm.trans HO.out)
          have HT6 : Hid _ := ticked_any (base := mb) (whb := pb) (mp := mb) (u := ub) (vs := vb) (s := s) o'.k o'.a o'.b o'.c wc hS6.hb (by omega) (by omega)
          have HS6 : Hid _ := hS6
          have HR6 : Hid (wc.ownsRow wr.heap.size 50 4 v5 l5.length (flatT l5)) := hr6
          clear hS6 hr6 ho'
          go_wp2_with fail
          refine Calls.mono HT6.out ?_
          rintro e w7 ⟨v7, l7, vb7, rfl, hal7, hr7, hW7, hs7⟩
          have HS7 : Hid _ := (HS6.out.swap.set hW7 hs7).swap
          have HR7 : Hid (w7.ownsRow wr.heap.size 50 4 v5 l5.length (flatT l5)) := ownsRow_same HR6.out (fun g e => hs7.1.block g (ownsRow_lt HR6.out e).2 (fun hk => by
            have h1 := HLB.out g hk
            have h2 := (ownsRow_lt HR6.out e).1
            omega))
          obtain rfl : l7 = l5 := al_one HUA.out hal7 HAL5.out
          have HSM : Hid _ := same_yes w7 HR7.out hr7 (by have := al_len hal7; omega)
          clear hal7 hr7 hW7 hs7 HT6 HS6 HR6 d0 d1 d2 d3
          go_wp2_with fail
          refine Calls.mono HSM.out ?_
          rintro e w8 ⟨rfl, hb8⟩
          have HS8 : Hid _ := HS7.out.more hb8
          clear hb8 HS7 HSM HR7
          go_wp2_with fail
          go_roundw
          case rel => exact ⟨m + 1, by omega, by go_num, _, _, _, _, _, HS8.out, by have := (nx_now o'.k o'.a o'.b o'.c s).1; omega, by have := (nx_now o'.k o'.a o'.b o'.c s).2; omega, by omega, by omega⟩
          case measure => simp [intOf]; omega
      · have h4i : ¬ (m : Int) < 400 := by omega
        obtain ⟨s, sc, va, vb, vc, hS, hs1, hs2, _, _⟩ := hR
        have hlA : s.A.length ≤ 100000 := by have := hS.ha.wb.len; omega
        have hUA : Up s.A := hS.ha.wb.up
        have HL1 : Hid _ := list_any (base := ma) (whb := pa) (mp := ma) (u := ua) wr hS.ha.wl hS.ha.wb.hu hlA
        have HS : Hid _ := hS
        have HUA : Hid (Up s.A) := hUA
        clear hS hUA
        go_wp2_with fail
        refine Calls.mono HL1.out ?_
        rintro e w5 ⟨v5, S5, rfl, hS5, hr5, hb5⟩
        have HS5 : Hid _ := HS.out.more hb5
        have HR5 : Hid (w5.ownsRow wr.heap.size 50 4 v5 S5.length (flatT S5)) := hr5
        have HO5 : Hid (Srtd S5 s.A) := hS5
        have HL2 : Hid _ := list_any (base := mb) (whb := pb) (mp := mb) (u := ub) w5 HS5.out.hb.wl HS5.out.hb.wb.hu hlA
        clear hS5 hr5 hb5 HS HL1
        go_wp2_with fail
        refine Calls.mono HL2.out ?_
        rintro e w6 ⟨v6, S6, rfl, hS6, hr6, hb6⟩
        have HS6 : Hid _ := HS5.out.more hb6
        obtain rfl : S6 = S5 := srtd_one HUA.out hS6 HO5.out
        have hl6 : S6.length ≤ 1000000 := by rw [hS6.1.length_eq]; omega
        have HSM : Hid _ := same_yes w6 (ownsRow_same HR5.out (fun g e => hb6.block g (ownsRow_lt HR5.out e).2)) hr6 hl6
        clear hS6 hr6 hb6 HS5 HL2 HR5 HO5 hl6
        go_wp2_with fail
        refine Calls.mono HSM.out ?_
        rintro e w7 ⟨rfl, hb7⟩
        have HS7 : Hid _ := HS6.out.more hb7
        have HN1 : Hid _ := now_any (base := ma) (whb := pa) (mp := ma) (u := ua) w7 HS7.out.ha.wl
        have HN2 : Hid _ := now_any (base := mb) (whb := pb) (mp := mb) (u := ub) w7 HS7.out.hb.wl
        have HB7 : Hid (Below W.heap.size W w7) := show Below W.heap.size W w7 from by rw [← HLW.out]; exact HS7.out.bl
        clear hb7 HS6 HSM HS7
        go_wp2_with fail
        refine Calls.mono HN1.out ?_
        rintro e w8 ⟨rfl, hw8⟩
        replace hw8 := hw8.symm
        subst hw8
        go_wp2_with fail
        refine Calls.mono HN2.out ?_
        rintro e w8 ⟨rfl, hw8⟩
        replace hw8 := hw8.symm
        subst hw8
        clear HN1 HN2
        go_wp2_with fail
        go_ret
        exact ⟨rfl, HB7.out⟩
    · obtain ⟨s, sc, va, vb, vc, hS, hs1, hs2, _, _⟩ := hR
      have hlA : s.A.length ≤ 100000 := by have := hS.ha.wb.len; omega
      have hUA : Up s.A := hS.ha.wb.up
      have HL1 : Hid _ := list_any (base := ma) (whb := pa) (mp := ma) (u := ua) wr hS.ha.wl hS.ha.wb.hu hlA
      have HS : Hid _ := hS
      have HUA : Hid (Up s.A) := hUA
      clear hS hUA
      go_wp2_with fail
      refine Calls.mono HL1.out ?_
      rintro e w5 ⟨v5, S5, rfl, hS5, hr5, hb5⟩
      have HS5 : Hid _ := HS.out.more hb5
      have HR5 : Hid (w5.ownsRow wr.heap.size 50 4 v5 S5.length (flatT S5)) := hr5
      have HO5 : Hid (Srtd S5 s.A) := hS5
      have HL2 : Hid _ := list_any (base := mb) (whb := pb) (mp := mb) (u := ub) w5 HS5.out.hb.wl HS5.out.hb.wb.hu hlA
      clear hS5 hr5 hb5 HS HL1
      go_wp2_with fail
      refine Calls.mono HL2.out ?_
      rintro e w6 ⟨v6, S6, rfl, hS6, hr6, hb6⟩
      have HS6 : Hid _ := HS5.out.more hb6
      obtain rfl : S6 = S5 := srtd_one HUA.out hS6 HO5.out
      have hl6 : S6.length ≤ 1000000 := by rw [hS6.1.length_eq]; omega
      have HSM : Hid _ := same_yes w6 (ownsRow_same HR5.out (fun g e => hb6.block g (ownsRow_lt HR5.out e).2)) hr6 hl6
      clear hS6 hr6 hb6 HS5 HL2 HR5 HO5 hl6
      go_wp2_with fail
      refine Calls.mono HSM.out ?_
      rintro e w7 ⟨rfl, hb7⟩
      have HS7 : Hid _ := HS6.out.more hb7
      have HN1 : Hid _ := now_any (base := ma) (whb := pa) (mp := ma) (u := ua) w7 HS7.out.ha.wl
      have HN2 : Hid _ := now_any (base := mb) (whb := pb) (mp := mb) (u := ub) w7 HS7.out.hb.wl
      have HB7 : Hid (Below W.heap.size W w7) := show Below W.heap.size W w7 from by rw [← HLW.out]; exact HS7.out.bl
      clear hb7 HS6 HSM HS7
      go_wp2_with fail
      refine Calls.mono HN1.out ?_
      rintro e w8 ⟨rfl, hw8⟩
      replace hw8 := hw8.symm
      subst hw8
      go_wp2_with fail
      refine Calls.mono HN2.out ?_
      rintro e w8 ⟨rfl, hw8⟩
      replace hw8 := hw8.symm
      subst hw8
      clear HN1 HN2
      go_wp2_with fail
      go_ret
      exact ⟨rfl, HB7.out⟩
end Go.Proofs.Ytmnihombiabkgaa
