import Derived.Test.YtoemddibojpkpaaWhT
namespace Go.Proofs.Ytoemddibojpkpaa
open Go.RowKit Go.PlainAid
set_option linter.unusedVariables false
set_option linter.unusedSimpArgs false
set_option maxRecDepth 100000 in
set_option maxHeartbeats 6400000 in
theorem whole_P (total : Int) (htw : IntKind.i64.wrap total = total) (ao : Option Addr) (n c : Nat) (zs : List Int) (W : World) (hl : zs.length = n) (hx : FromI W ao zs) (hn : n * 8 ≤ 140737488355328) (hz0 : ¬ (fairL zs).sum = 0) :
    Calls Try.prog 4 #[.int .i64 total, .slice ao n c] W fun r w' => r = .returned (.bool true) ∧ Below W.heap.size W w' := by
  have hab := able_any W
  have HZ0 : Hid _ := hz0
  clear hz0
  have HX : Hid (FromI W ao zs) := hx
  clear hx
  go_enter Try.func4, Try.ntmps4
  go_wp2_with fail
  refine hab.mono ?_
  rintro e w1 ⟨rfl, hb1⟩
  have HB1 : Hid (Below W.heap.size W w1) := hb1
  have HX1 : Hid (FromI w1 ao zs) := FromI.all HX.out hb1
  clear hb1 hab
  go_wp2_with fail
  refine (fair_any (c := c) total htw w1 hl HX1.out (by unfold maxLen; omega)).mono ?_
  rintro e w2 ⟨v2, rfl, hv2, hb2⟩
  have hRL := fairL_right zs
  have hC0 := cnt_ok hRL
  have hD := fairT_range total
  obtain ⟨m, hLl⟩ : ∃ m, (fairL zs).length = m := ⟨_, rfl⟩
  rw [hLl] at hC0 hv2
  have hmp := hC0.pos
  have hm16 := hC0.le
  obtain ⟨gL, cL, rfl, hcL, _, hLL, hsL, _⟩ := own_form hv2 hmp
  have hok : ∀ j, j < m → 0 ≤ at0 (fairL zs) j ∧ at0 (fairL zs) j ≤ 1048576 := fun j hj => by
    have h2 := hRL
    unfold rightW at h2
    simp only [Bool.and_eq_true] at h2
    exact okW_at h2.2 (by omega)
  have HB2 : Hid (Below W.heap.size W w2) := HB1.out.trans (hb2.mono HB1.out.size)
  have HV2 : Hid _ := ownsRow_mono hv2 HB1.out.size
  generalize fairT total = T at *
  generalize fairL zs = Ls at *
  have hoD : okD T Ls = true := by simp [okD, hRL]; omega
  obtain ⟨_, _, e2, _, _, _, hF2, _⟩ := own_from hv2
  cases e2
  have hdl := deal_any (c := cL) T w2 hLl hF2 (by unfold maxLen; omega)
  rw [show dealC T Ls = 0 by simp [dealC, hoD], show dealL T Ls = dealG T (cnt Ls) by simp [dealL, hoD], dealG_length, cnt_length, hLl] at hdl
  have HC : Hid _ := hC0
  have HOK : Hid _ := hok
  clear hv2 hb2 hF2 hLL hsL HX HX1 HB1 hRL hoD hC0 hok
  go_wp2_with fail
  refine hdl.mono ?_
  rintro e w3 ⟨v3, rfl, hv3, hb3⟩
  obtain ⟨gP, cP, rfl, hcP, _, hLP, hsP, _⟩ := own_form hv3 hmp
  have HV3 : Hid _ := ownsRow_mono hv3 HB2.out.size
  have HV2' : Hid _ := ownsRow_same HV2.out (fun j hj => hb3.block j (ownsRow_lt HV2.out hj).2)
  have HB3 : Hid (Below W.heap.size W w3) := HB2.out.trans (hb3.mono HB2.out.size)
  clear hv3 hb3 hdl HV2 HB2 hLP hsP
  go_wp2
  go_loopw [7, 8] (fun sv i wr => ∃ k : Nat, k ≤ m ∧ i = .int .i64 k ∧ sv = .int .i64 (Ls.take k).sum ∧ wr = w3) (fun _ i _ => m - (intOf i).toNat)
  case atStart => exact ⟨0, Nat.zero_le _, rfl, by simp, rfl⟩
  case round =>
    obtain ⟨k, hk, rfl, rfl, rfl⟩ := hrel
    have hsb : ∀ k, 0 ≤ (Ls.take k).sum ∧ (Ls.take k).sum ≤ 16777216 := fun k => by
      have := sum_bound (Ls.take k) 1048576 (fun z hz => by obtain ⟨j, hj, rfl⟩ := mem_at0 (List.mem_of_mem_take hz); exact HOK.out j (by omega))
      simp only [List.length_take] at this
      omega
    by_cases hlt : k < m
    · have e1 := own_at HV2'.out hlt
      have hs := sum_take_succ Ls k (by omega)
      have h1 := hsb k
      have h2 := hsb (k + 1)
      rw [hs] at h2
      have HS : Hid _ := hs
      clear hs hsb
      generalize (Ls.take k).sum = sk at h1 h2 HS
      generalize at0 Ls k = z at e1 h2 HS
      go_wp2
      go_roundw
      case rel => exact ⟨k + 1, by omega, by go_num, by rw [HS.out], by first | trivial | rfl⟩
      case measure => simp [intOf]; omega
    · obtain rfl : m = k := by omega
      have htw : Ls.take m = Ls := List.take_of_length_le (by omega)
      have hsb := hsb m
      rw [htw] at hsb ⊢
      clear htw
      by_cases hz : Ls.sum = 0
      · exact absurd hz HZ0.out
      · have hcz : cnt Ls = Ls := by
          have : ∃ j, j < Ls.length ∧ at0 Ls j ≠ 0 := Classical.byContradiction fun hne => hz (by
            have hall : Ls = List.replicate m 0 := ext_at0 (by simpa using hLl) fun i hi => by
              rw [at0_lt (l := List.replicate m 0) (by simp; omega)]
              simp
              exact Classical.byContradiction fun h => hne ⟨i, hi, h⟩
            rw [hall, sum_rep]; omega)
          obtain ⟨j, hj, hne⟩ := this
          exact cnt_some hj hne
        have hsp := HC.out.sum
        have HCM : Hid (∀ i j, i < m → j < m → at0 Ls j < at0 Ls i → at0 (cnt Ls) j < at0 (cnt Ls) i) := fun i j hi hj h => cnt_same (by omega) (by omega) h
        have hgt : (0 : Int) < Ls.sum := by omega
        obtain ⟨S, hS⟩ : ∃ S, Ls.sum = S := ⟨_, rfl⟩
        have HSS : Hid ((cnt Ls).sum = S) := by rw [hcz]; exact hS
        have HYC : Hid (∀ k, k < m → at0 (cnt Ls) k = at0 Ls k) := fun k hk => by rw [hcz]
        rw [hcz] at hsp
        rw [hS] at hsp hgt hsb ⊢
        clear hS hz hcz
        generalize hcs : cnt Ls = cs at *
        clear hcs
        have hWM := WM.start (fun i => moreOf T cs i) (fun i => T * at0 cs i % S) HB3.out (Nat.le_refl _) HV2'.out HV3.out
        unfold z16 at hWM
        have HWM : Hid _ := hWM
        clear hWM
        go_wp2
        have hWM := HWM.out
        clear HWM
        generalize ((wr.alloc _).alloc _) = X0 at hWM ⊢
        generalize wr.heap.size + 1 = gr at hWM ⊢
        generalize wr.heap.size = gm at hWM ⊢
        have HWM : Hid _ := hWM
        clear hWM HV2' HV3 HB3
        have hts : ∀ k, 0 ≤ ((dealG T cs).take k).sum ∧ ((dealG T cs).take k).sum ≤ T := fun k => by
          have hz : ∀ z ∈ dealG T cs, 0 ≤ z := fun z hz => by
            obtain ⟨j, hj, rfl⟩ := mem_at0 hz
            exact dealG_nonneg HC.out hD.1 j (by rw [dealG_length, HC.out.len] at hj; exact hj)
          refine ⟨sum_nonneg fun z hz2 => hz z (List.mem_of_mem_take hz2), ?_⟩
          have := sum_take_le hz k
          rwa [dealG_sum HC.out] at this
        have HTS : Hid _ := hts
        have hpl : (dealG T cs).length = m := by rw [dealG_length]; exact HC.out.len
        clear hts
        go_loopw [10, 13] (fun av i wr => ∃ k : Nat, k ≤ m ∧ i = .int .i64 k ∧ av = .int .i64 ((dealG T cs).take k).sum ∧ Hid (WM W.heap.size gL cL gP cP m Ls (dealG T cs) gm gr (arr (fun i => moreOf T cs i) k) (arr (fun i => T * at0 cs i % S) k) W wr)) (fun _ i _ => m - (intOf i).toNat)
        case atStart => exact ⟨0, Nat.zero_le _, rfl, by simp, HWM⟩
        case round =>
          clear HWM
          obtain ⟨k, hk, rfl, rfl, HW⟩ := hrel
          by_cases hlt : k < m
          · have hk16 : k < 16 := by omega
            have hk16n : ¬ (16 : Int) ≤ (k : Int) := by omega
            have hmne : ¬ m = 0 := by omega
            obtain ⟨hc0, hc1⟩ := HC.out.ok k hlt
            obtain ⟨hm0, hm1⟩ := prod_range hD.1 hD.2 hc0 hc1
            have hda := deal_at (t := T) HC.out k hlt
            rw [HSS.out] at hda
            have hmo := more_01 T cs k
            have hdz := fun h => deal_zero (t := T) HC.out hlt h
            have hmr := fun h => more_rest (t := T) HC.out hlt h
            rw [HSS.out] at hmr
            have cy := own_at HW.out.xl hlt
            obtain ⟨D1, fm, cm⟩ := HW.out.drew.setm hk16 (moreOf T cs k)
            rw [arr_set (f := fun i => moreOf T cs i) hk16] at D1
            obtain ⟨D2, fr, cr⟩ := D1.setr hk16 (T * at0 cs k % S)
            rw [arr_set (f := fun i => T * at0 cs i % S) hk16] at D2
            have cp := own_at HW.out.xp hlt
            have cp2 := own_at D2.xp hlt
            have cm2 := cells_at D2.bm (k := k) (by rw [arr_length]; exact hk16)
            have cr2 := cells_at D2.br (k := k) (by rw [arr_length]; exact hk16)
            rw [arr_at (f := fun i => moreOf T cs i) (by omega) hk16] at cm2
            rw [arr_at (f := fun i => T * at0 cs i % S) (by omega) hk16] at cr2
            have hs := sum_take_succ (dealG T cs) k (by omega)
            have h1 := HTS.out k
            have h2 := HTS.out (k + 1)
            rw [hs] at h2
            have HS : Hid _ := hs
            have HD2 : Hid _ := D2
            have hcy := HYC.out k hlt
            clear hs D1 D2
            have hq1 : Int.tdiv (T * at0 cs k) S = T * at0 cs k / S := Int.tdiv_eq_ediv_of_nonneg hm0
            have hr1 : Int.tmod (T * at0 cs k) S = T * at0 cs k % S := Int.tmod_eq_emod_of_nonneg hm0
            have hq2 : 0 ≤ T * at0 cs k / S := Int.ediv_nonneg hm0 (Int.le_of_lt hsp)
            have hq3 : T * at0 cs k / S ≤ T * at0 cs k := Int.ediv_le_self _ hm0
            have hr2 := rest_range (total := T) hsp (at0 cs k)
            generalize ((dealG T cs).take k).sum = sk at h1 h2 HS
            generalize at0 (arr (fun i => moreOf T cs i) k) k = om at *
            generalize at0 (arr (fun i => T * at0 cs i % S) k) k = or_ at *
            generalize at0 (dealG T cs) k = pk at *
            generalize moreOf T cs k = mo at *
            generalize at0 cs k = z at *
            generalize at0 Ls k = y at *
            have hSne : S ≠ 0 := by omega
            have hwm : IntKind.i64.wrap (T * z) = T * z := by rw [IntKind.wrap_i64]; omega
            have hwq : IntKind.i64.wrap (T * z / S) = T * z / S := by rw [IntKind.wrap_i64]; omega
            have hwr : IntKind.i64.wrap (T * z % S) = T * z % S := by rw [IntKind.wrap_i64]; omega
            have hws : IntKind.i64.wrap (pk - T * z / S) = mo := by rw [IntKind.wrap_i64]; omega
            have hq := hq1
            replace cm : wr.cell? ⟨gm, k, none⟩ = some (.int .i64 om) := cm
            replace fm : wr.frozen? ⟨gm, k, none⟩ = false := fm
            subst hcy
            have HDZ : Hid _ := hdz
            have HMR : Hid _ := hmr
            have HMO : Hid _ := hmo
            clear hdz hmr hmo hda hr1 hq1
            go_wp2_with fail
            rename_i K hK
            try rw [show ∀ a : Act, a.put none undef = a from fun _ => rfl]
            refine wp_region_mix (fun wq => wq.cell? ⟨gP, k, none⟩ = some (.int .i64 pk)) (fun i => i == 12) 12 (by kernel_rfl) rfl (by kernel_rfl) (by kernel_rfl) (by kernel_rfl) ?_
            refine withFrP (N := 198) rfl ?_
            intro f0 F0 hff
            have e0 : f0 0 = Value.int .i64 T := hff 0
            have e5 : f0 5 = Value.slice (some ⟨gP, 0, none⟩) m cP := hff 5
            have e7 : f0 7 = Value.int .i64 S := hff 7
            have e11 : f0 11 = Value.pointer (some ⟨gm, 0, none⟩) := hff 11
            have e13 : f0 13 = Value.int .i64 (k : Int) := hff 13
            have e14 : f0 14 = Value.int .i64 z := hff 14
            clear hff
            have HCC : (({ wr with drawn := wr.drawn + 1 } : World)).cell? ⟨gP, k, none⟩ = some (.int .i64 pk) := cp
            refine lyp F0 rfl HCC rfl (by omega) (wanted_none rfl) (v := Value.int .i64 (k : Int)) (fun wr hwr => by simp only [execOp, (F0.eval 13 (by omega)).trans (show _ = Value.int .i64 (k : Int) from by simp [upd, e0, e5, e7, e11, e13, e14])]; first | rfl | simp [go_sem]) fun F1 => ?_
            refine lyp F1 rfl HCC rfl (by omega) (wanted_none rfl) (v := Value.slice (some ⟨gP, 0, none⟩) m cP) (fun wr hwr => by simp only [execOp, (F1.eval 5 (by omega)).trans (show _ = Value.slice (some ⟨gP, 0, none⟩) m cP from by simp [upd, e0, e5, e7, e11, e13, e14])]; first | rfl | simp [go_sem]) fun F2 => ?_
            refine lyp F2 rfl HCC rfl (by omega) (wanted_none rfl) (v := Value.int .i64 (k : Int)) (fun wr hwr => by simp only [execOp, (F2.eval 13 (by omega)).trans (show _ = Value.int .i64 (k : Int) from by simp [upd, e0, e5, e7, e11, e13, e14])]; first | rfl | simp [go_sem]) fun F3 => ?_
            refine lyp F3 rfl HCC rfl (by omega) (wanted_none rfl) (v := Value.pointer (some ⟨gP, k, none⟩)) (fun wr hwr => by simp only [execOp, (F3.eval 71 (by omega)).trans (show _ = Value.slice (some ⟨gP, 0, none⟩) m cP from by simp [upd, e0, e5, e7, e11, e13, e14]), (F3.eval 72 (by omega)).trans (show _ = Value.int .i64 (k : Int) from by simp [upd, e0, e5, e7, e11, e13, e14])]; simp [go_sem, hlt]) fun F4 => ?_
            refine lyp F4 rfl HCC rfl (by omega) (wanted_none rfl) (v := Value.int .i64 pk) (fun wr hwr => by simp only [execOp, (F4.eval 73 (by omega)).trans (show _ = Value.pointer (some ⟨gP, k, none⟩) from by simp [upd, e0, e5, e7, e11, e13, e14])]; simp [go_sem, hwr]) fun F5 => ?_
            refine lyp F5 rfl HCC rfl (by omega) (wanted_none rfl) (v := Value.int .i64 T) (fun wr hwr => by simp only [execOp, (F5.eval 0 (by omega)).trans (show _ = Value.int .i64 T from by simp [upd, e0, e5, e7, e11, e13, e14])]; first | rfl | simp [go_sem]) fun F6 => ?_
            refine lyp F6 rfl HCC rfl (by omega) (wanted_none rfl) (v := Value.int .i64 z) (fun wr hwr => by simp only [execOp, (F6.eval 14 (by omega)).trans (show _ = Value.int .i64 z from by simp [upd, e0, e5, e7, e11, e13, e14])]; first | rfl | simp [go_sem]) fun F7 => ?_
            refine lyp F7 rfl HCC rfl (by omega) (wanted_none rfl) (v := Value.int .i64 (T * z)) (fun wr hwr => by simp only [execOp, (F7.eval 75 (by omega)).trans (show _ = Value.int .i64 T from by simp [upd, e0, e5, e7, e11, e13, e14]), (F7.eval 76 (by omega)).trans (show _ = Value.int .i64 z from by simp [upd, e0, e5, e7, e11, e13, e14])]; simp [go_sem, Act.eval, hwm]) fun F8 => ?_
            refine lyp F8 rfl HCC rfl (by omega) (wanted_none rfl) (v := Value.int .i64 S) (fun wr hwr => by simp only [execOp, (F8.eval 7 (by omega)).trans (show _ = Value.int .i64 S from by simp [upd, e0, e5, e7, e11, e13, e14])]; first | rfl | simp [go_sem]) fun F9 => ?_
            refine lyp F9 rfl HCC rfl (by omega) (wanted_none rfl) (v := Value.int .i64 (T * z / S)) (fun wr hwr => by simp only [execOp, (F9.eval 77 (by omega)).trans (show _ = Value.int .i64 (T * z) from by simp [upd, e0, e5, e7, e11, e13, e14]), (F9.eval 78 (by omega)).trans (show _ = Value.int .i64 S from by simp [upd, e0, e5, e7, e11, e13, e14])]; simp [go_sem, Act.eval, hSne, hmne, hwq, hq]) fun F10 => ?_
            refine lyp F10 rfl HCC rfl (by omega) (wanted_none rfl) (v := Value.int .i64 mo) (fun wr hwr => by simp only [execOp, (F10.eval 74 (by omega)).trans (show _ = Value.int .i64 pk from by simp [upd, e0, e5, e7, e11, e13, e14]), (F10.eval 79 (by omega)).trans (show _ = Value.int .i64 (T * z / S) from by simp [upd, e0, e5, e7, e11, e13, e14])]; simp [go_sem, Act.eval, hws]) fun F11 => ?_
            refine lyp F11 rfl HCC rfl (by omega) (wanted_none rfl) (v := Value.pointer (some ⟨gm, k, none⟩)) (fun wr hwr => by simp only [execOp, (F11.eval 70 (by omega)).trans (show _ = Value.int .i64 (k : Int) from by simp [upd, e0, e5, e7, e11, e13, e14]), (F11.eval 11 (by omega)).trans (show _ = Value.pointer (some ⟨gm, 0, none⟩) from by simp [upd, e0, e5, e7, e11, e13, e14])]; simp [go_sem, hk16n]) fun F12 => ?_
            refine lst rfl HCC rfl (wanted_none rfl) (w1 := (({ wr with drawn := wr.drawn + 1 } : World)).setCell ⟨gm, k, none⟩ (.int .i64 mo)) (by simp only [execOp, (F12.eval 81 (by omega)).trans (show _ = Value.pointer (some ⟨gm, k, none⟩) from by simp [upd, e0, e5, e7, e11, e13, e14]), (F12.eval 80 (by omega)).trans (show _ = Value.int .i64 mo from by simp [upd, e0, e5, e7, e11, e13, e14])]; simp [go_sem, cm, fm]) ?_
            refine ⟨fun h => absurd h (by decide), ?_⟩
            refine hK _ _ ?_
            clear F0 F1 F2 F3 F4 F5 F6 F7 F8 F9 F10 F11 F12 e0 e5 e7 e11 e13 e14 HCC
            simp only [Act.put, List.setIfInBounds_toArray, List.set_cons_succ, List.set_cons_zero]
            generalize hY : (({ wr with drawn := wr.drawn + 1 } : World)).setCell ⟨gm, k, none⟩ (.int .i64 mo) = Y
            have hY2 : (wr.drew).setCell ⟨gm, k, none⟩ (.int .i64 mo) = Y := hY
            rw [hY2] at fr cr cp2 cm2 cr2 HD2
            clear hY hY2 cm fm cp cy hws hq HW
            have hmo := HMO.out
            have hdz := HDZ.out
            have hmr := HMR.out
            have hr1 : Int.tmod (T * z) S = T * z % S := Int.tmod_eq_emod_of_nonneg hm0
            clear HMO HDZ HMR
            have n1 : ¬ mo < 0 := by omega
            have n2 : ¬ 1 < mo := by omega
            by_cases hz : z = 0
            · have hp0 := hdz hz
              obtain rfl : mo = 0 := by
                rcases hmo with q | q
                · exact q
                · have := hmr q
                  rw [hz, Int.mul_zero] at this
                  simp at this
              have hzt : (z == 0) = true := by simpa using hz
              have hpkb : (pk != 0) = false := by simp [hp0]
              generalize T * z % S = rr at *
              clear hz hp0
              clear hdz hmr hmo
              go_wp2
              go_roundw
              case rel => exact ⟨k + 1, by omega, by go_num, by rw [HS.out], HD2⟩
              case measure => simp [intOf]; omega
            · have hzb : (z == 0) = false := by simpa using hz
              by_cases hmo1 : mo = 1
              · have hrz := hmr hmo1
                have hrzb : (T * z % S == 0) = false := by simpa using hrz
                subst hmo1
                clear hdz hmr hmo
                generalize T * z % S = rr at *
                go_wp2
                go_roundw
                case rel => exact ⟨k + 1, by omega, by go_num, by rw [HS.out], HD2⟩
                case measure => simp [intOf]; omega
              · obtain rfl : mo = 0 := by omega
                clear hdz hmr hmo
                generalize T * z % S = rr at *
                go_wp2
                go_roundw
                case rel => exact ⟨k + 1, by omega, by go_num, by rw [HS.out], HD2⟩
                case measure => simp [intOf]; omega
          · obtain rfl : m = k := by omega
            have hall : ((dealG T cs).take m).sum = T := by rw [List.take_of_length_le (by omega)]; exact dealG_sum HC.out
            rw [hall]
            clear hall
            have hW := HW.out
            clear HW
            obtain ⟨X0, hX0⟩ : ∃ X, X = wr := ⟨_, rfl⟩
            subst hX0
            have HW : Hid _ := hW
            have HBF : Hid (∀ i j, i < m → j < m → moreOf T cs i = 1 → moreOf T cs j = 0 → T * at0 cs j % S ≤ T * at0 cs i % S ∧ (T * at0 cs i % S = T * at0 cs j % S → i ≤ j)) := fun i j hi hj h1 h0 => by
              have := more_before HC.out hj h1 h0
              unfold before at this
              rw [rest_at HC.out i hi, rest_at HC.out j hj, HSS.out] at this
              omega
            have HMN : Hid (∀ i j, i < m → j < m → at0 Ls j < at0 Ls i → at0 (dealG T cs) j ≤ at0 (dealG T cs) i) := fun i j hi hj h => deal_mono HC.out hD.1 hi hj (HCM.out i j hi hj h)
            clear hW
            go_wp2
            go_loopw [15] (fun iv wr => ∃ i q : Nat, i ≤ m ∧ iv = .int .i64 i ∧ wr = X0.drewN q) (fun iv _ => m - (intOf iv).toNat)
            case atStart => exact ⟨0, 0, Nat.zero_le _, rfl, rfl⟩
            case round =>
              obtain ⟨i, q0, hi0, rfl, hwq0⟩ := hrel
              by_cases hi : i < m
              · have HWQ0 : Hid _ := hwq0
                clear hwq0
                go_wp2
                obtain ⟨Y0, hY0⟩ : ∃ Y, Y = wr := ⟨_, rfl⟩
                subst hY0
                go_loopw [16] (fun jv wr => ∃ j q : Nat, j ≤ m ∧ jv = .int .i64 j ∧ wr = X0.drewN q) (fun jv _ => m - (intOf jv).toNat)
                case atStart => exact ⟨0, q0, Nat.zero_le _, rfl, HWQ0.out⟩
                case round =>
                  clear HWQ0
                  obtain ⟨j, q, hj0, rfl, hwq⟩ := hrel
                  by_cases hj : j < m
                  · have hi16 : i < 16 := by omega
                    have hj16 : j < 16 := by omega
                    have hi16n : ¬ (16 : Int) ≤ (i : Int) := by omega
                    have hj16n : ¬ (16 : Int) ≤ (j : Int) := by omega
                    have hbef := HBF.out i j hi hj
                    have hmn := HMN.out i j hi hj
                    have cyi : wr.cell? ⟨gL, i, none⟩ = some (.int .i64 (at0 Ls i)) := by rw [hwq]; exact own_at HW.out.xl hi
                    have cyj : wr.cell? ⟨gL, j, none⟩ = some (.int .i64 (at0 Ls j)) := by rw [hwq]; exact own_at HW.out.xl hj
                    have cpi : wr.cell? ⟨gP, i, none⟩ = some (.int .i64 (at0 (dealG T cs) i)) := by rw [hwq]; exact own_at HW.out.xp hi
                    have cpj : wr.cell? ⟨gP, j, none⟩ = some (.int .i64 (at0 (dealG T cs) j)) := by rw [hwq]; exact own_at HW.out.xp hj
                    have cmi : wr.cell? ⟨gm, i, none⟩ = some (.int .i64 (moreOf T cs i)) := by rw [hwq]; have := cells_at HW.out.bm (k := i) (by rw [arr_length]; exact hi16); rw [arr_at (f := fun i => moreOf T cs i) hi hi16] at this; exact this
                    have cmj : wr.cell? ⟨gm, j, none⟩ = some (.int .i64 (moreOf T cs j)) := by rw [hwq]; have := cells_at HW.out.bm (k := j) (by rw [arr_length]; exact hj16); rw [arr_at (f := fun i => moreOf T cs i) hj hj16] at this; exact this
                    have cri : wr.cell? ⟨gr, i, none⟩ = some (.int .i64 (T * at0 cs i % S)) := by rw [hwq]; have := cells_at HW.out.br (k := i) (by rw [arr_length]; exact hi16); rw [arr_at (f := fun i => T * at0 cs i % S) hi hi16] at this; exact this
                    have crj : wr.cell? ⟨gr, j, none⟩ = some (.int .i64 (T * at0 cs j % S)) := by rw [hwq]; have := cells_at HW.out.br (k := j) (by rw [arr_length]; exact hj16); rw [arr_at (f := fun i => T * at0 cs i % S) hj hj16] at this; exact this
                    have HWQ : Hid _ := hwq
                    clear hwq
                    generalize at0 Ls i = yi at *
                    generalize at0 Ls j = yj at *
                    generalize at0 (dealG T cs) i = pi at *
                    generalize at0 (dealG T cs) j = pj at *
                    generalize moreOf T cs i = mi at *
                    generalize moreOf T cs j = mj at *
                    generalize T * at0 cs i % S = ri at *
                    generalize T * at0 cs j % S = rj at *
                    have HBE : Hid _ := hbef
                    clear hbef
                    by_cases hgt : yj < yi
                    · have hpij := hmn hgt
                      clear hmn
                      by_cases hmi : mi = 1
                      · by_cases hmj : mj = 0
                        · obtain ⟨hrl, hri⟩ := HBE.out hmi hmj
                          by_cases hre : ri = rj
                          · have hij := hri hre
                            go_wp2_with fail
                            rename_i K hK
                            try rw [show ∀ a : Act, a.put none undef = a from fun _ => rfl]
                            refine wp_region_mix (fun wq => ∀ p : Addr, wq.cell? p = wr.cell? p) (fun i => i == 99) 99 (by kernel_rfl) rfl (by kernel_rfl) (by kernel_rfl) (by kernel_rfl) ?_
                            refine withFrP (N := 198) rfl ?_
                            intro f0 F0 hff
                            have e1 : f0 1 = Value.slice (some ⟨gL, 0, none⟩) m cL := hff 1
                            have e5 : f0 5 = Value.slice (some ⟨gP, 0, none⟩) m cP := hff 5
                            have e11 : f0 11 = Value.pointer (some ⟨gm, 0, none⟩) := hff 11
                            have e12 : f0 12 = Value.pointer (some ⟨gr, 0, none⟩) := hff 12
                            have e15 : f0 15 = Value.int .i64 (i : Int) := hff 15
                            have e16 : f0 16 = Value.int .i64 (j : Int) := hff 16
                            clear hff
                            have HCC : ∀ p : Addr, (({ wr with drawn := wr.drawn + 1 } : World)).cell? p = wr.cell? p := fun _ => rfl
                            refine lyp F0 rfl HCC rfl (by omega) (wanted_none rfl) (v := Value.slice (some ⟨gL, 0, none⟩) m cL) (fun wr hwr => by simp only [execOp, (F0.eval 1 (by omega)).trans (show _ = Value.slice (some ⟨gL, 0, none⟩) m cL from by simp [upd, e1, e5, e11, e12, e15, e16])]; first | rfl | simp [go_sem]) fun F1 => ?_
                            refine lyp F1 rfl HCC rfl (by omega) (wanted_none rfl) (v := Value.int .i64 (i : Int)) (fun wr hwr => by simp only [execOp, (F1.eval 15 (by omega)).trans (show _ = Value.int .i64 (i : Int) from by simp [upd, e1, e5, e11, e12, e15, e16])]; first | rfl | simp [go_sem]) fun F2 => ?_
                            refine lyp F2 rfl HCC rfl (by omega) (wanted_none rfl) (v := Value.pointer (some ⟨gL, i, none⟩)) (fun wr hwr => by simp only [execOp, (F2.eval 140 (by omega)).trans (show _ = Value.slice (some ⟨gL, 0, none⟩) m cL from by simp [upd, e1, e5, e11, e12, e15, e16]), (F2.eval 141 (by omega)).trans (show _ = Value.int .i64 (i : Int) from by simp [upd, e1, e5, e11, e12, e15, e16])]; simp [go_sem, hi]) fun F3 => ?_
                            refine lyp F3 rfl HCC rfl (by omega) (wanted_none rfl) (v := Value.int .i64 yi) (fun wr hwr => by simp only [execOp, (F3.eval 142 (by omega)).trans (show _ = Value.pointer (some ⟨gL, i, none⟩) from by simp [upd, e1, e5, e11, e12, e15, e16])]; simp [go_sem, hwr _, cyi]) fun F4 => ?_
                            refine lyp F4 rfl HCC rfl (by omega) (wanted_none rfl) (v := Value.slice (some ⟨gL, 0, none⟩) m cL) (fun wr hwr => by simp only [execOp, (F4.eval 1 (by omega)).trans (show _ = Value.slice (some ⟨gL, 0, none⟩) m cL from by simp [upd, e1, e5, e11, e12, e15, e16])]; first | rfl | simp [go_sem]) fun F5 => ?_
                            refine lyp F5 rfl HCC rfl (by omega) (wanted_none rfl) (v := Value.int .i64 (j : Int)) (fun wr hwr => by simp only [execOp, (F5.eval 16 (by omega)).trans (show _ = Value.int .i64 (j : Int) from by simp [upd, e1, e5, e11, e12, e15, e16])]; first | rfl | simp [go_sem]) fun F6 => ?_
                            refine lyp F6 rfl HCC rfl (by omega) (wanted_none rfl) (v := Value.pointer (some ⟨gL, j, none⟩)) (fun wr hwr => by simp only [execOp, (F6.eval 144 (by omega)).trans (show _ = Value.slice (some ⟨gL, 0, none⟩) m cL from by simp [upd, e1, e5, e11, e12, e15, e16]), (F6.eval 145 (by omega)).trans (show _ = Value.int .i64 (j : Int) from by simp [upd, e1, e5, e11, e12, e15, e16])]; simp [go_sem, hj]) fun F7 => ?_
                            refine lyp F7 rfl HCC rfl (by omega) (wanted_none rfl) (v := Value.int .i64 yj) (fun wr hwr => by simp only [execOp, (F7.eval 146 (by omega)).trans (show _ = Value.pointer (some ⟨gL, j, none⟩) from by simp [upd, e1, e5, e11, e12, e15, e16])]; simp [go_sem, hwr _, cyj]) fun F8 => ?_
                            refine lyp F8 rfl HCC rfl (by omega) (wanted_none rfl) (v := Value.bool true) (fun wr hwr => by simp only [execOp, (F8.eval 143 (by omega)).trans (show _ = Value.int .i64 yi from by simp [upd, e1, e5, e11, e12, e15, e16]), (F8.eval 147 (by omega)).trans (show _ = Value.int .i64 yj from by simp [upd, e1, e5, e11, e12, e15, e16])]; simp [go_sem, Act.eval, hgt]) fun F9 => ?_
                            refine lyp F9 rfl HCC rfl (by omega) (wanted_none rfl) (v := Value.bool true) (fun wr hwr => by simp only [execOp, (F9.eval 148 (by omega)).trans (show _ = Value.bool true from by simp [upd, e1, e5, e11, e12, e15, e16])]; first | rfl | simp [go_sem]) fun F10 => ?_
                            refine lyp F10 rfl HCC rfl (by omega) (want_yes F10 rfl (e := 149) rfl (by omega) (show _ = Value.bool true from by simp [upd, e1, e5, e11, e12, e15, e16])) (v := Value.slice (some ⟨gP, 0, none⟩) m cP) (fun wr hwr => by simp only [execOp, (F10.eval 5 (by omega)).trans (show _ = Value.slice (some ⟨gP, 0, none⟩) m cP from by simp [upd, e1, e5, e11, e12, e15, e16])]; first | rfl | simp [go_sem]) fun F11 => ?_
                            refine lyp F11 rfl HCC rfl (by omega) (want_yes F11 rfl (e := 149) rfl (by omega) (show _ = Value.bool true from by simp [upd, e1, e5, e11, e12, e15, e16])) (v := Value.int .i64 (i : Int)) (fun wr hwr => by simp only [execOp, (F11.eval 15 (by omega)).trans (show _ = Value.int .i64 (i : Int) from by simp [upd, e1, e5, e11, e12, e15, e16])]; first | rfl | simp [go_sem]) fun F12 => ?_
                            refine lyp F12 rfl HCC rfl (by omega) (want_yes F12 rfl (e := 149) rfl (by omega) (show _ = Value.bool true from by simp [upd, e1, e5, e11, e12, e15, e16])) (v := Value.pointer (some ⟨gP, i, none⟩)) (fun wr hwr => by simp only [execOp, (F12.eval 150 (by omega)).trans (show _ = Value.slice (some ⟨gP, 0, none⟩) m cP from by simp [upd, e1, e5, e11, e12, e15, e16]), (F12.eval 151 (by omega)).trans (show _ = Value.int .i64 (i : Int) from by simp [upd, e1, e5, e11, e12, e15, e16])]; simp [go_sem, hi]) fun F13 => ?_
                            refine lyp F13 rfl HCC rfl (by omega) (want_yes F13 rfl (e := 149) rfl (by omega) (show _ = Value.bool true from by simp [upd, e1, e5, e11, e12, e15, e16])) (v := Value.int .i64 pi) (fun wr hwr => by simp only [execOp, (F13.eval 152 (by omega)).trans (show _ = Value.pointer (some ⟨gP, i, none⟩) from by simp [upd, e1, e5, e11, e12, e15, e16])]; simp [go_sem, hwr _, cpi]) fun F14 => ?_
                            refine lyp F14 rfl HCC rfl (by omega) (want_yes F14 rfl (e := 149) rfl (by omega) (show _ = Value.bool true from by simp [upd, e1, e5, e11, e12, e15, e16])) (v := Value.slice (some ⟨gP, 0, none⟩) m cP) (fun wr hwr => by simp only [execOp, (F14.eval 5 (by omega)).trans (show _ = Value.slice (some ⟨gP, 0, none⟩) m cP from by simp [upd, e1, e5, e11, e12, e15, e16])]; first | rfl | simp [go_sem]) fun F15 => ?_
                            refine lyp F15 rfl HCC rfl (by omega) (want_yes F15 rfl (e := 149) rfl (by omega) (show _ = Value.bool true from by simp [upd, e1, e5, e11, e12, e15, e16])) (v := Value.int .i64 (j : Int)) (fun wr hwr => by simp only [execOp, (F15.eval 16 (by omega)).trans (show _ = Value.int .i64 (j : Int) from by simp [upd, e1, e5, e11, e12, e15, e16])]; first | rfl | simp [go_sem]) fun F16 => ?_
                            refine lyp F16 rfl HCC rfl (by omega) (want_yes F16 rfl (e := 149) rfl (by omega) (show _ = Value.bool true from by simp [upd, e1, e5, e11, e12, e15, e16])) (v := Value.pointer (some ⟨gP, j, none⟩)) (fun wr hwr => by simp only [execOp, (F16.eval 154 (by omega)).trans (show _ = Value.slice (some ⟨gP, 0, none⟩) m cP from by simp [upd, e1, e5, e11, e12, e15, e16]), (F16.eval 155 (by omega)).trans (show _ = Value.int .i64 (j : Int) from by simp [upd, e1, e5, e11, e12, e15, e16])]; simp [go_sem, hj]) fun F17 => ?_
                            refine lyp F17 rfl HCC rfl (by omega) (want_yes F17 rfl (e := 149) rfl (by omega) (show _ = Value.bool true from by simp [upd, e1, e5, e11, e12, e15, e16])) (v := Value.int .i64 pj) (fun wr hwr => by simp only [execOp, (F17.eval 156 (by omega)).trans (show _ = Value.pointer (some ⟨gP, j, none⟩) from by simp [upd, e1, e5, e11, e12, e15, e16])]; simp [go_sem, hwr _, cpj]) fun F18 => ?_
                            refine lyp F18 rfl HCC rfl (by omega) (want_yes F18 rfl (e := 149) rfl (by omega) (show _ = Value.bool true from by simp [upd, e1, e5, e11, e12, e15, e16])) (v := Value.bool false) (fun wr hwr => by simp only [execOp, (F18.eval 153 (by omega)).trans (show _ = Value.int .i64 pi from by simp [upd, e1, e5, e11, e12, e15, e16]), (F18.eval 157 (by omega)).trans (show _ = Value.int .i64 pj from by simp [upd, e1, e5, e11, e12, e15, e16])]; simp [go_sem, Act.eval, hpij]) fun F19 => ?_
                            refine lyp F19 rfl HCC rfl (by omega) (wanted_none rfl) (v := Value.bool false) (fun wr hwr => by simp only [execOp, (F19.eval 149 (by omega)).trans (show _ = Value.bool true from by simp [upd, e1, e5, e11, e12, e15, e16]), (F19.eval 158 (by omega)).trans (show _ = Value.bool false from by simp [upd, e1, e5, e11, e12, e15, e16])]; simp [go_sem, Act.eval]) fun F20 => ?_
                            refine lyp F20 rfl HCC rfl (by omega) (wanted_none rfl) (v := Value.bool false) (fun wr hwr => by simp only [execOp, (F20.eval 159 (by omega)).trans (show _ = Value.bool false from by simp [upd, e1, e5, e11, e12, e15, e16])]; first | rfl | simp [go_sem]) fun F21 => ?_
                            refine lyp F21 rfl HCC rfl (by omega) (want_yes F21 rfl (e := 160) rfl (by omega) (show _ = Value.bool false from by simp [upd, e1, e5, e11, e12, e15, e16])) (v := Value.int .i64 (i : Int)) (fun wr hwr => by simp only [execOp, (F21.eval 15 (by omega)).trans (show _ = Value.int .i64 (i : Int) from by simp [upd, e1, e5, e11, e12, e15, e16])]; first | rfl | simp [go_sem]) fun F22 => ?_
                            refine lyp F22 rfl HCC rfl (by omega) (want_yes F22 rfl (e := 160) rfl (by omega) (show _ = Value.bool false from by simp [upd, e1, e5, e11, e12, e15, e16])) (v := Value.pointer (some ⟨gm, i, none⟩)) (fun wr hwr => by simp only [execOp, (F22.eval 11 (by omega)).trans (show _ = Value.pointer (some ⟨gm, 0, none⟩) from by simp [upd, e1, e5, e11, e12, e15, e16]), (F22.eval 161 (by omega)).trans (show _ = Value.int .i64 (i : Int) from by simp [upd, e1, e5, e11, e12, e15, e16])]; simp [go_sem, hi16n]) fun F23 => ?_
                            refine lyp F23 rfl HCC rfl (by omega) (want_yes F23 rfl (e := 160) rfl (by omega) (show _ = Value.bool false from by simp [upd, e1, e5, e11, e12, e15, e16])) (v := Value.int .i64 mi) (fun wr hwr => by simp only [execOp, (F23.eval 162 (by omega)).trans (show _ = Value.pointer (some ⟨gm, i, none⟩) from by simp [upd, e1, e5, e11, e12, e15, e16])]; simp [go_sem, hwr _, cmi]) fun F24 => ?_
                            refine lyp F24 rfl HCC rfl (by omega) (want_yes F24 rfl (e := 160) rfl (by omega) (show _ = Value.bool false from by simp [upd, e1, e5, e11, e12, e15, e16])) (v := Value.bool true) (fun wr hwr => by simp only [execOp, (F24.eval 163 (by omega)).trans (show _ = Value.int .i64 mi from by simp [upd, e1, e5, e11, e12, e15, e16])]; simp [go_sem, Act.eval, hmi]) fun F25 => ?_
                            refine lyp F25 rfl HCC rfl (by omega) (want_yes F25 rfl (e := 160) rfl (by omega) (show _ = Value.bool false from by simp [upd, e1, e5, e11, e12, e15, e16])) (v := Value.bool true) (fun wr hwr => by simp only [execOp, (F25.eval 164 (by omega)).trans (show _ = Value.bool true from by simp [upd, e1, e5, e11, e12, e15, e16])]; first | rfl | simp [go_sem]) fun F26 => ?_
                            refine lyp F26 rfl HCC rfl (by omega) (want_yes F26 rfl (e := 165) rfl (by omega) (show _ = Value.bool true from by simp [upd, e1, e5, e11, e12, e15, e16])) (v := Value.int .i64 (j : Int)) (fun wr hwr => by simp only [execOp, (F26.eval 16 (by omega)).trans (show _ = Value.int .i64 (j : Int) from by simp [upd, e1, e5, e11, e12, e15, e16])]; first | rfl | simp [go_sem]) fun F27 => ?_
                            refine lyp F27 rfl HCC rfl (by omega) (want_yes F27 rfl (e := 165) rfl (by omega) (show _ = Value.bool true from by simp [upd, e1, e5, e11, e12, e15, e16])) (v := Value.pointer (some ⟨gm, j, none⟩)) (fun wr hwr => by simp only [execOp, (F27.eval 11 (by omega)).trans (show _ = Value.pointer (some ⟨gm, 0, none⟩) from by simp [upd, e1, e5, e11, e12, e15, e16]), (F27.eval 166 (by omega)).trans (show _ = Value.int .i64 (j : Int) from by simp [upd, e1, e5, e11, e12, e15, e16])]; simp [go_sem, hj16n]) fun F28 => ?_
                            refine lyp F28 rfl HCC rfl (by omega) (want_yes F28 rfl (e := 165) rfl (by omega) (show _ = Value.bool true from by simp [upd, e1, e5, e11, e12, e15, e16])) (v := Value.int .i64 mj) (fun wr hwr => by simp only [execOp, (F28.eval 167 (by omega)).trans (show _ = Value.pointer (some ⟨gm, j, none⟩) from by simp [upd, e1, e5, e11, e12, e15, e16])]; simp [go_sem, hwr _, cmj]) fun F29 => ?_
                            refine lyp F29 rfl HCC rfl (by omega) (want_yes F29 rfl (e := 165) rfl (by omega) (show _ = Value.bool true from by simp [upd, e1, e5, e11, e12, e15, e16])) (v := Value.bool true) (fun wr hwr => by simp only [execOp, (F29.eval 168 (by omega)).trans (show _ = Value.int .i64 mj from by simp [upd, e1, e5, e11, e12, e15, e16])]; simp [go_sem, Act.eval, hmj]) fun F30 => ?_
                            refine lyp F30 rfl HCC rfl (by omega) (want_yes F30 rfl (e := 160) rfl (by omega) (show _ = Value.bool false from by simp [upd, e1, e5, e11, e12, e15, e16])) (v := Value.bool true) (fun wr hwr => by simp only [execOp, (F30.eval 165 (by omega)).trans (show _ = Value.bool true from by simp [upd, e1, e5, e11, e12, e15, e16]), (F30.eval 169 (by omega)).trans (show _ = Value.bool true from by simp [upd, e1, e5, e11, e12, e15, e16])]; simp [go_sem, Act.eval]) fun F31 => ?_
                            refine lyp F31 rfl HCC rfl (by omega) (want_yes F31 rfl (e := 160) rfl (by omega) (show _ = Value.bool false from by simp [upd, e1, e5, e11, e12, e15, e16])) (v := Value.bool true) (fun wr hwr => by simp only [execOp, (F31.eval 170 (by omega)).trans (show _ = Value.bool true from by simp [upd, e1, e5, e11, e12, e15, e16])]; first | rfl | simp [go_sem]) fun F32 => ?_
                            refine lyp F32 rfl HCC rfl (by omega) (want_yes F32 rfl (e := 171) rfl (by omega) (show _ = Value.bool true from by simp [upd, e1, e5, e11, e12, e15, e16])) (v := Value.int .i64 (i : Int)) (fun wr hwr => by simp only [execOp, (F32.eval 15 (by omega)).trans (show _ = Value.int .i64 (i : Int) from by simp [upd, e1, e5, e11, e12, e15, e16])]; first | rfl | simp [go_sem]) fun F33 => ?_
                            refine lyp F33 rfl HCC rfl (by omega) (want_yes F33 rfl (e := 171) rfl (by omega) (show _ = Value.bool true from by simp [upd, e1, e5, e11, e12, e15, e16])) (v := Value.pointer (some ⟨gr, i, none⟩)) (fun wr hwr => by simp only [execOp, (F33.eval 12 (by omega)).trans (show _ = Value.pointer (some ⟨gr, 0, none⟩) from by simp [upd, e1, e5, e11, e12, e15, e16]), (F33.eval 172 (by omega)).trans (show _ = Value.int .i64 (i : Int) from by simp [upd, e1, e5, e11, e12, e15, e16])]; simp [go_sem, hi16n]) fun F34 => ?_
                            refine lyp F34 rfl HCC rfl (by omega) (want_yes F34 rfl (e := 171) rfl (by omega) (show _ = Value.bool true from by simp [upd, e1, e5, e11, e12, e15, e16])) (v := Value.int .i64 ri) (fun wr hwr => by simp only [execOp, (F34.eval 173 (by omega)).trans (show _ = Value.pointer (some ⟨gr, i, none⟩) from by simp [upd, e1, e5, e11, e12, e15, e16])]; simp [go_sem, hwr _, cri]) fun F35 => ?_
                            refine lyp F35 rfl HCC rfl (by omega) (want_yes F35 rfl (e := 171) rfl (by omega) (show _ = Value.bool true from by simp [upd, e1, e5, e11, e12, e15, e16])) (v := Value.int .i64 (j : Int)) (fun wr hwr => by simp only [execOp, (F35.eval 16 (by omega)).trans (show _ = Value.int .i64 (j : Int) from by simp [upd, e1, e5, e11, e12, e15, e16])]; first | rfl | simp [go_sem]) fun F36 => ?_
                            refine lyp F36 rfl HCC rfl (by omega) (want_yes F36 rfl (e := 171) rfl (by omega) (show _ = Value.bool true from by simp [upd, e1, e5, e11, e12, e15, e16])) (v := Value.pointer (some ⟨gr, j, none⟩)) (fun wr hwr => by simp only [execOp, (F36.eval 12 (by omega)).trans (show _ = Value.pointer (some ⟨gr, 0, none⟩) from by simp [upd, e1, e5, e11, e12, e15, e16]), (F36.eval 175 (by omega)).trans (show _ = Value.int .i64 (j : Int) from by simp [upd, e1, e5, e11, e12, e15, e16])]; simp [go_sem, hj16n]) fun F37 => ?_
                            refine lyp F37 rfl HCC rfl (by omega) (want_yes F37 rfl (e := 171) rfl (by omega) (show _ = Value.bool true from by simp [upd, e1, e5, e11, e12, e15, e16])) (v := Value.int .i64 rj) (fun wr hwr => by simp only [execOp, (F37.eval 176 (by omega)).trans (show _ = Value.pointer (some ⟨gr, j, none⟩) from by simp [upd, e1, e5, e11, e12, e15, e16])]; simp [go_sem, hwr _, crj]) fun F38 => ?_
                            refine lyp F38 rfl HCC rfl (by omega) (want_yes F38 rfl (e := 171) rfl (by omega) (show _ = Value.bool true from by simp [upd, e1, e5, e11, e12, e15, e16])) (v := Value.bool false) (fun wr hwr => by simp only [execOp, (F38.eval 174 (by omega)).trans (show _ = Value.int .i64 ri from by simp [upd, e1, e5, e11, e12, e15, e16]), (F38.eval 177 (by omega)).trans (show _ = Value.int .i64 rj from by simp [upd, e1, e5, e11, e12, e15, e16])]; simp [go_sem, Act.eval, hrl]) fun F39 => ?_
                            refine lyp F39 rfl HCC rfl (by omega) (want_yes F39 rfl (e := 171) rfl (by omega) (show _ = Value.bool true from by simp [upd, e1, e5, e11, e12, e15, e16])) (v := Value.bool false) (fun wr hwr => by simp only [execOp, (F39.eval 178 (by omega)).trans (show _ = Value.bool false from by simp [upd, e1, e5, e11, e12, e15, e16])]; first | rfl | simp [go_sem]) fun F40 => ?_
                            refine lyp F40 rfl HCC rfl (by omega) (want_yes F40 rfl (e := 179) rfl (by omega) (show _ = Value.bool false from by simp [upd, e1, e5, e11, e12, e15, e16])) (v := Value.int .i64 (i : Int)) (fun wr hwr => by simp only [execOp, (F40.eval 15 (by omega)).trans (show _ = Value.int .i64 (i : Int) from by simp [upd, e1, e5, e11, e12, e15, e16])]; first | rfl | simp [go_sem]) fun F41 => ?_
                            refine lyp F41 rfl HCC rfl (by omega) (want_yes F41 rfl (e := 179) rfl (by omega) (show _ = Value.bool false from by simp [upd, e1, e5, e11, e12, e15, e16])) (v := Value.pointer (some ⟨gr, i, none⟩)) (fun wr hwr => by simp only [execOp, (F41.eval 12 (by omega)).trans (show _ = Value.pointer (some ⟨gr, 0, none⟩) from by simp [upd, e1, e5, e11, e12, e15, e16]), (F41.eval 180 (by omega)).trans (show _ = Value.int .i64 (i : Int) from by simp [upd, e1, e5, e11, e12, e15, e16])]; simp [go_sem, hi16n]) fun F42 => ?_
                            refine lyp F42 rfl HCC rfl (by omega) (want_yes F42 rfl (e := 179) rfl (by omega) (show _ = Value.bool false from by simp [upd, e1, e5, e11, e12, e15, e16])) (v := Value.int .i64 ri) (fun wr hwr => by simp only [execOp, (F42.eval 181 (by omega)).trans (show _ = Value.pointer (some ⟨gr, i, none⟩) from by simp [upd, e1, e5, e11, e12, e15, e16])]; simp [go_sem, hwr _, cri]) fun F43 => ?_
                            refine lyp F43 rfl HCC rfl (by omega) (want_yes F43 rfl (e := 179) rfl (by omega) (show _ = Value.bool false from by simp [upd, e1, e5, e11, e12, e15, e16])) (v := Value.int .i64 (j : Int)) (fun wr hwr => by simp only [execOp, (F43.eval 16 (by omega)).trans (show _ = Value.int .i64 (j : Int) from by simp [upd, e1, e5, e11, e12, e15, e16])]; first | rfl | simp [go_sem]) fun F44 => ?_
                            refine lyp F44 rfl HCC rfl (by omega) (want_yes F44 rfl (e := 179) rfl (by omega) (show _ = Value.bool false from by simp [upd, e1, e5, e11, e12, e15, e16])) (v := Value.pointer (some ⟨gr, j, none⟩)) (fun wr hwr => by simp only [execOp, (F44.eval 12 (by omega)).trans (show _ = Value.pointer (some ⟨gr, 0, none⟩) from by simp [upd, e1, e5, e11, e12, e15, e16]), (F44.eval 183 (by omega)).trans (show _ = Value.int .i64 (j : Int) from by simp [upd, e1, e5, e11, e12, e15, e16])]; simp [go_sem, hj16n]) fun F45 => ?_
                            refine lyp F45 rfl HCC rfl (by omega) (want_yes F45 rfl (e := 179) rfl (by omega) (show _ = Value.bool false from by simp [upd, e1, e5, e11, e12, e15, e16])) (v := Value.int .i64 rj) (fun wr hwr => by simp only [execOp, (F45.eval 184 (by omega)).trans (show _ = Value.pointer (some ⟨gr, j, none⟩) from by simp [upd, e1, e5, e11, e12, e15, e16])]; simp [go_sem, hwr _, crj]) fun F46 => ?_
                            refine lyp F46 rfl HCC rfl (by omega) (want_yes F46 rfl (e := 179) rfl (by omega) (show _ = Value.bool false from by simp [upd, e1, e5, e11, e12, e15, e16])) (v := Value.bool true) (fun wr hwr => by simp only [execOp, (F46.eval 182 (by omega)).trans (show _ = Value.int .i64 ri from by simp [upd, e1, e5, e11, e12, e15, e16]), (F46.eval 185 (by omega)).trans (show _ = Value.int .i64 rj from by simp [upd, e1, e5, e11, e12, e15, e16])]; simp [go_sem, Act.eval, hre]) fun F47 => ?_
                            refine lyp F47 rfl HCC rfl (by omega) (want_yes F47 rfl (e := 179) rfl (by omega) (show _ = Value.bool false from by simp [upd, e1, e5, e11, e12, e15, e16])) (v := Value.bool true) (fun wr hwr => by simp only [execOp, (F47.eval 186 (by omega)).trans (show _ = Value.bool true from by simp [upd, e1, e5, e11, e12, e15, e16])]; first | rfl | simp [go_sem]) fun F48 => ?_
                            refine lyp F48 rfl HCC rfl (by omega) (want_yes F48 rfl (e := 187) rfl (by omega) (show _ = Value.bool true from by simp [upd, e1, e5, e11, e12, e15, e16])) (v := Value.int .i64 (i : Int)) (fun wr hwr => by simp only [execOp, (F48.eval 15 (by omega)).trans (show _ = Value.int .i64 (i : Int) from by simp [upd, e1, e5, e11, e12, e15, e16])]; first | rfl | simp [go_sem]) fun F49 => ?_
                            refine lyp F49 rfl HCC rfl (by omega) (want_yes F49 rfl (e := 187) rfl (by omega) (show _ = Value.bool true from by simp [upd, e1, e5, e11, e12, e15, e16])) (v := Value.int .i64 (j : Int)) (fun wr hwr => by simp only [execOp, (F49.eval 16 (by omega)).trans (show _ = Value.int .i64 (j : Int) from by simp [upd, e1, e5, e11, e12, e15, e16])]; first | rfl | simp [go_sem]) fun F50 => ?_
                            refine lyp F50 rfl HCC rfl (by omega) (want_yes F50 rfl (e := 187) rfl (by omega) (show _ = Value.bool true from by simp [upd, e1, e5, e11, e12, e15, e16])) (v := Value.bool false) (fun wr hwr => by simp only [execOp, (F50.eval 188 (by omega)).trans (show _ = Value.int .i64 (i : Int) from by simp [upd, e1, e5, e11, e12, e15, e16]), (F50.eval 189 (by omega)).trans (show _ = Value.int .i64 (j : Int) from by simp [upd, e1, e5, e11, e12, e15, e16])]; simp [go_sem, Act.eval, hij]) fun F51 => ?_
                            refine lyp F51 rfl HCC rfl (by omega) (want_yes F51 rfl (e := 179) rfl (by omega) (show _ = Value.bool false from by simp [upd, e1, e5, e11, e12, e15, e16])) (v := Value.bool false) (fun wr hwr => by simp only [execOp, (F51.eval 187 (by omega)).trans (show _ = Value.bool true from by simp [upd, e1, e5, e11, e12, e15, e16]), (F51.eval 190 (by omega)).trans (show _ = Value.bool false from by simp [upd, e1, e5, e11, e12, e15, e16])]; simp [go_sem, Act.eval]) fun F52 => ?_
                            refine lyp F52 rfl HCC rfl (by omega) (want_yes F52 rfl (e := 171) rfl (by omega) (show _ = Value.bool true from by simp [upd, e1, e5, e11, e12, e15, e16])) (v := Value.bool false) (fun wr hwr => by simp only [execOp, (F52.eval 179 (by omega)).trans (show _ = Value.bool false from by simp [upd, e1, e5, e11, e12, e15, e16]), (F52.eval 191 (by omega)).trans (show _ = Value.bool false from by simp [upd, e1, e5, e11, e12, e15, e16])]; simp [go_sem, Act.eval]) fun F53 => ?_
                            refine lyp F53 rfl HCC rfl (by omega) (want_yes F53 rfl (e := 160) rfl (by omega) (show _ = Value.bool false from by simp [upd, e1, e5, e11, e12, e15, e16])) (v := Value.bool false) (fun wr hwr => by simp only [execOp, (F53.eval 171 (by omega)).trans (show _ = Value.bool true from by simp [upd, e1, e5, e11, e12, e15, e16]), (F53.eval 192 (by omega)).trans (show _ = Value.bool false from by simp [upd, e1, e5, e11, e12, e15, e16])]; simp [go_sem, Act.eval]) fun F54 => ?_
                            refine lyp F54 rfl HCC rfl (by omega) (wanted_none rfl) (v := Value.bool false) (fun wr hwr => by simp only [execOp, (F54.eval 160 (by omega)).trans (show _ = Value.bool false from by simp [upd, e1, e5, e11, e12, e15, e16]), (F54.eval 193 (by omega)).trans (show _ = Value.bool false from by simp [upd, e1, e5, e11, e12, e15, e16])]; simp [go_sem, Act.eval]) fun F55 => ?_
                            refine ⟨fun _ => HCC, ?_⟩
                            refine hK _ _ ?_
                            clear F0 F1 F2 F3 F4 F5 F6 F7 F8 F9 F10 F11 F12 F13 F14 F15 F16 F17 F18 F19 F20 F21 F22 F23 F24 F25 F26 F27 F28 F29 F30 F31 F32 F33 F34 F35 F36 F37 F38 F39 F40 F41 F42 F43 F44 F45 F46 F47 F48 F49 F50 F51 F52 F53 F54 F55 e1 e5 e11 e12 e15 e16 HCC
                            simp only [Act.put, List.setIfInBounds_toArray, List.set_cons_succ, List.set_cons_zero]
                            generalize hY : (({ wr with drawn := wr.drawn + 1 } : World)) = Y
                            have hY2 : Y = X0.drewN (q + 1) := by rw [← hY, HWQ.out]; rfl
                            have HY : Hid _ := hY2
                            clear hY hY2 HWQ cyi cyj cpi cpj cmi cmj cri crj
                            go_wp2
                            go_roundw
                            case rel => exact ⟨j + 1, q + 1, by omega, by go_num, HY.out⟩
                            case measure => simp [intOf]; omega
                          · go_wp2_with fail
                            rename_i K hK
                            try rw [show ∀ a : Act, a.put none undef = a from fun _ => rfl]
                            refine wp_region_mix (fun wq => ∀ p : Addr, wq.cell? p = wr.cell? p) (fun i => i == 99) 99 (by kernel_rfl) rfl (by kernel_rfl) (by kernel_rfl) (by kernel_rfl) ?_
                            refine withFrP (N := 198) rfl ?_
                            intro f0 F0 hff
                            have e1 : f0 1 = Value.slice (some ⟨gL, 0, none⟩) m cL := hff 1
                            have e5 : f0 5 = Value.slice (some ⟨gP, 0, none⟩) m cP := hff 5
                            have e11 : f0 11 = Value.pointer (some ⟨gm, 0, none⟩) := hff 11
                            have e12 : f0 12 = Value.pointer (some ⟨gr, 0, none⟩) := hff 12
                            have e15 : f0 15 = Value.int .i64 (i : Int) := hff 15
                            have e16 : f0 16 = Value.int .i64 (j : Int) := hff 16
                            clear hff
                            have HCC : ∀ p : Addr, (({ wr with drawn := wr.drawn + 1 } : World)).cell? p = wr.cell? p := fun _ => rfl
                            refine lyp F0 rfl HCC rfl (by omega) (wanted_none rfl) (v := Value.slice (some ⟨gL, 0, none⟩) m cL) (fun wr hwr => by simp only [execOp, (F0.eval 1 (by omega)).trans (show _ = Value.slice (some ⟨gL, 0, none⟩) m cL from by simp [upd, e1, e5, e11, e12, e15, e16])]; first | rfl | simp [go_sem]) fun F1 => ?_
                            refine lyp F1 rfl HCC rfl (by omega) (wanted_none rfl) (v := Value.int .i64 (i : Int)) (fun wr hwr => by simp only [execOp, (F1.eval 15 (by omega)).trans (show _ = Value.int .i64 (i : Int) from by simp [upd, e1, e5, e11, e12, e15, e16])]; first | rfl | simp [go_sem]) fun F2 => ?_
                            refine lyp F2 rfl HCC rfl (by omega) (wanted_none rfl) (v := Value.pointer (some ⟨gL, i, none⟩)) (fun wr hwr => by simp only [execOp, (F2.eval 140 (by omega)).trans (show _ = Value.slice (some ⟨gL, 0, none⟩) m cL from by simp [upd, e1, e5, e11, e12, e15, e16]), (F2.eval 141 (by omega)).trans (show _ = Value.int .i64 (i : Int) from by simp [upd, e1, e5, e11, e12, e15, e16])]; simp [go_sem, hi]) fun F3 => ?_
                            refine lyp F3 rfl HCC rfl (by omega) (wanted_none rfl) (v := Value.int .i64 yi) (fun wr hwr => by simp only [execOp, (F3.eval 142 (by omega)).trans (show _ = Value.pointer (some ⟨gL, i, none⟩) from by simp [upd, e1, e5, e11, e12, e15, e16])]; simp [go_sem, hwr _, cyi]) fun F4 => ?_
                            refine lyp F4 rfl HCC rfl (by omega) (wanted_none rfl) (v := Value.slice (some ⟨gL, 0, none⟩) m cL) (fun wr hwr => by simp only [execOp, (F4.eval 1 (by omega)).trans (show _ = Value.slice (some ⟨gL, 0, none⟩) m cL from by simp [upd, e1, e5, e11, e12, e15, e16])]; first | rfl | simp [go_sem]) fun F5 => ?_
                            refine lyp F5 rfl HCC rfl (by omega) (wanted_none rfl) (v := Value.int .i64 (j : Int)) (fun wr hwr => by simp only [execOp, (F5.eval 16 (by omega)).trans (show _ = Value.int .i64 (j : Int) from by simp [upd, e1, e5, e11, e12, e15, e16])]; first | rfl | simp [go_sem]) fun F6 => ?_
                            refine lyp F6 rfl HCC rfl (by omega) (wanted_none rfl) (v := Value.pointer (some ⟨gL, j, none⟩)) (fun wr hwr => by simp only [execOp, (F6.eval 144 (by omega)).trans (show _ = Value.slice (some ⟨gL, 0, none⟩) m cL from by simp [upd, e1, e5, e11, e12, e15, e16]), (F6.eval 145 (by omega)).trans (show _ = Value.int .i64 (j : Int) from by simp [upd, e1, e5, e11, e12, e15, e16])]; simp [go_sem, hj]) fun F7 => ?_
                            refine lyp F7 rfl HCC rfl (by omega) (wanted_none rfl) (v := Value.int .i64 yj) (fun wr hwr => by simp only [execOp, (F7.eval 146 (by omega)).trans (show _ = Value.pointer (some ⟨gL, j, none⟩) from by simp [upd, e1, e5, e11, e12, e15, e16])]; simp [go_sem, hwr _, cyj]) fun F8 => ?_
                            refine lyp F8 rfl HCC rfl (by omega) (wanted_none rfl) (v := Value.bool true) (fun wr hwr => by simp only [execOp, (F8.eval 143 (by omega)).trans (show _ = Value.int .i64 yi from by simp [upd, e1, e5, e11, e12, e15, e16]), (F8.eval 147 (by omega)).trans (show _ = Value.int .i64 yj from by simp [upd, e1, e5, e11, e12, e15, e16])]; simp [go_sem, Act.eval, hgt]) fun F9 => ?_
                            refine lyp F9 rfl HCC rfl (by omega) (wanted_none rfl) (v := Value.bool true) (fun wr hwr => by simp only [execOp, (F9.eval 148 (by omega)).trans (show _ = Value.bool true from by simp [upd, e1, e5, e11, e12, e15, e16])]; first | rfl | simp [go_sem]) fun F10 => ?_
                            refine lyp F10 rfl HCC rfl (by omega) (want_yes F10 rfl (e := 149) rfl (by omega) (show _ = Value.bool true from by simp [upd, e1, e5, e11, e12, e15, e16])) (v := Value.slice (some ⟨gP, 0, none⟩) m cP) (fun wr hwr => by simp only [execOp, (F10.eval 5 (by omega)).trans (show _ = Value.slice (some ⟨gP, 0, none⟩) m cP from by simp [upd, e1, e5, e11, e12, e15, e16])]; first | rfl | simp [go_sem]) fun F11 => ?_
                            refine lyp F11 rfl HCC rfl (by omega) (want_yes F11 rfl (e := 149) rfl (by omega) (show _ = Value.bool true from by simp [upd, e1, e5, e11, e12, e15, e16])) (v := Value.int .i64 (i : Int)) (fun wr hwr => by simp only [execOp, (F11.eval 15 (by omega)).trans (show _ = Value.int .i64 (i : Int) from by simp [upd, e1, e5, e11, e12, e15, e16])]; first | rfl | simp [go_sem]) fun F12 => ?_
                            refine lyp F12 rfl HCC rfl (by omega) (want_yes F12 rfl (e := 149) rfl (by omega) (show _ = Value.bool true from by simp [upd, e1, e5, e11, e12, e15, e16])) (v := Value.pointer (some ⟨gP, i, none⟩)) (fun wr hwr => by simp only [execOp, (F12.eval 150 (by omega)).trans (show _ = Value.slice (some ⟨gP, 0, none⟩) m cP from by simp [upd, e1, e5, e11, e12, e15, e16]), (F12.eval 151 (by omega)).trans (show _ = Value.int .i64 (i : Int) from by simp [upd, e1, e5, e11, e12, e15, e16])]; simp [go_sem, hi]) fun F13 => ?_
                            refine lyp F13 rfl HCC rfl (by omega) (want_yes F13 rfl (e := 149) rfl (by omega) (show _ = Value.bool true from by simp [upd, e1, e5, e11, e12, e15, e16])) (v := Value.int .i64 pi) (fun wr hwr => by simp only [execOp, (F13.eval 152 (by omega)).trans (show _ = Value.pointer (some ⟨gP, i, none⟩) from by simp [upd, e1, e5, e11, e12, e15, e16])]; simp [go_sem, hwr _, cpi]) fun F14 => ?_
                            refine lyp F14 rfl HCC rfl (by omega) (want_yes F14 rfl (e := 149) rfl (by omega) (show _ = Value.bool true from by simp [upd, e1, e5, e11, e12, e15, e16])) (v := Value.slice (some ⟨gP, 0, none⟩) m cP) (fun wr hwr => by simp only [execOp, (F14.eval 5 (by omega)).trans (show _ = Value.slice (some ⟨gP, 0, none⟩) m cP from by simp [upd, e1, e5, e11, e12, e15, e16])]; first | rfl | simp [go_sem]) fun F15 => ?_
                            refine lyp F15 rfl HCC rfl (by omega) (want_yes F15 rfl (e := 149) rfl (by omega) (show _ = Value.bool true from by simp [upd, e1, e5, e11, e12, e15, e16])) (v := Value.int .i64 (j : Int)) (fun wr hwr => by simp only [execOp, (F15.eval 16 (by omega)).trans (show _ = Value.int .i64 (j : Int) from by simp [upd, e1, e5, e11, e12, e15, e16])]; first | rfl | simp [go_sem]) fun F16 => ?_
                            refine lyp F16 rfl HCC rfl (by omega) (want_yes F16 rfl (e := 149) rfl (by omega) (show _ = Value.bool true from by simp [upd, e1, e5, e11, e12, e15, e16])) (v := Value.pointer (some ⟨gP, j, none⟩)) (fun wr hwr => by simp only [execOp, (F16.eval 154 (by omega)).trans (show _ = Value.slice (some ⟨gP, 0, none⟩) m cP from by simp [upd, e1, e5, e11, e12, e15, e16]), (F16.eval 155 (by omega)).trans (show _ = Value.int .i64 (j : Int) from by simp [upd, e1, e5, e11, e12, e15, e16])]; simp [go_sem, hj]) fun F17 => ?_
                            refine lyp F17 rfl HCC rfl (by omega) (want_yes F17 rfl (e := 149) rfl (by omega) (show _ = Value.bool true from by simp [upd, e1, e5, e11, e12, e15, e16])) (v := Value.int .i64 pj) (fun wr hwr => by simp only [execOp, (F17.eval 156 (by omega)).trans (show _ = Value.pointer (some ⟨gP, j, none⟩) from by simp [upd, e1, e5, e11, e12, e15, e16])]; simp [go_sem, hwr _, cpj]) fun F18 => ?_
                            refine lyp F18 rfl HCC rfl (by omega) (want_yes F18 rfl (e := 149) rfl (by omega) (show _ = Value.bool true from by simp [upd, e1, e5, e11, e12, e15, e16])) (v := Value.bool false) (fun wr hwr => by simp only [execOp, (F18.eval 153 (by omega)).trans (show _ = Value.int .i64 pi from by simp [upd, e1, e5, e11, e12, e15, e16]), (F18.eval 157 (by omega)).trans (show _ = Value.int .i64 pj from by simp [upd, e1, e5, e11, e12, e15, e16])]; simp [go_sem, Act.eval, hpij]) fun F19 => ?_
                            refine lyp F19 rfl HCC rfl (by omega) (wanted_none rfl) (v := Value.bool false) (fun wr hwr => by simp only [execOp, (F19.eval 149 (by omega)).trans (show _ = Value.bool true from by simp [upd, e1, e5, e11, e12, e15, e16]), (F19.eval 158 (by omega)).trans (show _ = Value.bool false from by simp [upd, e1, e5, e11, e12, e15, e16])]; simp [go_sem, Act.eval]) fun F20 => ?_
                            refine lyp F20 rfl HCC rfl (by omega) (wanted_none rfl) (v := Value.bool false) (fun wr hwr => by simp only [execOp, (F20.eval 159 (by omega)).trans (show _ = Value.bool false from by simp [upd, e1, e5, e11, e12, e15, e16])]; first | rfl | simp [go_sem]) fun F21 => ?_
                            refine lyp F21 rfl HCC rfl (by omega) (want_yes F21 rfl (e := 160) rfl (by omega) (show _ = Value.bool false from by simp [upd, e1, e5, e11, e12, e15, e16])) (v := Value.int .i64 (i : Int)) (fun wr hwr => by simp only [execOp, (F21.eval 15 (by omega)).trans (show _ = Value.int .i64 (i : Int) from by simp [upd, e1, e5, e11, e12, e15, e16])]; first | rfl | simp [go_sem]) fun F22 => ?_
                            refine lyp F22 rfl HCC rfl (by omega) (want_yes F22 rfl (e := 160) rfl (by omega) (show _ = Value.bool false from by simp [upd, e1, e5, e11, e12, e15, e16])) (v := Value.pointer (some ⟨gm, i, none⟩)) (fun wr hwr => by simp only [execOp, (F22.eval 11 (by omega)).trans (show _ = Value.pointer (some ⟨gm, 0, none⟩) from by simp [upd, e1, e5, e11, e12, e15, e16]), (F22.eval 161 (by omega)).trans (show _ = Value.int .i64 (i : Int) from by simp [upd, e1, e5, e11, e12, e15, e16])]; simp [go_sem, hi16n]) fun F23 => ?_
                            refine lyp F23 rfl HCC rfl (by omega) (want_yes F23 rfl (e := 160) rfl (by omega) (show _ = Value.bool false from by simp [upd, e1, e5, e11, e12, e15, e16])) (v := Value.int .i64 mi) (fun wr hwr => by simp only [execOp, (F23.eval 162 (by omega)).trans (show _ = Value.pointer (some ⟨gm, i, none⟩) from by simp [upd, e1, e5, e11, e12, e15, e16])]; simp [go_sem, hwr _, cmi]) fun F24 => ?_
                            refine lyp F24 rfl HCC rfl (by omega) (want_yes F24 rfl (e := 160) rfl (by omega) (show _ = Value.bool false from by simp [upd, e1, e5, e11, e12, e15, e16])) (v := Value.bool true) (fun wr hwr => by simp only [execOp, (F24.eval 163 (by omega)).trans (show _ = Value.int .i64 mi from by simp [upd, e1, e5, e11, e12, e15, e16])]; simp [go_sem, Act.eval, hmi]) fun F25 => ?_
                            refine lyp F25 rfl HCC rfl (by omega) (want_yes F25 rfl (e := 160) rfl (by omega) (show _ = Value.bool false from by simp [upd, e1, e5, e11, e12, e15, e16])) (v := Value.bool true) (fun wr hwr => by simp only [execOp, (F25.eval 164 (by omega)).trans (show _ = Value.bool true from by simp [upd, e1, e5, e11, e12, e15, e16])]; first | rfl | simp [go_sem]) fun F26 => ?_
                            refine lyp F26 rfl HCC rfl (by omega) (want_yes F26 rfl (e := 165) rfl (by omega) (show _ = Value.bool true from by simp [upd, e1, e5, e11, e12, e15, e16])) (v := Value.int .i64 (j : Int)) (fun wr hwr => by simp only [execOp, (F26.eval 16 (by omega)).trans (show _ = Value.int .i64 (j : Int) from by simp [upd, e1, e5, e11, e12, e15, e16])]; first | rfl | simp [go_sem]) fun F27 => ?_
                            refine lyp F27 rfl HCC rfl (by omega) (want_yes F27 rfl (e := 165) rfl (by omega) (show _ = Value.bool true from by simp [upd, e1, e5, e11, e12, e15, e16])) (v := Value.pointer (some ⟨gm, j, none⟩)) (fun wr hwr => by simp only [execOp, (F27.eval 11 (by omega)).trans (show _ = Value.pointer (some ⟨gm, 0, none⟩) from by simp [upd, e1, e5, e11, e12, e15, e16]), (F27.eval 166 (by omega)).trans (show _ = Value.int .i64 (j : Int) from by simp [upd, e1, e5, e11, e12, e15, e16])]; simp [go_sem, hj16n]) fun F28 => ?_
                            refine lyp F28 rfl HCC rfl (by omega) (want_yes F28 rfl (e := 165) rfl (by omega) (show _ = Value.bool true from by simp [upd, e1, e5, e11, e12, e15, e16])) (v := Value.int .i64 mj) (fun wr hwr => by simp only [execOp, (F28.eval 167 (by omega)).trans (show _ = Value.pointer (some ⟨gm, j, none⟩) from by simp [upd, e1, e5, e11, e12, e15, e16])]; simp [go_sem, hwr _, cmj]) fun F29 => ?_
                            refine lyp F29 rfl HCC rfl (by omega) (want_yes F29 rfl (e := 165) rfl (by omega) (show _ = Value.bool true from by simp [upd, e1, e5, e11, e12, e15, e16])) (v := Value.bool true) (fun wr hwr => by simp only [execOp, (F29.eval 168 (by omega)).trans (show _ = Value.int .i64 mj from by simp [upd, e1, e5, e11, e12, e15, e16])]; simp [go_sem, Act.eval, hmj]) fun F30 => ?_
                            refine lyp F30 rfl HCC rfl (by omega) (want_yes F30 rfl (e := 160) rfl (by omega) (show _ = Value.bool false from by simp [upd, e1, e5, e11, e12, e15, e16])) (v := Value.bool true) (fun wr hwr => by simp only [execOp, (F30.eval 165 (by omega)).trans (show _ = Value.bool true from by simp [upd, e1, e5, e11, e12, e15, e16]), (F30.eval 169 (by omega)).trans (show _ = Value.bool true from by simp [upd, e1, e5, e11, e12, e15, e16])]; simp [go_sem, Act.eval]) fun F31 => ?_
                            refine lyp F31 rfl HCC rfl (by omega) (want_yes F31 rfl (e := 160) rfl (by omega) (show _ = Value.bool false from by simp [upd, e1, e5, e11, e12, e15, e16])) (v := Value.bool true) (fun wr hwr => by simp only [execOp, (F31.eval 170 (by omega)).trans (show _ = Value.bool true from by simp [upd, e1, e5, e11, e12, e15, e16])]; first | rfl | simp [go_sem]) fun F32 => ?_
                            refine lyp F32 rfl HCC rfl (by omega) (want_yes F32 rfl (e := 171) rfl (by omega) (show _ = Value.bool true from by simp [upd, e1, e5, e11, e12, e15, e16])) (v := Value.int .i64 (i : Int)) (fun wr hwr => by simp only [execOp, (F32.eval 15 (by omega)).trans (show _ = Value.int .i64 (i : Int) from by simp [upd, e1, e5, e11, e12, e15, e16])]; first | rfl | simp [go_sem]) fun F33 => ?_
                            refine lyp F33 rfl HCC rfl (by omega) (want_yes F33 rfl (e := 171) rfl (by omega) (show _ = Value.bool true from by simp [upd, e1, e5, e11, e12, e15, e16])) (v := Value.pointer (some ⟨gr, i, none⟩)) (fun wr hwr => by simp only [execOp, (F33.eval 12 (by omega)).trans (show _ = Value.pointer (some ⟨gr, 0, none⟩) from by simp [upd, e1, e5, e11, e12, e15, e16]), (F33.eval 172 (by omega)).trans (show _ = Value.int .i64 (i : Int) from by simp [upd, e1, e5, e11, e12, e15, e16])]; simp [go_sem, hi16n]) fun F34 => ?_
                            refine lyp F34 rfl HCC rfl (by omega) (want_yes F34 rfl (e := 171) rfl (by omega) (show _ = Value.bool true from by simp [upd, e1, e5, e11, e12, e15, e16])) (v := Value.int .i64 ri) (fun wr hwr => by simp only [execOp, (F34.eval 173 (by omega)).trans (show _ = Value.pointer (some ⟨gr, i, none⟩) from by simp [upd, e1, e5, e11, e12, e15, e16])]; simp [go_sem, hwr _, cri]) fun F35 => ?_
                            refine lyp F35 rfl HCC rfl (by omega) (want_yes F35 rfl (e := 171) rfl (by omega) (show _ = Value.bool true from by simp [upd, e1, e5, e11, e12, e15, e16])) (v := Value.int .i64 (j : Int)) (fun wr hwr => by simp only [execOp, (F35.eval 16 (by omega)).trans (show _ = Value.int .i64 (j : Int) from by simp [upd, e1, e5, e11, e12, e15, e16])]; first | rfl | simp [go_sem]) fun F36 => ?_
                            refine lyp F36 rfl HCC rfl (by omega) (want_yes F36 rfl (e := 171) rfl (by omega) (show _ = Value.bool true from by simp [upd, e1, e5, e11, e12, e15, e16])) (v := Value.pointer (some ⟨gr, j, none⟩)) (fun wr hwr => by simp only [execOp, (F36.eval 12 (by omega)).trans (show _ = Value.pointer (some ⟨gr, 0, none⟩) from by simp [upd, e1, e5, e11, e12, e15, e16]), (F36.eval 175 (by omega)).trans (show _ = Value.int .i64 (j : Int) from by simp [upd, e1, e5, e11, e12, e15, e16])]; simp [go_sem, hj16n]) fun F37 => ?_
                            refine lyp F37 rfl HCC rfl (by omega) (want_yes F37 rfl (e := 171) rfl (by omega) (show _ = Value.bool true from by simp [upd, e1, e5, e11, e12, e15, e16])) (v := Value.int .i64 rj) (fun wr hwr => by simp only [execOp, (F37.eval 176 (by omega)).trans (show _ = Value.pointer (some ⟨gr, j, none⟩) from by simp [upd, e1, e5, e11, e12, e15, e16])]; simp [go_sem, hwr _, crj]) fun F38 => ?_
                            refine lyp F38 rfl HCC rfl (by omega) (want_yes F38 rfl (e := 171) rfl (by omega) (show _ = Value.bool true from by simp [upd, e1, e5, e11, e12, e15, e16])) (v := Value.bool false) (fun wr hwr => by simp only [execOp, (F38.eval 174 (by omega)).trans (show _ = Value.int .i64 ri from by simp [upd, e1, e5, e11, e12, e15, e16]), (F38.eval 177 (by omega)).trans (show _ = Value.int .i64 rj from by simp [upd, e1, e5, e11, e12, e15, e16])]; simp [go_sem, Act.eval, hrl]) fun F39 => ?_
                            refine lyp F39 rfl HCC rfl (by omega) (want_yes F39 rfl (e := 171) rfl (by omega) (show _ = Value.bool true from by simp [upd, e1, e5, e11, e12, e15, e16])) (v := Value.bool false) (fun wr hwr => by simp only [execOp, (F39.eval 178 (by omega)).trans (show _ = Value.bool false from by simp [upd, e1, e5, e11, e12, e15, e16])]; first | rfl | simp [go_sem]) fun F40 => ?_
                            refine lyp F40 rfl HCC rfl (by omega) (want_yes F40 rfl (e := 179) rfl (by omega) (show _ = Value.bool false from by simp [upd, e1, e5, e11, e12, e15, e16])) (v := Value.int .i64 (i : Int)) (fun wr hwr => by simp only [execOp, (F40.eval 15 (by omega)).trans (show _ = Value.int .i64 (i : Int) from by simp [upd, e1, e5, e11, e12, e15, e16])]; first | rfl | simp [go_sem]) fun F41 => ?_
                            refine lyp F41 rfl HCC rfl (by omega) (want_yes F41 rfl (e := 179) rfl (by omega) (show _ = Value.bool false from by simp [upd, e1, e5, e11, e12, e15, e16])) (v := Value.pointer (some ⟨gr, i, none⟩)) (fun wr hwr => by simp only [execOp, (F41.eval 12 (by omega)).trans (show _ = Value.pointer (some ⟨gr, 0, none⟩) from by simp [upd, e1, e5, e11, e12, e15, e16]), (F41.eval 180 (by omega)).trans (show _ = Value.int .i64 (i : Int) from by simp [upd, e1, e5, e11, e12, e15, e16])]; simp [go_sem, hi16n]) fun F42 => ?_
                            refine lyp F42 rfl HCC rfl (by omega) (want_yes F42 rfl (e := 179) rfl (by omega) (show _ = Value.bool false from by simp [upd, e1, e5, e11, e12, e15, e16])) (v := Value.int .i64 ri) (fun wr hwr => by simp only [execOp, (F42.eval 181 (by omega)).trans (show _ = Value.pointer (some ⟨gr, i, none⟩) from by simp [upd, e1, e5, e11, e12, e15, e16])]; simp [go_sem, hwr _, cri]) fun F43 => ?_
                            refine lyp F43 rfl HCC rfl (by omega) (want_yes F43 rfl (e := 179) rfl (by omega) (show _ = Value.bool false from by simp [upd, e1, e5, e11, e12, e15, e16])) (v := Value.int .i64 (j : Int)) (fun wr hwr => by simp only [execOp, (F43.eval 16 (by omega)).trans (show _ = Value.int .i64 (j : Int) from by simp [upd, e1, e5, e11, e12, e15, e16])]; first | rfl | simp [go_sem]) fun F44 => ?_
                            refine lyp F44 rfl HCC rfl (by omega) (want_yes F44 rfl (e := 179) rfl (by omega) (show _ = Value.bool false from by simp [upd, e1, e5, e11, e12, e15, e16])) (v := Value.pointer (some ⟨gr, j, none⟩)) (fun wr hwr => by simp only [execOp, (F44.eval 12 (by omega)).trans (show _ = Value.pointer (some ⟨gr, 0, none⟩) from by simp [upd, e1, e5, e11, e12, e15, e16]), (F44.eval 183 (by omega)).trans (show _ = Value.int .i64 (j : Int) from by simp [upd, e1, e5, e11, e12, e15, e16])]; simp [go_sem, hj16n]) fun F45 => ?_
                            refine lyp F45 rfl HCC rfl (by omega) (want_yes F45 rfl (e := 179) rfl (by omega) (show _ = Value.bool false from by simp [upd, e1, e5, e11, e12, e15, e16])) (v := Value.int .i64 rj) (fun wr hwr => by simp only [execOp, (F45.eval 184 (by omega)).trans (show _ = Value.pointer (some ⟨gr, j, none⟩) from by simp [upd, e1, e5, e11, e12, e15, e16])]; simp [go_sem, hwr _, crj]) fun F46 => ?_
                            refine lyp F46 rfl HCC rfl (by omega) (want_yes F46 rfl (e := 179) rfl (by omega) (show _ = Value.bool false from by simp [upd, e1, e5, e11, e12, e15, e16])) (v := Value.bool false) (fun wr hwr => by simp only [execOp, (F46.eval 182 (by omega)).trans (show _ = Value.int .i64 ri from by simp [upd, e1, e5, e11, e12, e15, e16]), (F46.eval 185 (by omega)).trans (show _ = Value.int .i64 rj from by simp [upd, e1, e5, e11, e12, e15, e16])]; simp [go_sem, Act.eval, hre]) fun F47 => ?_
                            refine lyp F47 rfl HCC rfl (by omega) (want_yes F47 rfl (e := 179) rfl (by omega) (show _ = Value.bool false from by simp [upd, e1, e5, e11, e12, e15, e16])) (v := Value.bool false) (fun wr hwr => by simp only [execOp, (F47.eval 186 (by omega)).trans (show _ = Value.bool false from by simp [upd, e1, e5, e11, e12, e15, e16])]; first | rfl | simp [go_sem]) fun F48 => ?_
                            refine lnp F48 rfl HCC rfl (by omega) (want_no F48 rfl (e := 187) rfl (by omega) (show _ = Value.bool false from by simp [upd, e1, e5, e11, e12, e15, e16]) (by decide)) fun F49 => ?_
                            refine lnp F49 rfl HCC rfl (by omega) (want_no F49 rfl (e := 187) rfl (by omega) (show _ = Value.bool false from by simp [upd, e1, e5, e11, e12, e15, e16]) (by decide)) fun F50 => ?_
                            refine lnp F50 rfl HCC rfl (by omega) (want_no F50 rfl (e := 187) rfl (by omega) (show _ = Value.bool false from by simp [upd, e1, e5, e11, e12, e15, e16]) (by decide)) fun F51 => ?_
                            refine lyp F51 rfl HCC rfl (by omega) (want_yes F51 rfl (e := 179) rfl (by omega) (show _ = Value.bool false from by simp [upd, e1, e5, e11, e12, e15, e16])) (v := Value.bool false) (fun wr hwr => by simp only [execOp, (F51.eval 187 (by omega)).trans (show _ = Value.bool false from by simp [upd, e1, e5, e11, e12, e15, e16])]; simp [go_sem, Act.eval]) fun F52 => ?_
                            refine lyp F52 rfl HCC rfl (by omega) (want_yes F52 rfl (e := 171) rfl (by omega) (show _ = Value.bool true from by simp [upd, e1, e5, e11, e12, e15, e16])) (v := Value.bool false) (fun wr hwr => by simp only [execOp, (F52.eval 179 (by omega)).trans (show _ = Value.bool false from by simp [upd, e1, e5, e11, e12, e15, e16]), (F52.eval 191 (by omega)).trans (show _ = Value.bool false from by simp [upd, e1, e5, e11, e12, e15, e16])]; simp [go_sem, Act.eval]) fun F53 => ?_
                            refine lyp F53 rfl HCC rfl (by omega) (want_yes F53 rfl (e := 160) rfl (by omega) (show _ = Value.bool false from by simp [upd, e1, e5, e11, e12, e15, e16])) (v := Value.bool false) (fun wr hwr => by simp only [execOp, (F53.eval 171 (by omega)).trans (show _ = Value.bool true from by simp [upd, e1, e5, e11, e12, e15, e16]), (F53.eval 192 (by omega)).trans (show _ = Value.bool false from by simp [upd, e1, e5, e11, e12, e15, e16])]; simp [go_sem, Act.eval]) fun F54 => ?_
                            refine lyp F54 rfl HCC rfl (by omega) (wanted_none rfl) (v := Value.bool false) (fun wr hwr => by simp only [execOp, (F54.eval 160 (by omega)).trans (show _ = Value.bool false from by simp [upd, e1, e5, e11, e12, e15, e16]), (F54.eval 193 (by omega)).trans (show _ = Value.bool false from by simp [upd, e1, e5, e11, e12, e15, e16])]; simp [go_sem, Act.eval]) fun F55 => ?_
                            refine ⟨fun _ => HCC, ?_⟩
                            refine hK _ _ ?_
                            clear F0 F1 F2 F3 F4 F5 F6 F7 F8 F9 F10 F11 F12 F13 F14 F15 F16 F17 F18 F19 F20 F21 F22 F23 F24 F25 F26 F27 F28 F29 F30 F31 F32 F33 F34 F35 F36 F37 F38 F39 F40 F41 F42 F43 F44 F45 F46 F47 F48 F49 F50 F51 F52 F53 F54 F55 e1 e5 e11 e12 e15 e16 HCC
                            simp only [Act.put, List.setIfInBounds_toArray, List.set_cons_succ, List.set_cons_zero]
                            generalize hY : (({ wr with drawn := wr.drawn + 1 } : World)) = Y
                            have hY2 : Y = X0.drewN (q + 1) := by rw [← hY, HWQ.out]; rfl
                            have HY : Hid _ := hY2
                            clear hY hY2 HWQ cyi cyj cpi cpj cmi cmj cri crj
                            go_wp2
                            go_roundw
                            case rel => exact ⟨j + 1, q + 1, by omega, by go_num, HY.out⟩
                            case measure => simp [intOf]; omega
                        · go_wp2_with fail
                          rename_i K hK
                          try rw [show ∀ a : Act, a.put none undef = a from fun _ => rfl]
                          refine wp_region_mix (fun wq => ∀ p : Addr, wq.cell? p = wr.cell? p) (fun i => i == 99) 99 (by kernel_rfl) rfl (by kernel_rfl) (by kernel_rfl) (by kernel_rfl) ?_
                          refine withFrP (N := 198) rfl ?_
                          intro f0 F0 hff
                          have e1 : f0 1 = Value.slice (some ⟨gL, 0, none⟩) m cL := hff 1
                          have e5 : f0 5 = Value.slice (some ⟨gP, 0, none⟩) m cP := hff 5
                          have e11 : f0 11 = Value.pointer (some ⟨gm, 0, none⟩) := hff 11
                          have e12 : f0 12 = Value.pointer (some ⟨gr, 0, none⟩) := hff 12
                          have e15 : f0 15 = Value.int .i64 (i : Int) := hff 15
                          have e16 : f0 16 = Value.int .i64 (j : Int) := hff 16
                          clear hff
                          have HCC : ∀ p : Addr, (({ wr with drawn := wr.drawn + 1 } : World)).cell? p = wr.cell? p := fun _ => rfl
                          refine lyp F0 rfl HCC rfl (by omega) (wanted_none rfl) (v := Value.slice (some ⟨gL, 0, none⟩) m cL) (fun wr hwr => by simp only [execOp, (F0.eval 1 (by omega)).trans (show _ = Value.slice (some ⟨gL, 0, none⟩) m cL from by simp [upd, e1, e5, e11, e12, e15, e16])]; first | rfl | simp [go_sem]) fun F1 => ?_
                          refine lyp F1 rfl HCC rfl (by omega) (wanted_none rfl) (v := Value.int .i64 (i : Int)) (fun wr hwr => by simp only [execOp, (F1.eval 15 (by omega)).trans (show _ = Value.int .i64 (i : Int) from by simp [upd, e1, e5, e11, e12, e15, e16])]; first | rfl | simp [go_sem]) fun F2 => ?_
                          refine lyp F2 rfl HCC rfl (by omega) (wanted_none rfl) (v := Value.pointer (some ⟨gL, i, none⟩)) (fun wr hwr => by simp only [execOp, (F2.eval 140 (by omega)).trans (show _ = Value.slice (some ⟨gL, 0, none⟩) m cL from by simp [upd, e1, e5, e11, e12, e15, e16]), (F2.eval 141 (by omega)).trans (show _ = Value.int .i64 (i : Int) from by simp [upd, e1, e5, e11, e12, e15, e16])]; simp [go_sem, hi]) fun F3 => ?_
                          refine lyp F3 rfl HCC rfl (by omega) (wanted_none rfl) (v := Value.int .i64 yi) (fun wr hwr => by simp only [execOp, (F3.eval 142 (by omega)).trans (show _ = Value.pointer (some ⟨gL, i, none⟩) from by simp [upd, e1, e5, e11, e12, e15, e16])]; simp [go_sem, hwr _, cyi]) fun F4 => ?_
                          refine lyp F4 rfl HCC rfl (by omega) (wanted_none rfl) (v := Value.slice (some ⟨gL, 0, none⟩) m cL) (fun wr hwr => by simp only [execOp, (F4.eval 1 (by omega)).trans (show _ = Value.slice (some ⟨gL, 0, none⟩) m cL from by simp [upd, e1, e5, e11, e12, e15, e16])]; first | rfl | simp [go_sem]) fun F5 => ?_
                          refine lyp F5 rfl HCC rfl (by omega) (wanted_none rfl) (v := Value.int .i64 (j : Int)) (fun wr hwr => by simp only [execOp, (F5.eval 16 (by omega)).trans (show _ = Value.int .i64 (j : Int) from by simp [upd, e1, e5, e11, e12, e15, e16])]; first | rfl | simp [go_sem]) fun F6 => ?_
                          refine lyp F6 rfl HCC rfl (by omega) (wanted_none rfl) (v := Value.pointer (some ⟨gL, j, none⟩)) (fun wr hwr => by simp only [execOp, (F6.eval 144 (by omega)).trans (show _ = Value.slice (some ⟨gL, 0, none⟩) m cL from by simp [upd, e1, e5, e11, e12, e15, e16]), (F6.eval 145 (by omega)).trans (show _ = Value.int .i64 (j : Int) from by simp [upd, e1, e5, e11, e12, e15, e16])]; simp [go_sem, hj]) fun F7 => ?_
                          refine lyp F7 rfl HCC rfl (by omega) (wanted_none rfl) (v := Value.int .i64 yj) (fun wr hwr => by simp only [execOp, (F7.eval 146 (by omega)).trans (show _ = Value.pointer (some ⟨gL, j, none⟩) from by simp [upd, e1, e5, e11, e12, e15, e16])]; simp [go_sem, hwr _, cyj]) fun F8 => ?_
                          refine lyp F8 rfl HCC rfl (by omega) (wanted_none rfl) (v := Value.bool true) (fun wr hwr => by simp only [execOp, (F8.eval 143 (by omega)).trans (show _ = Value.int .i64 yi from by simp [upd, e1, e5, e11, e12, e15, e16]), (F8.eval 147 (by omega)).trans (show _ = Value.int .i64 yj from by simp [upd, e1, e5, e11, e12, e15, e16])]; simp [go_sem, Act.eval, hgt]) fun F9 => ?_
                          refine lyp F9 rfl HCC rfl (by omega) (wanted_none rfl) (v := Value.bool true) (fun wr hwr => by simp only [execOp, (F9.eval 148 (by omega)).trans (show _ = Value.bool true from by simp [upd, e1, e5, e11, e12, e15, e16])]; first | rfl | simp [go_sem]) fun F10 => ?_
                          refine lyp F10 rfl HCC rfl (by omega) (want_yes F10 rfl (e := 149) rfl (by omega) (show _ = Value.bool true from by simp [upd, e1, e5, e11, e12, e15, e16])) (v := Value.slice (some ⟨gP, 0, none⟩) m cP) (fun wr hwr => by simp only [execOp, (F10.eval 5 (by omega)).trans (show _ = Value.slice (some ⟨gP, 0, none⟩) m cP from by simp [upd, e1, e5, e11, e12, e15, e16])]; first | rfl | simp [go_sem]) fun F11 => ?_
                          refine lyp F11 rfl HCC rfl (by omega) (want_yes F11 rfl (e := 149) rfl (by omega) (show _ = Value.bool true from by simp [upd, e1, e5, e11, e12, e15, e16])) (v := Value.int .i64 (i : Int)) (fun wr hwr => by simp only [execOp, (F11.eval 15 (by omega)).trans (show _ = Value.int .i64 (i : Int) from by simp [upd, e1, e5, e11, e12, e15, e16])]; first | rfl | simp [go_sem]) fun F12 => ?_
                          refine lyp F12 rfl HCC rfl (by omega) (want_yes F12 rfl (e := 149) rfl (by omega) (show _ = Value.bool true from by simp [upd, e1, e5, e11, e12, e15, e16])) (v := Value.pointer (some ⟨gP, i, none⟩)) (fun wr hwr => by simp only [execOp, (F12.eval 150 (by omega)).trans (show _ = Value.slice (some ⟨gP, 0, none⟩) m cP from by simp [upd, e1, e5, e11, e12, e15, e16]), (F12.eval 151 (by omega)).trans (show _ = Value.int .i64 (i : Int) from by simp [upd, e1, e5, e11, e12, e15, e16])]; simp [go_sem, hi]) fun F13 => ?_
                          refine lyp F13 rfl HCC rfl (by omega) (want_yes F13 rfl (e := 149) rfl (by omega) (show _ = Value.bool true from by simp [upd, e1, e5, e11, e12, e15, e16])) (v := Value.int .i64 pi) (fun wr hwr => by simp only [execOp, (F13.eval 152 (by omega)).trans (show _ = Value.pointer (some ⟨gP, i, none⟩) from by simp [upd, e1, e5, e11, e12, e15, e16])]; simp [go_sem, hwr _, cpi]) fun F14 => ?_
                          refine lyp F14 rfl HCC rfl (by omega) (want_yes F14 rfl (e := 149) rfl (by omega) (show _ = Value.bool true from by simp [upd, e1, e5, e11, e12, e15, e16])) (v := Value.slice (some ⟨gP, 0, none⟩) m cP) (fun wr hwr => by simp only [execOp, (F14.eval 5 (by omega)).trans (show _ = Value.slice (some ⟨gP, 0, none⟩) m cP from by simp [upd, e1, e5, e11, e12, e15, e16])]; first | rfl | simp [go_sem]) fun F15 => ?_
                          refine lyp F15 rfl HCC rfl (by omega) (want_yes F15 rfl (e := 149) rfl (by omega) (show _ = Value.bool true from by simp [upd, e1, e5, e11, e12, e15, e16])) (v := Value.int .i64 (j : Int)) (fun wr hwr => by simp only [execOp, (F15.eval 16 (by omega)).trans (show _ = Value.int .i64 (j : Int) from by simp [upd, e1, e5, e11, e12, e15, e16])]; first | rfl | simp [go_sem]) fun F16 => ?_
                          refine lyp F16 rfl HCC rfl (by omega) (want_yes F16 rfl (e := 149) rfl (by omega) (show _ = Value.bool true from by simp [upd, e1, e5, e11, e12, e15, e16])) (v := Value.pointer (some ⟨gP, j, none⟩)) (fun wr hwr => by simp only [execOp, (F16.eval 154 (by omega)).trans (show _ = Value.slice (some ⟨gP, 0, none⟩) m cP from by simp [upd, e1, e5, e11, e12, e15, e16]), (F16.eval 155 (by omega)).trans (show _ = Value.int .i64 (j : Int) from by simp [upd, e1, e5, e11, e12, e15, e16])]; simp [go_sem, hj]) fun F17 => ?_
                          refine lyp F17 rfl HCC rfl (by omega) (want_yes F17 rfl (e := 149) rfl (by omega) (show _ = Value.bool true from by simp [upd, e1, e5, e11, e12, e15, e16])) (v := Value.int .i64 pj) (fun wr hwr => by simp only [execOp, (F17.eval 156 (by omega)).trans (show _ = Value.pointer (some ⟨gP, j, none⟩) from by simp [upd, e1, e5, e11, e12, e15, e16])]; simp [go_sem, hwr _, cpj]) fun F18 => ?_
                          refine lyp F18 rfl HCC rfl (by omega) (want_yes F18 rfl (e := 149) rfl (by omega) (show _ = Value.bool true from by simp [upd, e1, e5, e11, e12, e15, e16])) (v := Value.bool false) (fun wr hwr => by simp only [execOp, (F18.eval 153 (by omega)).trans (show _ = Value.int .i64 pi from by simp [upd, e1, e5, e11, e12, e15, e16]), (F18.eval 157 (by omega)).trans (show _ = Value.int .i64 pj from by simp [upd, e1, e5, e11, e12, e15, e16])]; simp [go_sem, Act.eval, hpij]) fun F19 => ?_
                          refine lyp F19 rfl HCC rfl (by omega) (wanted_none rfl) (v := Value.bool false) (fun wr hwr => by simp only [execOp, (F19.eval 149 (by omega)).trans (show _ = Value.bool true from by simp [upd, e1, e5, e11, e12, e15, e16]), (F19.eval 158 (by omega)).trans (show _ = Value.bool false from by simp [upd, e1, e5, e11, e12, e15, e16])]; simp [go_sem, Act.eval]) fun F20 => ?_
                          refine lyp F20 rfl HCC rfl (by omega) (wanted_none rfl) (v := Value.bool false) (fun wr hwr => by simp only [execOp, (F20.eval 159 (by omega)).trans (show _ = Value.bool false from by simp [upd, e1, e5, e11, e12, e15, e16])]; first | rfl | simp [go_sem]) fun F21 => ?_
                          refine lyp F21 rfl HCC rfl (by omega) (want_yes F21 rfl (e := 160) rfl (by omega) (show _ = Value.bool false from by simp [upd, e1, e5, e11, e12, e15, e16])) (v := Value.int .i64 (i : Int)) (fun wr hwr => by simp only [execOp, (F21.eval 15 (by omega)).trans (show _ = Value.int .i64 (i : Int) from by simp [upd, e1, e5, e11, e12, e15, e16])]; first | rfl | simp [go_sem]) fun F22 => ?_
                          refine lyp F22 rfl HCC rfl (by omega) (want_yes F22 rfl (e := 160) rfl (by omega) (show _ = Value.bool false from by simp [upd, e1, e5, e11, e12, e15, e16])) (v := Value.pointer (some ⟨gm, i, none⟩)) (fun wr hwr => by simp only [execOp, (F22.eval 11 (by omega)).trans (show _ = Value.pointer (some ⟨gm, 0, none⟩) from by simp [upd, e1, e5, e11, e12, e15, e16]), (F22.eval 161 (by omega)).trans (show _ = Value.int .i64 (i : Int) from by simp [upd, e1, e5, e11, e12, e15, e16])]; simp [go_sem, hi16n]) fun F23 => ?_
                          refine lyp F23 rfl HCC rfl (by omega) (want_yes F23 rfl (e := 160) rfl (by omega) (show _ = Value.bool false from by simp [upd, e1, e5, e11, e12, e15, e16])) (v := Value.int .i64 mi) (fun wr hwr => by simp only [execOp, (F23.eval 162 (by omega)).trans (show _ = Value.pointer (some ⟨gm, i, none⟩) from by simp [upd, e1, e5, e11, e12, e15, e16])]; simp [go_sem, hwr _, cmi]) fun F24 => ?_
                          refine lyp F24 rfl HCC rfl (by omega) (want_yes F24 rfl (e := 160) rfl (by omega) (show _ = Value.bool false from by simp [upd, e1, e5, e11, e12, e15, e16])) (v := Value.bool true) (fun wr hwr => by simp only [execOp, (F24.eval 163 (by omega)).trans (show _ = Value.int .i64 mi from by simp [upd, e1, e5, e11, e12, e15, e16])]; simp [go_sem, Act.eval, hmi]) fun F25 => ?_
                          refine lyp F25 rfl HCC rfl (by omega) (want_yes F25 rfl (e := 160) rfl (by omega) (show _ = Value.bool false from by simp [upd, e1, e5, e11, e12, e15, e16])) (v := Value.bool true) (fun wr hwr => by simp only [execOp, (F25.eval 164 (by omega)).trans (show _ = Value.bool true from by simp [upd, e1, e5, e11, e12, e15, e16])]; first | rfl | simp [go_sem]) fun F26 => ?_
                          refine lyp F26 rfl HCC rfl (by omega) (want_yes F26 rfl (e := 165) rfl (by omega) (show _ = Value.bool true from by simp [upd, e1, e5, e11, e12, e15, e16])) (v := Value.int .i64 (j : Int)) (fun wr hwr => by simp only [execOp, (F26.eval 16 (by omega)).trans (show _ = Value.int .i64 (j : Int) from by simp [upd, e1, e5, e11, e12, e15, e16])]; first | rfl | simp [go_sem]) fun F27 => ?_
                          refine lyp F27 rfl HCC rfl (by omega) (want_yes F27 rfl (e := 165) rfl (by omega) (show _ = Value.bool true from by simp [upd, e1, e5, e11, e12, e15, e16])) (v := Value.pointer (some ⟨gm, j, none⟩)) (fun wr hwr => by simp only [execOp, (F27.eval 11 (by omega)).trans (show _ = Value.pointer (some ⟨gm, 0, none⟩) from by simp [upd, e1, e5, e11, e12, e15, e16]), (F27.eval 166 (by omega)).trans (show _ = Value.int .i64 (j : Int) from by simp [upd, e1, e5, e11, e12, e15, e16])]; simp [go_sem, hj16n]) fun F28 => ?_
                          refine lyp F28 rfl HCC rfl (by omega) (want_yes F28 rfl (e := 165) rfl (by omega) (show _ = Value.bool true from by simp [upd, e1, e5, e11, e12, e15, e16])) (v := Value.int .i64 mj) (fun wr hwr => by simp only [execOp, (F28.eval 167 (by omega)).trans (show _ = Value.pointer (some ⟨gm, j, none⟩) from by simp [upd, e1, e5, e11, e12, e15, e16])]; simp [go_sem, hwr _, cmj]) fun F29 => ?_
                          refine lyp F29 rfl HCC rfl (by omega) (want_yes F29 rfl (e := 165) rfl (by omega) (show _ = Value.bool true from by simp [upd, e1, e5, e11, e12, e15, e16])) (v := Value.bool false) (fun wr hwr => by simp only [execOp, (F29.eval 168 (by omega)).trans (show _ = Value.int .i64 mj from by simp [upd, e1, e5, e11, e12, e15, e16])]; simp [go_sem, Act.eval, hmj]) fun F30 => ?_
                          refine lyp F30 rfl HCC rfl (by omega) (want_yes F30 rfl (e := 160) rfl (by omega) (show _ = Value.bool false from by simp [upd, e1, e5, e11, e12, e15, e16])) (v := Value.bool false) (fun wr hwr => by simp only [execOp, (F30.eval 165 (by omega)).trans (show _ = Value.bool true from by simp [upd, e1, e5, e11, e12, e15, e16]), (F30.eval 169 (by omega)).trans (show _ = Value.bool false from by simp [upd, e1, e5, e11, e12, e15, e16])]; simp [go_sem, Act.eval]) fun F31 => ?_
                          refine lyp F31 rfl HCC rfl (by omega) (want_yes F31 rfl (e := 160) rfl (by omega) (show _ = Value.bool false from by simp [upd, e1, e5, e11, e12, e15, e16])) (v := Value.bool false) (fun wr hwr => by simp only [execOp, (F31.eval 170 (by omega)).trans (show _ = Value.bool false from by simp [upd, e1, e5, e11, e12, e15, e16])]; first | rfl | simp [go_sem]) fun F32 => ?_
                          refine lnp F32 rfl HCC rfl (by omega) (want_no F32 rfl (e := 171) rfl (by omega) (show _ = Value.bool false from by simp [upd, e1, e5, e11, e12, e15, e16]) (by decide)) fun F33 => ?_
                          refine lnp F33 rfl HCC rfl (by omega) (want_no F33 rfl (e := 171) rfl (by omega) (show _ = Value.bool false from by simp [upd, e1, e5, e11, e12, e15, e16]) (by decide)) fun F34 => ?_
                          refine lnp F34 rfl HCC rfl (by omega) (want_no F34 rfl (e := 171) rfl (by omega) (show _ = Value.bool false from by simp [upd, e1, e5, e11, e12, e15, e16]) (by decide)) fun F35 => ?_
                          refine lnp F35 rfl HCC rfl (by omega) (want_no F35 rfl (e := 171) rfl (by omega) (show _ = Value.bool false from by simp [upd, e1, e5, e11, e12, e15, e16]) (by decide)) fun F36 => ?_
                          refine lnp F36 rfl HCC rfl (by omega) (want_no F36 rfl (e := 171) rfl (by omega) (show _ = Value.bool false from by simp [upd, e1, e5, e11, e12, e15, e16]) (by decide)) fun F37 => ?_
                          refine lnp F37 rfl HCC rfl (by omega) (want_no F37 rfl (e := 171) rfl (by omega) (show _ = Value.bool false from by simp [upd, e1, e5, e11, e12, e15, e16]) (by decide)) fun F38 => ?_
                          refine lnp F38 rfl HCC rfl (by omega) (want_no F38 rfl (e := 171) rfl (by omega) (show _ = Value.bool false from by simp [upd, e1, e5, e11, e12, e15, e16]) (by decide)) fun F39 => ?_
                          refine lnp F39 rfl HCC rfl (by omega) (want_no F39 rfl (e := 171) rfl (by omega) (show _ = Value.bool false from by simp [upd, e1, e5, e11, e12, e15, e16]) (by decide)) fun F40 => ?_
                          refine lnp F40 rfl HCC rfl (by omega) (want_not F40 rfl (e := 179) rfl (by omega) (show _ = undef from by simp [upd, e1, e5, e11, e12, e15, e16])) fun F41 => ?_
                          refine lnp F41 rfl HCC rfl (by omega) (want_not F41 rfl (e := 179) rfl (by omega) (show _ = undef from by simp [upd, e1, e5, e11, e12, e15, e16])) fun F42 => ?_
                          refine lnp F42 rfl HCC rfl (by omega) (want_not F42 rfl (e := 179) rfl (by omega) (show _ = undef from by simp [upd, e1, e5, e11, e12, e15, e16])) fun F43 => ?_
                          refine lnp F43 rfl HCC rfl (by omega) (want_not F43 rfl (e := 179) rfl (by omega) (show _ = undef from by simp [upd, e1, e5, e11, e12, e15, e16])) fun F44 => ?_
                          refine lnp F44 rfl HCC rfl (by omega) (want_not F44 rfl (e := 179) rfl (by omega) (show _ = undef from by simp [upd, e1, e5, e11, e12, e15, e16])) fun F45 => ?_
                          refine lnp F45 rfl HCC rfl (by omega) (want_not F45 rfl (e := 179) rfl (by omega) (show _ = undef from by simp [upd, e1, e5, e11, e12, e15, e16])) fun F46 => ?_
                          refine lnp F46 rfl HCC rfl (by omega) (want_not F46 rfl (e := 179) rfl (by omega) (show _ = undef from by simp [upd, e1, e5, e11, e12, e15, e16])) fun F47 => ?_
                          refine lnp F47 rfl HCC rfl (by omega) (want_not F47 rfl (e := 179) rfl (by omega) (show _ = undef from by simp [upd, e1, e5, e11, e12, e15, e16])) fun F48 => ?_
                          refine lnp F48 rfl HCC rfl (by omega) (want_not F48 rfl (e := 187) rfl (by omega) (show _ = undef from by simp [upd, e1, e5, e11, e12, e15, e16])) fun F49 => ?_
                          refine lnp F49 rfl HCC rfl (by omega) (want_not F49 rfl (e := 187) rfl (by omega) (show _ = undef from by simp [upd, e1, e5, e11, e12, e15, e16])) fun F50 => ?_
                          refine lnp F50 rfl HCC rfl (by omega) (want_not F50 rfl (e := 187) rfl (by omega) (show _ = undef from by simp [upd, e1, e5, e11, e12, e15, e16])) fun F51 => ?_
                          refine lnp F51 rfl HCC rfl (by omega) (want_not F51 rfl (e := 179) rfl (by omega) (show _ = undef from by simp [upd, e1, e5, e11, e12, e15, e16])) fun F52 => ?_
                          refine lnp F52 rfl HCC rfl (by omega) (want_no F52 rfl (e := 171) rfl (by omega) (show _ = Value.bool false from by simp [upd, e1, e5, e11, e12, e15, e16]) (by decide)) fun F53 => ?_
                          refine lyp F53 rfl HCC rfl (by omega) (want_yes F53 rfl (e := 160) rfl (by omega) (show _ = Value.bool false from by simp [upd, e1, e5, e11, e12, e15, e16])) (v := Value.bool false) (fun wr hwr => by simp only [execOp, (F53.eval 171 (by omega)).trans (show _ = Value.bool false from by simp [upd, e1, e5, e11, e12, e15, e16])]; simp [go_sem, Act.eval]) fun F54 => ?_
                          refine lyp F54 rfl HCC rfl (by omega) (wanted_none rfl) (v := Value.bool false) (fun wr hwr => by simp only [execOp, (F54.eval 160 (by omega)).trans (show _ = Value.bool false from by simp [upd, e1, e5, e11, e12, e15, e16]), (F54.eval 193 (by omega)).trans (show _ = Value.bool false from by simp [upd, e1, e5, e11, e12, e15, e16])]; simp [go_sem, Act.eval]) fun F55 => ?_
                          refine ⟨fun _ => HCC, ?_⟩
                          refine hK _ _ ?_
                          clear F0 F1 F2 F3 F4 F5 F6 F7 F8 F9 F10 F11 F12 F13 F14 F15 F16 F17 F18 F19 F20 F21 F22 F23 F24 F25 F26 F27 F28 F29 F30 F31 F32 F33 F34 F35 F36 F37 F38 F39 F40 F41 F42 F43 F44 F45 F46 F47 F48 F49 F50 F51 F52 F53 F54 F55 e1 e5 e11 e12 e15 e16 HCC
                          simp only [Act.put, List.setIfInBounds_toArray, List.set_cons_succ, List.set_cons_zero]
                          generalize hY : (({ wr with drawn := wr.drawn + 1 } : World)) = Y
                          have hY2 : Y = X0.drewN (q + 1) := by rw [← hY, HWQ.out]; rfl
                          have HY : Hid _ := hY2
                          clear hY hY2 HWQ cyi cyj cpi cpj cmi cmj cri crj
                          go_wp2
                          go_roundw
                          case rel => exact ⟨j + 1, q + 1, by omega, by go_num, HY.out⟩
                          case measure => simp [intOf]; omega
                      · go_wp2_with fail
                        rename_i K hK
                        try rw [show ∀ a : Act, a.put none undef = a from fun _ => rfl]
                        refine wp_region_mix (fun wq => ∀ p : Addr, wq.cell? p = wr.cell? p) (fun i => i == 99) 99 (by kernel_rfl) rfl (by kernel_rfl) (by kernel_rfl) (by kernel_rfl) ?_
                        refine withFrP (N := 198) rfl ?_
                        intro f0 F0 hff
                        have e1 : f0 1 = Value.slice (some ⟨gL, 0, none⟩) m cL := hff 1
                        have e5 : f0 5 = Value.slice (some ⟨gP, 0, none⟩) m cP := hff 5
                        have e11 : f0 11 = Value.pointer (some ⟨gm, 0, none⟩) := hff 11
                        have e12 : f0 12 = Value.pointer (some ⟨gr, 0, none⟩) := hff 12
                        have e15 : f0 15 = Value.int .i64 (i : Int) := hff 15
                        have e16 : f0 16 = Value.int .i64 (j : Int) := hff 16
                        clear hff
                        have HCC : ∀ p : Addr, (({ wr with drawn := wr.drawn + 1 } : World)).cell? p = wr.cell? p := fun _ => rfl
                        refine lyp F0 rfl HCC rfl (by omega) (wanted_none rfl) (v := Value.slice (some ⟨gL, 0, none⟩) m cL) (fun wr hwr => by simp only [execOp, (F0.eval 1 (by omega)).trans (show _ = Value.slice (some ⟨gL, 0, none⟩) m cL from by simp [upd, e1, e5, e11, e12, e15, e16])]; first | rfl | simp [go_sem]) fun F1 => ?_
                        refine lyp F1 rfl HCC rfl (by omega) (wanted_none rfl) (v := Value.int .i64 (i : Int)) (fun wr hwr => by simp only [execOp, (F1.eval 15 (by omega)).trans (show _ = Value.int .i64 (i : Int) from by simp [upd, e1, e5, e11, e12, e15, e16])]; first | rfl | simp [go_sem]) fun F2 => ?_
                        refine lyp F2 rfl HCC rfl (by omega) (wanted_none rfl) (v := Value.pointer (some ⟨gL, i, none⟩)) (fun wr hwr => by simp only [execOp, (F2.eval 140 (by omega)).trans (show _ = Value.slice (some ⟨gL, 0, none⟩) m cL from by simp [upd, e1, e5, e11, e12, e15, e16]), (F2.eval 141 (by omega)).trans (show _ = Value.int .i64 (i : Int) from by simp [upd, e1, e5, e11, e12, e15, e16])]; simp [go_sem, hi]) fun F3 => ?_
                        refine lyp F3 rfl HCC rfl (by omega) (wanted_none rfl) (v := Value.int .i64 yi) (fun wr hwr => by simp only [execOp, (F3.eval 142 (by omega)).trans (show _ = Value.pointer (some ⟨gL, i, none⟩) from by simp [upd, e1, e5, e11, e12, e15, e16])]; simp [go_sem, hwr _, cyi]) fun F4 => ?_
                        refine lyp F4 rfl HCC rfl (by omega) (wanted_none rfl) (v := Value.slice (some ⟨gL, 0, none⟩) m cL) (fun wr hwr => by simp only [execOp, (F4.eval 1 (by omega)).trans (show _ = Value.slice (some ⟨gL, 0, none⟩) m cL from by simp [upd, e1, e5, e11, e12, e15, e16])]; first | rfl | simp [go_sem]) fun F5 => ?_
                        refine lyp F5 rfl HCC rfl (by omega) (wanted_none rfl) (v := Value.int .i64 (j : Int)) (fun wr hwr => by simp only [execOp, (F5.eval 16 (by omega)).trans (show _ = Value.int .i64 (j : Int) from by simp [upd, e1, e5, e11, e12, e15, e16])]; first | rfl | simp [go_sem]) fun F6 => ?_
                        refine lyp F6 rfl HCC rfl (by omega) (wanted_none rfl) (v := Value.pointer (some ⟨gL, j, none⟩)) (fun wr hwr => by simp only [execOp, (F6.eval 144 (by omega)).trans (show _ = Value.slice (some ⟨gL, 0, none⟩) m cL from by simp [upd, e1, e5, e11, e12, e15, e16]), (F6.eval 145 (by omega)).trans (show _ = Value.int .i64 (j : Int) from by simp [upd, e1, e5, e11, e12, e15, e16])]; simp [go_sem, hj]) fun F7 => ?_
                        refine lyp F7 rfl HCC rfl (by omega) (wanted_none rfl) (v := Value.int .i64 yj) (fun wr hwr => by simp only [execOp, (F7.eval 146 (by omega)).trans (show _ = Value.pointer (some ⟨gL, j, none⟩) from by simp [upd, e1, e5, e11, e12, e15, e16])]; simp [go_sem, hwr _, cyj]) fun F8 => ?_
                        refine lyp F8 rfl HCC rfl (by omega) (wanted_none rfl) (v := Value.bool true) (fun wr hwr => by simp only [execOp, (F8.eval 143 (by omega)).trans (show _ = Value.int .i64 yi from by simp [upd, e1, e5, e11, e12, e15, e16]), (F8.eval 147 (by omega)).trans (show _ = Value.int .i64 yj from by simp [upd, e1, e5, e11, e12, e15, e16])]; simp [go_sem, Act.eval, hgt]) fun F9 => ?_
                        refine lyp F9 rfl HCC rfl (by omega) (wanted_none rfl) (v := Value.bool true) (fun wr hwr => by simp only [execOp, (F9.eval 148 (by omega)).trans (show _ = Value.bool true from by simp [upd, e1, e5, e11, e12, e15, e16])]; first | rfl | simp [go_sem]) fun F10 => ?_
                        refine lyp F10 rfl HCC rfl (by omega) (want_yes F10 rfl (e := 149) rfl (by omega) (show _ = Value.bool true from by simp [upd, e1, e5, e11, e12, e15, e16])) (v := Value.slice (some ⟨gP, 0, none⟩) m cP) (fun wr hwr => by simp only [execOp, (F10.eval 5 (by omega)).trans (show _ = Value.slice (some ⟨gP, 0, none⟩) m cP from by simp [upd, e1, e5, e11, e12, e15, e16])]; first | rfl | simp [go_sem]) fun F11 => ?_
                        refine lyp F11 rfl HCC rfl (by omega) (want_yes F11 rfl (e := 149) rfl (by omega) (show _ = Value.bool true from by simp [upd, e1, e5, e11, e12, e15, e16])) (v := Value.int .i64 (i : Int)) (fun wr hwr => by simp only [execOp, (F11.eval 15 (by omega)).trans (show _ = Value.int .i64 (i : Int) from by simp [upd, e1, e5, e11, e12, e15, e16])]; first | rfl | simp [go_sem]) fun F12 => ?_
                        refine lyp F12 rfl HCC rfl (by omega) (want_yes F12 rfl (e := 149) rfl (by omega) (show _ = Value.bool true from by simp [upd, e1, e5, e11, e12, e15, e16])) (v := Value.pointer (some ⟨gP, i, none⟩)) (fun wr hwr => by simp only [execOp, (F12.eval 150 (by omega)).trans (show _ = Value.slice (some ⟨gP, 0, none⟩) m cP from by simp [upd, e1, e5, e11, e12, e15, e16]), (F12.eval 151 (by omega)).trans (show _ = Value.int .i64 (i : Int) from by simp [upd, e1, e5, e11, e12, e15, e16])]; simp [go_sem, hi]) fun F13 => ?_
                        refine lyp F13 rfl HCC rfl (by omega) (want_yes F13 rfl (e := 149) rfl (by omega) (show _ = Value.bool true from by simp [upd, e1, e5, e11, e12, e15, e16])) (v := Value.int .i64 pi) (fun wr hwr => by simp only [execOp, (F13.eval 152 (by omega)).trans (show _ = Value.pointer (some ⟨gP, i, none⟩) from by simp [upd, e1, e5, e11, e12, e15, e16])]; simp [go_sem, hwr _, cpi]) fun F14 => ?_
                        refine lyp F14 rfl HCC rfl (by omega) (want_yes F14 rfl (e := 149) rfl (by omega) (show _ = Value.bool true from by simp [upd, e1, e5, e11, e12, e15, e16])) (v := Value.slice (some ⟨gP, 0, none⟩) m cP) (fun wr hwr => by simp only [execOp, (F14.eval 5 (by omega)).trans (show _ = Value.slice (some ⟨gP, 0, none⟩) m cP from by simp [upd, e1, e5, e11, e12, e15, e16])]; first | rfl | simp [go_sem]) fun F15 => ?_
                        refine lyp F15 rfl HCC rfl (by omega) (want_yes F15 rfl (e := 149) rfl (by omega) (show _ = Value.bool true from by simp [upd, e1, e5, e11, e12, e15, e16])) (v := Value.int .i64 (j : Int)) (fun wr hwr => by simp only [execOp, (F15.eval 16 (by omega)).trans (show _ = Value.int .i64 (j : Int) from by simp [upd, e1, e5, e11, e12, e15, e16])]; first | rfl | simp [go_sem]) fun F16 => ?_
                        refine lyp F16 rfl HCC rfl (by omega) (want_yes F16 rfl (e := 149) rfl (by omega) (show _ = Value.bool true from by simp [upd, e1, e5, e11, e12, e15, e16])) (v := Value.pointer (some ⟨gP, j, none⟩)) (fun wr hwr => by simp only [execOp, (F16.eval 154 (by omega)).trans (show _ = Value.slice (some ⟨gP, 0, none⟩) m cP from by simp [upd, e1, e5, e11, e12, e15, e16]), (F16.eval 155 (by omega)).trans (show _ = Value.int .i64 (j : Int) from by simp [upd, e1, e5, e11, e12, e15, e16])]; simp [go_sem, hj]) fun F17 => ?_
                        refine lyp F17 rfl HCC rfl (by omega) (want_yes F17 rfl (e := 149) rfl (by omega) (show _ = Value.bool true from by simp [upd, e1, e5, e11, e12, e15, e16])) (v := Value.int .i64 pj) (fun wr hwr => by simp only [execOp, (F17.eval 156 (by omega)).trans (show _ = Value.pointer (some ⟨gP, j, none⟩) from by simp [upd, e1, e5, e11, e12, e15, e16])]; simp [go_sem, hwr _, cpj]) fun F18 => ?_
                        refine lyp F18 rfl HCC rfl (by omega) (want_yes F18 rfl (e := 149) rfl (by omega) (show _ = Value.bool true from by simp [upd, e1, e5, e11, e12, e15, e16])) (v := Value.bool false) (fun wr hwr => by simp only [execOp, (F18.eval 153 (by omega)).trans (show _ = Value.int .i64 pi from by simp [upd, e1, e5, e11, e12, e15, e16]), (F18.eval 157 (by omega)).trans (show _ = Value.int .i64 pj from by simp [upd, e1, e5, e11, e12, e15, e16])]; simp [go_sem, Act.eval, hpij]) fun F19 => ?_
                        refine lyp F19 rfl HCC rfl (by omega) (wanted_none rfl) (v := Value.bool false) (fun wr hwr => by simp only [execOp, (F19.eval 149 (by omega)).trans (show _ = Value.bool true from by simp [upd, e1, e5, e11, e12, e15, e16]), (F19.eval 158 (by omega)).trans (show _ = Value.bool false from by simp [upd, e1, e5, e11, e12, e15, e16])]; simp [go_sem, Act.eval]) fun F20 => ?_
                        refine lyp F20 rfl HCC rfl (by omega) (wanted_none rfl) (v := Value.bool false) (fun wr hwr => by simp only [execOp, (F20.eval 159 (by omega)).trans (show _ = Value.bool false from by simp [upd, e1, e5, e11, e12, e15, e16])]; first | rfl | simp [go_sem]) fun F21 => ?_
                        refine lyp F21 rfl HCC rfl (by omega) (want_yes F21 rfl (e := 160) rfl (by omega) (show _ = Value.bool false from by simp [upd, e1, e5, e11, e12, e15, e16])) (v := Value.int .i64 (i : Int)) (fun wr hwr => by simp only [execOp, (F21.eval 15 (by omega)).trans (show _ = Value.int .i64 (i : Int) from by simp [upd, e1, e5, e11, e12, e15, e16])]; first | rfl | simp [go_sem]) fun F22 => ?_
                        refine lyp F22 rfl HCC rfl (by omega) (want_yes F22 rfl (e := 160) rfl (by omega) (show _ = Value.bool false from by simp [upd, e1, e5, e11, e12, e15, e16])) (v := Value.pointer (some ⟨gm, i, none⟩)) (fun wr hwr => by simp only [execOp, (F22.eval 11 (by omega)).trans (show _ = Value.pointer (some ⟨gm, 0, none⟩) from by simp [upd, e1, e5, e11, e12, e15, e16]), (F22.eval 161 (by omega)).trans (show _ = Value.int .i64 (i : Int) from by simp [upd, e1, e5, e11, e12, e15, e16])]; simp [go_sem, hi16n]) fun F23 => ?_
                        refine lyp F23 rfl HCC rfl (by omega) (want_yes F23 rfl (e := 160) rfl (by omega) (show _ = Value.bool false from by simp [upd, e1, e5, e11, e12, e15, e16])) (v := Value.int .i64 mi) (fun wr hwr => by simp only [execOp, (F23.eval 162 (by omega)).trans (show _ = Value.pointer (some ⟨gm, i, none⟩) from by simp [upd, e1, e5, e11, e12, e15, e16])]; simp [go_sem, hwr _, cmi]) fun F24 => ?_
                        refine lyp F24 rfl HCC rfl (by omega) (want_yes F24 rfl (e := 160) rfl (by omega) (show _ = Value.bool false from by simp [upd, e1, e5, e11, e12, e15, e16])) (v := Value.bool false) (fun wr hwr => by simp only [execOp, (F24.eval 163 (by omega)).trans (show _ = Value.int .i64 mi from by simp [upd, e1, e5, e11, e12, e15, e16])]; simp [go_sem, Act.eval, hmi]) fun F25 => ?_
                        refine lyp F25 rfl HCC rfl (by omega) (want_yes F25 rfl (e := 160) rfl (by omega) (show _ = Value.bool false from by simp [upd, e1, e5, e11, e12, e15, e16])) (v := Value.bool false) (fun wr hwr => by simp only [execOp, (F25.eval 164 (by omega)).trans (show _ = Value.bool false from by simp [upd, e1, e5, e11, e12, e15, e16])]; first | rfl | simp [go_sem]) fun F26 => ?_
                        refine lnp F26 rfl HCC rfl (by omega) (want_no F26 rfl (e := 165) rfl (by omega) (show _ = Value.bool false from by simp [upd, e1, e5, e11, e12, e15, e16]) (by decide)) fun F27 => ?_
                        refine lnp F27 rfl HCC rfl (by omega) (want_no F27 rfl (e := 165) rfl (by omega) (show _ = Value.bool false from by simp [upd, e1, e5, e11, e12, e15, e16]) (by decide)) fun F28 => ?_
                        refine lnp F28 rfl HCC rfl (by omega) (want_no F28 rfl (e := 165) rfl (by omega) (show _ = Value.bool false from by simp [upd, e1, e5, e11, e12, e15, e16]) (by decide)) fun F29 => ?_
                        refine lnp F29 rfl HCC rfl (by omega) (want_no F29 rfl (e := 165) rfl (by omega) (show _ = Value.bool false from by simp [upd, e1, e5, e11, e12, e15, e16]) (by decide)) fun F30 => ?_
                        refine lyp F30 rfl HCC rfl (by omega) (want_yes F30 rfl (e := 160) rfl (by omega) (show _ = Value.bool false from by simp [upd, e1, e5, e11, e12, e15, e16])) (v := Value.bool false) (fun wr hwr => by simp only [execOp, (F30.eval 165 (by omega)).trans (show _ = Value.bool false from by simp [upd, e1, e5, e11, e12, e15, e16])]; simp [go_sem, Act.eval]) fun F31 => ?_
                        refine lyp F31 rfl HCC rfl (by omega) (want_yes F31 rfl (e := 160) rfl (by omega) (show _ = Value.bool false from by simp [upd, e1, e5, e11, e12, e15, e16])) (v := Value.bool false) (fun wr hwr => by simp only [execOp, (F31.eval 170 (by omega)).trans (show _ = Value.bool false from by simp [upd, e1, e5, e11, e12, e15, e16])]; first | rfl | simp [go_sem]) fun F32 => ?_
                        refine lnp F32 rfl HCC rfl (by omega) (want_no F32 rfl (e := 171) rfl (by omega) (show _ = Value.bool false from by simp [upd, e1, e5, e11, e12, e15, e16]) (by decide)) fun F33 => ?_
                        refine lnp F33 rfl HCC rfl (by omega) (want_no F33 rfl (e := 171) rfl (by omega) (show _ = Value.bool false from by simp [upd, e1, e5, e11, e12, e15, e16]) (by decide)) fun F34 => ?_
                        refine lnp F34 rfl HCC rfl (by omega) (want_no F34 rfl (e := 171) rfl (by omega) (show _ = Value.bool false from by simp [upd, e1, e5, e11, e12, e15, e16]) (by decide)) fun F35 => ?_
                        refine lnp F35 rfl HCC rfl (by omega) (want_no F35 rfl (e := 171) rfl (by omega) (show _ = Value.bool false from by simp [upd, e1, e5, e11, e12, e15, e16]) (by decide)) fun F36 => ?_
                        refine lnp F36 rfl HCC rfl (by omega) (want_no F36 rfl (e := 171) rfl (by omega) (show _ = Value.bool false from by simp [upd, e1, e5, e11, e12, e15, e16]) (by decide)) fun F37 => ?_
                        refine lnp F37 rfl HCC rfl (by omega) (want_no F37 rfl (e := 171) rfl (by omega) (show _ = Value.bool false from by simp [upd, e1, e5, e11, e12, e15, e16]) (by decide)) fun F38 => ?_
                        refine lnp F38 rfl HCC rfl (by omega) (want_no F38 rfl (e := 171) rfl (by omega) (show _ = Value.bool false from by simp [upd, e1, e5, e11, e12, e15, e16]) (by decide)) fun F39 => ?_
                        refine lnp F39 rfl HCC rfl (by omega) (want_no F39 rfl (e := 171) rfl (by omega) (show _ = Value.bool false from by simp [upd, e1, e5, e11, e12, e15, e16]) (by decide)) fun F40 => ?_
                        refine lnp F40 rfl HCC rfl (by omega) (want_not F40 rfl (e := 179) rfl (by omega) (show _ = undef from by simp [upd, e1, e5, e11, e12, e15, e16])) fun F41 => ?_
                        refine lnp F41 rfl HCC rfl (by omega) (want_not F41 rfl (e := 179) rfl (by omega) (show _ = undef from by simp [upd, e1, e5, e11, e12, e15, e16])) fun F42 => ?_
                        refine lnp F42 rfl HCC rfl (by omega) (want_not F42 rfl (e := 179) rfl (by omega) (show _ = undef from by simp [upd, e1, e5, e11, e12, e15, e16])) fun F43 => ?_
                        refine lnp F43 rfl HCC rfl (by omega) (want_not F43 rfl (e := 179) rfl (by omega) (show _ = undef from by simp [upd, e1, e5, e11, e12, e15, e16])) fun F44 => ?_
                        refine lnp F44 rfl HCC rfl (by omega) (want_not F44 rfl (e := 179) rfl (by omega) (show _ = undef from by simp [upd, e1, e5, e11, e12, e15, e16])) fun F45 => ?_
                        refine lnp F45 rfl HCC rfl (by omega) (want_not F45 rfl (e := 179) rfl (by omega) (show _ = undef from by simp [upd, e1, e5, e11, e12, e15, e16])) fun F46 => ?_
                        refine lnp F46 rfl HCC rfl (by omega) (want_not F46 rfl (e := 179) rfl (by omega) (show _ = undef from by simp [upd, e1, e5, e11, e12, e15, e16])) fun F47 => ?_
                        refine lnp F47 rfl HCC rfl (by omega) (want_not F47 rfl (e := 179) rfl (by omega) (show _ = undef from by simp [upd, e1, e5, e11, e12, e15, e16])) fun F48 => ?_
                        refine lnp F48 rfl HCC rfl (by omega) (want_not F48 rfl (e := 187) rfl (by omega) (show _ = undef from by simp [upd, e1, e5, e11, e12, e15, e16])) fun F49 => ?_
                        refine lnp F49 rfl HCC rfl (by omega) (want_not F49 rfl (e := 187) rfl (by omega) (show _ = undef from by simp [upd, e1, e5, e11, e12, e15, e16])) fun F50 => ?_
                        refine lnp F50 rfl HCC rfl (by omega) (want_not F50 rfl (e := 187) rfl (by omega) (show _ = undef from by simp [upd, e1, e5, e11, e12, e15, e16])) fun F51 => ?_
                        refine lnp F51 rfl HCC rfl (by omega) (want_not F51 rfl (e := 179) rfl (by omega) (show _ = undef from by simp [upd, e1, e5, e11, e12, e15, e16])) fun F52 => ?_
                        refine lnp F52 rfl HCC rfl (by omega) (want_no F52 rfl (e := 171) rfl (by omega) (show _ = Value.bool false from by simp [upd, e1, e5, e11, e12, e15, e16]) (by decide)) fun F53 => ?_
                        refine lyp F53 rfl HCC rfl (by omega) (want_yes F53 rfl (e := 160) rfl (by omega) (show _ = Value.bool false from by simp [upd, e1, e5, e11, e12, e15, e16])) (v := Value.bool false) (fun wr hwr => by simp only [execOp, (F53.eval 171 (by omega)).trans (show _ = Value.bool false from by simp [upd, e1, e5, e11, e12, e15, e16])]; simp [go_sem, Act.eval]) fun F54 => ?_
                        refine lyp F54 rfl HCC rfl (by omega) (wanted_none rfl) (v := Value.bool false) (fun wr hwr => by simp only [execOp, (F54.eval 160 (by omega)).trans (show _ = Value.bool false from by simp [upd, e1, e5, e11, e12, e15, e16]), (F54.eval 193 (by omega)).trans (show _ = Value.bool false from by simp [upd, e1, e5, e11, e12, e15, e16])]; simp [go_sem, Act.eval]) fun F55 => ?_
                        refine ⟨fun _ => HCC, ?_⟩
                        refine hK _ _ ?_
                        clear F0 F1 F2 F3 F4 F5 F6 F7 F8 F9 F10 F11 F12 F13 F14 F15 F16 F17 F18 F19 F20 F21 F22 F23 F24 F25 F26 F27 F28 F29 F30 F31 F32 F33 F34 F35 F36 F37 F38 F39 F40 F41 F42 F43 F44 F45 F46 F47 F48 F49 F50 F51 F52 F53 F54 F55 e1 e5 e11 e12 e15 e16 HCC
                        simp only [Act.put, List.setIfInBounds_toArray, List.set_cons_succ, List.set_cons_zero]
                        generalize hY : (({ wr with drawn := wr.drawn + 1 } : World)) = Y
                        have hY2 : Y = X0.drewN (q + 1) := by rw [← hY, HWQ.out]; rfl
                        have HY : Hid _ := hY2
                        clear hY hY2 HWQ cyi cyj cpi cpj cmi cmj cri crj
                        go_wp2
                        go_roundw
                        case rel => exact ⟨j + 1, q + 1, by omega, by go_num, HY.out⟩
                        case measure => simp [intOf]; omega
                    · clear hmn
                      by_cases hmi : mi = 1
                      · by_cases hmj : mj = 0
                        · obtain ⟨hrl, hri⟩ := HBE.out hmi hmj
                          by_cases hre : ri = rj
                          · have hij := hri hre
                            go_wp2_with fail
                            rename_i K hK
                            try rw [show ∀ a : Act, a.put none undef = a from fun _ => rfl]
                            refine wp_region_mix (fun wq => ∀ p : Addr, wq.cell? p = wr.cell? p) (fun i => i == 99) 99 (by kernel_rfl) rfl (by kernel_rfl) (by kernel_rfl) (by kernel_rfl) ?_
                            refine withFrP (N := 198) rfl ?_
                            intro f0 F0 hff
                            have e1 : f0 1 = Value.slice (some ⟨gL, 0, none⟩) m cL := hff 1
                            have e5 : f0 5 = Value.slice (some ⟨gP, 0, none⟩) m cP := hff 5
                            have e11 : f0 11 = Value.pointer (some ⟨gm, 0, none⟩) := hff 11
                            have e12 : f0 12 = Value.pointer (some ⟨gr, 0, none⟩) := hff 12
                            have e15 : f0 15 = Value.int .i64 (i : Int) := hff 15
                            have e16 : f0 16 = Value.int .i64 (j : Int) := hff 16
                            clear hff
                            have HCC : ∀ p : Addr, (({ wr with drawn := wr.drawn + 1 } : World)).cell? p = wr.cell? p := fun _ => rfl
                            refine lyp F0 rfl HCC rfl (by omega) (wanted_none rfl) (v := Value.slice (some ⟨gL, 0, none⟩) m cL) (fun wr hwr => by simp only [execOp, (F0.eval 1 (by omega)).trans (show _ = Value.slice (some ⟨gL, 0, none⟩) m cL from by simp [upd, e1, e5, e11, e12, e15, e16])]; first | rfl | simp [go_sem]) fun F1 => ?_
                            refine lyp F1 rfl HCC rfl (by omega) (wanted_none rfl) (v := Value.int .i64 (i : Int)) (fun wr hwr => by simp only [execOp, (F1.eval 15 (by omega)).trans (show _ = Value.int .i64 (i : Int) from by simp [upd, e1, e5, e11, e12, e15, e16])]; first | rfl | simp [go_sem]) fun F2 => ?_
                            refine lyp F2 rfl HCC rfl (by omega) (wanted_none rfl) (v := Value.pointer (some ⟨gL, i, none⟩)) (fun wr hwr => by simp only [execOp, (F2.eval 140 (by omega)).trans (show _ = Value.slice (some ⟨gL, 0, none⟩) m cL from by simp [upd, e1, e5, e11, e12, e15, e16]), (F2.eval 141 (by omega)).trans (show _ = Value.int .i64 (i : Int) from by simp [upd, e1, e5, e11, e12, e15, e16])]; simp [go_sem, hi]) fun F3 => ?_
                            refine lyp F3 rfl HCC rfl (by omega) (wanted_none rfl) (v := Value.int .i64 yi) (fun wr hwr => by simp only [execOp, (F3.eval 142 (by omega)).trans (show _ = Value.pointer (some ⟨gL, i, none⟩) from by simp [upd, e1, e5, e11, e12, e15, e16])]; simp [go_sem, hwr _, cyi]) fun F4 => ?_
                            refine lyp F4 rfl HCC rfl (by omega) (wanted_none rfl) (v := Value.slice (some ⟨gL, 0, none⟩) m cL) (fun wr hwr => by simp only [execOp, (F4.eval 1 (by omega)).trans (show _ = Value.slice (some ⟨gL, 0, none⟩) m cL from by simp [upd, e1, e5, e11, e12, e15, e16])]; first | rfl | simp [go_sem]) fun F5 => ?_
                            refine lyp F5 rfl HCC rfl (by omega) (wanted_none rfl) (v := Value.int .i64 (j : Int)) (fun wr hwr => by simp only [execOp, (F5.eval 16 (by omega)).trans (show _ = Value.int .i64 (j : Int) from by simp [upd, e1, e5, e11, e12, e15, e16])]; first | rfl | simp [go_sem]) fun F6 => ?_
                            refine lyp F6 rfl HCC rfl (by omega) (wanted_none rfl) (v := Value.pointer (some ⟨gL, j, none⟩)) (fun wr hwr => by simp only [execOp, (F6.eval 144 (by omega)).trans (show _ = Value.slice (some ⟨gL, 0, none⟩) m cL from by simp [upd, e1, e5, e11, e12, e15, e16]), (F6.eval 145 (by omega)).trans (show _ = Value.int .i64 (j : Int) from by simp [upd, e1, e5, e11, e12, e15, e16])]; simp [go_sem, hj]) fun F7 => ?_
                            refine lyp F7 rfl HCC rfl (by omega) (wanted_none rfl) (v := Value.int .i64 yj) (fun wr hwr => by simp only [execOp, (F7.eval 146 (by omega)).trans (show _ = Value.pointer (some ⟨gL, j, none⟩) from by simp [upd, e1, e5, e11, e12, e15, e16])]; simp [go_sem, hwr _, cyj]) fun F8 => ?_
                            refine lyp F8 rfl HCC rfl (by omega) (wanted_none rfl) (v := Value.bool false) (fun wr hwr => by simp only [execOp, (F8.eval 143 (by omega)).trans (show _ = Value.int .i64 yi from by simp [upd, e1, e5, e11, e12, e15, e16]), (F8.eval 147 (by omega)).trans (show _ = Value.int .i64 yj from by simp [upd, e1, e5, e11, e12, e15, e16])]; simp [go_sem, Act.eval, hgt]) fun F9 => ?_
                            refine lyp F9 rfl HCC rfl (by omega) (wanted_none rfl) (v := Value.bool false) (fun wr hwr => by simp only [execOp, (F9.eval 148 (by omega)).trans (show _ = Value.bool false from by simp [upd, e1, e5, e11, e12, e15, e16])]; first | rfl | simp [go_sem]) fun F10 => ?_
                            refine lnp F10 rfl HCC rfl (by omega) (want_no F10 rfl (e := 149) rfl (by omega) (show _ = Value.bool false from by simp [upd, e1, e5, e11, e12, e15, e16]) (by decide)) fun F11 => ?_
                            refine lnp F11 rfl HCC rfl (by omega) (want_no F11 rfl (e := 149) rfl (by omega) (show _ = Value.bool false from by simp [upd, e1, e5, e11, e12, e15, e16]) (by decide)) fun F12 => ?_
                            refine lnp F12 rfl HCC rfl (by omega) (want_no F12 rfl (e := 149) rfl (by omega) (show _ = Value.bool false from by simp [upd, e1, e5, e11, e12, e15, e16]) (by decide)) fun F13 => ?_
                            refine lnp F13 rfl HCC rfl (by omega) (want_no F13 rfl (e := 149) rfl (by omega) (show _ = Value.bool false from by simp [upd, e1, e5, e11, e12, e15, e16]) (by decide)) fun F14 => ?_
                            refine lnp F14 rfl HCC rfl (by omega) (want_no F14 rfl (e := 149) rfl (by omega) (show _ = Value.bool false from by simp [upd, e1, e5, e11, e12, e15, e16]) (by decide)) fun F15 => ?_
                            refine lnp F15 rfl HCC rfl (by omega) (want_no F15 rfl (e := 149) rfl (by omega) (show _ = Value.bool false from by simp [upd, e1, e5, e11, e12, e15, e16]) (by decide)) fun F16 => ?_
                            refine lnp F16 rfl HCC rfl (by omega) (want_no F16 rfl (e := 149) rfl (by omega) (show _ = Value.bool false from by simp [upd, e1, e5, e11, e12, e15, e16]) (by decide)) fun F17 => ?_
                            refine lnp F17 rfl HCC rfl (by omega) (want_no F17 rfl (e := 149) rfl (by omega) (show _ = Value.bool false from by simp [upd, e1, e5, e11, e12, e15, e16]) (by decide)) fun F18 => ?_
                            refine lnp F18 rfl HCC rfl (by omega) (want_no F18 rfl (e := 149) rfl (by omega) (show _ = Value.bool false from by simp [upd, e1, e5, e11, e12, e15, e16]) (by decide)) fun F19 => ?_
                            refine lyp F19 rfl HCC rfl (by omega) (wanted_none rfl) (v := Value.bool false) (fun wr hwr => by simp only [execOp, (F19.eval 149 (by omega)).trans (show _ = Value.bool false from by simp [upd, e1, e5, e11, e12, e15, e16])]; simp [go_sem, Act.eval]) fun F20 => ?_
                            refine lyp F20 rfl HCC rfl (by omega) (wanted_none rfl) (v := Value.bool false) (fun wr hwr => by simp only [execOp, (F20.eval 159 (by omega)).trans (show _ = Value.bool false from by simp [upd, e1, e5, e11, e12, e15, e16])]; first | rfl | simp [go_sem]) fun F21 => ?_
                            refine lyp F21 rfl HCC rfl (by omega) (want_yes F21 rfl (e := 160) rfl (by omega) (show _ = Value.bool false from by simp [upd, e1, e5, e11, e12, e15, e16])) (v := Value.int .i64 (i : Int)) (fun wr hwr => by simp only [execOp, (F21.eval 15 (by omega)).trans (show _ = Value.int .i64 (i : Int) from by simp [upd, e1, e5, e11, e12, e15, e16])]; first | rfl | simp [go_sem]) fun F22 => ?_
                            refine lyp F22 rfl HCC rfl (by omega) (want_yes F22 rfl (e := 160) rfl (by omega) (show _ = Value.bool false from by simp [upd, e1, e5, e11, e12, e15, e16])) (v := Value.pointer (some ⟨gm, i, none⟩)) (fun wr hwr => by simp only [execOp, (F22.eval 11 (by omega)).trans (show _ = Value.pointer (some ⟨gm, 0, none⟩) from by simp [upd, e1, e5, e11, e12, e15, e16]), (F22.eval 161 (by omega)).trans (show _ = Value.int .i64 (i : Int) from by simp [upd, e1, e5, e11, e12, e15, e16])]; simp [go_sem, hi16n]) fun F23 => ?_
                            refine lyp F23 rfl HCC rfl (by omega) (want_yes F23 rfl (e := 160) rfl (by omega) (show _ = Value.bool false from by simp [upd, e1, e5, e11, e12, e15, e16])) (v := Value.int .i64 mi) (fun wr hwr => by simp only [execOp, (F23.eval 162 (by omega)).trans (show _ = Value.pointer (some ⟨gm, i, none⟩) from by simp [upd, e1, e5, e11, e12, e15, e16])]; simp [go_sem, hwr _, cmi]) fun F24 => ?_
                            refine lyp F24 rfl HCC rfl (by omega) (want_yes F24 rfl (e := 160) rfl (by omega) (show _ = Value.bool false from by simp [upd, e1, e5, e11, e12, e15, e16])) (v := Value.bool true) (fun wr hwr => by simp only [execOp, (F24.eval 163 (by omega)).trans (show _ = Value.int .i64 mi from by simp [upd, e1, e5, e11, e12, e15, e16])]; simp [go_sem, Act.eval, hmi]) fun F25 => ?_
                            refine lyp F25 rfl HCC rfl (by omega) (want_yes F25 rfl (e := 160) rfl (by omega) (show _ = Value.bool false from by simp [upd, e1, e5, e11, e12, e15, e16])) (v := Value.bool true) (fun wr hwr => by simp only [execOp, (F25.eval 164 (by omega)).trans (show _ = Value.bool true from by simp [upd, e1, e5, e11, e12, e15, e16])]; first | rfl | simp [go_sem]) fun F26 => ?_
                            refine lyp F26 rfl HCC rfl (by omega) (want_yes F26 rfl (e := 165) rfl (by omega) (show _ = Value.bool true from by simp [upd, e1, e5, e11, e12, e15, e16])) (v := Value.int .i64 (j : Int)) (fun wr hwr => by simp only [execOp, (F26.eval 16 (by omega)).trans (show _ = Value.int .i64 (j : Int) from by simp [upd, e1, e5, e11, e12, e15, e16])]; first | rfl | simp [go_sem]) fun F27 => ?_
                            refine lyp F27 rfl HCC rfl (by omega) (want_yes F27 rfl (e := 165) rfl (by omega) (show _ = Value.bool true from by simp [upd, e1, e5, e11, e12, e15, e16])) (v := Value.pointer (some ⟨gm, j, none⟩)) (fun wr hwr => by simp only [execOp, (F27.eval 11 (by omega)).trans (show _ = Value.pointer (some ⟨gm, 0, none⟩) from by simp [upd, e1, e5, e11, e12, e15, e16]), (F27.eval 166 (by omega)).trans (show _ = Value.int .i64 (j : Int) from by simp [upd, e1, e5, e11, e12, e15, e16])]; simp [go_sem, hj16n]) fun F28 => ?_
                            refine lyp F28 rfl HCC rfl (by omega) (want_yes F28 rfl (e := 165) rfl (by omega) (show _ = Value.bool true from by simp [upd, e1, e5, e11, e12, e15, e16])) (v := Value.int .i64 mj) (fun wr hwr => by simp only [execOp, (F28.eval 167 (by omega)).trans (show _ = Value.pointer (some ⟨gm, j, none⟩) from by simp [upd, e1, e5, e11, e12, e15, e16])]; simp [go_sem, hwr _, cmj]) fun F29 => ?_
                            refine lyp F29 rfl HCC rfl (by omega) (want_yes F29 rfl (e := 165) rfl (by omega) (show _ = Value.bool true from by simp [upd, e1, e5, e11, e12, e15, e16])) (v := Value.bool true) (fun wr hwr => by simp only [execOp, (F29.eval 168 (by omega)).trans (show _ = Value.int .i64 mj from by simp [upd, e1, e5, e11, e12, e15, e16])]; simp [go_sem, Act.eval, hmj]) fun F30 => ?_
                            refine lyp F30 rfl HCC rfl (by omega) (want_yes F30 rfl (e := 160) rfl (by omega) (show _ = Value.bool false from by simp [upd, e1, e5, e11, e12, e15, e16])) (v := Value.bool true) (fun wr hwr => by simp only [execOp, (F30.eval 165 (by omega)).trans (show _ = Value.bool true from by simp [upd, e1, e5, e11, e12, e15, e16]), (F30.eval 169 (by omega)).trans (show _ = Value.bool true from by simp [upd, e1, e5, e11, e12, e15, e16])]; simp [go_sem, Act.eval]) fun F31 => ?_
                            refine lyp F31 rfl HCC rfl (by omega) (want_yes F31 rfl (e := 160) rfl (by omega) (show _ = Value.bool false from by simp [upd, e1, e5, e11, e12, e15, e16])) (v := Value.bool true) (fun wr hwr => by simp only [execOp, (F31.eval 170 (by omega)).trans (show _ = Value.bool true from by simp [upd, e1, e5, e11, e12, e15, e16])]; first | rfl | simp [go_sem]) fun F32 => ?_
                            refine lyp F32 rfl HCC rfl (by omega) (want_yes F32 rfl (e := 171) rfl (by omega) (show _ = Value.bool true from by simp [upd, e1, e5, e11, e12, e15, e16])) (v := Value.int .i64 (i : Int)) (fun wr hwr => by simp only [execOp, (F32.eval 15 (by omega)).trans (show _ = Value.int .i64 (i : Int) from by simp [upd, e1, e5, e11, e12, e15, e16])]; first | rfl | simp [go_sem]) fun F33 => ?_
                            refine lyp F33 rfl HCC rfl (by omega) (want_yes F33 rfl (e := 171) rfl (by omega) (show _ = Value.bool true from by simp [upd, e1, e5, e11, e12, e15, e16])) (v := Value.pointer (some ⟨gr, i, none⟩)) (fun wr hwr => by simp only [execOp, (F33.eval 12 (by omega)).trans (show _ = Value.pointer (some ⟨gr, 0, none⟩) from by simp [upd, e1, e5, e11, e12, e15, e16]), (F33.eval 172 (by omega)).trans (show _ = Value.int .i64 (i : Int) from by simp [upd, e1, e5, e11, e12, e15, e16])]; simp [go_sem, hi16n]) fun F34 => ?_
                            refine lyp F34 rfl HCC rfl (by omega) (want_yes F34 rfl (e := 171) rfl (by omega) (show _ = Value.bool true from by simp [upd, e1, e5, e11, e12, e15, e16])) (v := Value.int .i64 ri) (fun wr hwr => by simp only [execOp, (F34.eval 173 (by omega)).trans (show _ = Value.pointer (some ⟨gr, i, none⟩) from by simp [upd, e1, e5, e11, e12, e15, e16])]; simp [go_sem, hwr _, cri]) fun F35 => ?_
                            refine lyp F35 rfl HCC rfl (by omega) (want_yes F35 rfl (e := 171) rfl (by omega) (show _ = Value.bool true from by simp [upd, e1, e5, e11, e12, e15, e16])) (v := Value.int .i64 (j : Int)) (fun wr hwr => by simp only [execOp, (F35.eval 16 (by omega)).trans (show _ = Value.int .i64 (j : Int) from by simp [upd, e1, e5, e11, e12, e15, e16])]; first | rfl | simp [go_sem]) fun F36 => ?_
                            refine lyp F36 rfl HCC rfl (by omega) (want_yes F36 rfl (e := 171) rfl (by omega) (show _ = Value.bool true from by simp [upd, e1, e5, e11, e12, e15, e16])) (v := Value.pointer (some ⟨gr, j, none⟩)) (fun wr hwr => by simp only [execOp, (F36.eval 12 (by omega)).trans (show _ = Value.pointer (some ⟨gr, 0, none⟩) from by simp [upd, e1, e5, e11, e12, e15, e16]), (F36.eval 175 (by omega)).trans (show _ = Value.int .i64 (j : Int) from by simp [upd, e1, e5, e11, e12, e15, e16])]; simp [go_sem, hj16n]) fun F37 => ?_
                            refine lyp F37 rfl HCC rfl (by omega) (want_yes F37 rfl (e := 171) rfl (by omega) (show _ = Value.bool true from by simp [upd, e1, e5, e11, e12, e15, e16])) (v := Value.int .i64 rj) (fun wr hwr => by simp only [execOp, (F37.eval 176 (by omega)).trans (show _ = Value.pointer (some ⟨gr, j, none⟩) from by simp [upd, e1, e5, e11, e12, e15, e16])]; simp [go_sem, hwr _, crj]) fun F38 => ?_
                            refine lyp F38 rfl HCC rfl (by omega) (want_yes F38 rfl (e := 171) rfl (by omega) (show _ = Value.bool true from by simp [upd, e1, e5, e11, e12, e15, e16])) (v := Value.bool false) (fun wr hwr => by simp only [execOp, (F38.eval 174 (by omega)).trans (show _ = Value.int .i64 ri from by simp [upd, e1, e5, e11, e12, e15, e16]), (F38.eval 177 (by omega)).trans (show _ = Value.int .i64 rj from by simp [upd, e1, e5, e11, e12, e15, e16])]; simp [go_sem, Act.eval, hrl]) fun F39 => ?_
                            refine lyp F39 rfl HCC rfl (by omega) (want_yes F39 rfl (e := 171) rfl (by omega) (show _ = Value.bool true from by simp [upd, e1, e5, e11, e12, e15, e16])) (v := Value.bool false) (fun wr hwr => by simp only [execOp, (F39.eval 178 (by omega)).trans (show _ = Value.bool false from by simp [upd, e1, e5, e11, e12, e15, e16])]; first | rfl | simp [go_sem]) fun F40 => ?_
                            refine lyp F40 rfl HCC rfl (by omega) (want_yes F40 rfl (e := 179) rfl (by omega) (show _ = Value.bool false from by simp [upd, e1, e5, e11, e12, e15, e16])) (v := Value.int .i64 (i : Int)) (fun wr hwr => by simp only [execOp, (F40.eval 15 (by omega)).trans (show _ = Value.int .i64 (i : Int) from by simp [upd, e1, e5, e11, e12, e15, e16])]; first | rfl | simp [go_sem]) fun F41 => ?_
                            refine lyp F41 rfl HCC rfl (by omega) (want_yes F41 rfl (e := 179) rfl (by omega) (show _ = Value.bool false from by simp [upd, e1, e5, e11, e12, e15, e16])) (v := Value.pointer (some ⟨gr, i, none⟩)) (fun wr hwr => by simp only [execOp, (F41.eval 12 (by omega)).trans (show _ = Value.pointer (some ⟨gr, 0, none⟩) from by simp [upd, e1, e5, e11, e12, e15, e16]), (F41.eval 180 (by omega)).trans (show _ = Value.int .i64 (i : Int) from by simp [upd, e1, e5, e11, e12, e15, e16])]; simp [go_sem, hi16n]) fun F42 => ?_
                            refine lyp F42 rfl HCC rfl (by omega) (want_yes F42 rfl (e := 179) rfl (by omega) (show _ = Value.bool false from by simp [upd, e1, e5, e11, e12, e15, e16])) (v := Value.int .i64 ri) (fun wr hwr => by simp only [execOp, (F42.eval 181 (by omega)).trans (show _ = Value.pointer (some ⟨gr, i, none⟩) from by simp [upd, e1, e5, e11, e12, e15, e16])]; simp [go_sem, hwr _, cri]) fun F43 => ?_
                            refine lyp F43 rfl HCC rfl (by omega) (want_yes F43 rfl (e := 179) rfl (by omega) (show _ = Value.bool false from by simp [upd, e1, e5, e11, e12, e15, e16])) (v := Value.int .i64 (j : Int)) (fun wr hwr => by simp only [execOp, (F43.eval 16 (by omega)).trans (show _ = Value.int .i64 (j : Int) from by simp [upd, e1, e5, e11, e12, e15, e16])]; first | rfl | simp [go_sem]) fun F44 => ?_
                            refine lyp F44 rfl HCC rfl (by omega) (want_yes F44 rfl (e := 179) rfl (by omega) (show _ = Value.bool false from by simp [upd, e1, e5, e11, e12, e15, e16])) (v := Value.pointer (some ⟨gr, j, none⟩)) (fun wr hwr => by simp only [execOp, (F44.eval 12 (by omega)).trans (show _ = Value.pointer (some ⟨gr, 0, none⟩) from by simp [upd, e1, e5, e11, e12, e15, e16]), (F44.eval 183 (by omega)).trans (show _ = Value.int .i64 (j : Int) from by simp [upd, e1, e5, e11, e12, e15, e16])]; simp [go_sem, hj16n]) fun F45 => ?_
                            refine lyp F45 rfl HCC rfl (by omega) (want_yes F45 rfl (e := 179) rfl (by omega) (show _ = Value.bool false from by simp [upd, e1, e5, e11, e12, e15, e16])) (v := Value.int .i64 rj) (fun wr hwr => by simp only [execOp, (F45.eval 184 (by omega)).trans (show _ = Value.pointer (some ⟨gr, j, none⟩) from by simp [upd, e1, e5, e11, e12, e15, e16])]; simp [go_sem, hwr _, crj]) fun F46 => ?_
                            refine lyp F46 rfl HCC rfl (by omega) (want_yes F46 rfl (e := 179) rfl (by omega) (show _ = Value.bool false from by simp [upd, e1, e5, e11, e12, e15, e16])) (v := Value.bool true) (fun wr hwr => by simp only [execOp, (F46.eval 182 (by omega)).trans (show _ = Value.int .i64 ri from by simp [upd, e1, e5, e11, e12, e15, e16]), (F46.eval 185 (by omega)).trans (show _ = Value.int .i64 rj from by simp [upd, e1, e5, e11, e12, e15, e16])]; simp [go_sem, Act.eval, hre]) fun F47 => ?_
                            refine lyp F47 rfl HCC rfl (by omega) (want_yes F47 rfl (e := 179) rfl (by omega) (show _ = Value.bool false from by simp [upd, e1, e5, e11, e12, e15, e16])) (v := Value.bool true) (fun wr hwr => by simp only [execOp, (F47.eval 186 (by omega)).trans (show _ = Value.bool true from by simp [upd, e1, e5, e11, e12, e15, e16])]; first | rfl | simp [go_sem]) fun F48 => ?_
                            refine lyp F48 rfl HCC rfl (by omega) (want_yes F48 rfl (e := 187) rfl (by omega) (show _ = Value.bool true from by simp [upd, e1, e5, e11, e12, e15, e16])) (v := Value.int .i64 (i : Int)) (fun wr hwr => by simp only [execOp, (F48.eval 15 (by omega)).trans (show _ = Value.int .i64 (i : Int) from by simp [upd, e1, e5, e11, e12, e15, e16])]; first | rfl | simp [go_sem]) fun F49 => ?_
                            refine lyp F49 rfl HCC rfl (by omega) (want_yes F49 rfl (e := 187) rfl (by omega) (show _ = Value.bool true from by simp [upd, e1, e5, e11, e12, e15, e16])) (v := Value.int .i64 (j : Int)) (fun wr hwr => by simp only [execOp, (F49.eval 16 (by omega)).trans (show _ = Value.int .i64 (j : Int) from by simp [upd, e1, e5, e11, e12, e15, e16])]; first | rfl | simp [go_sem]) fun F50 => ?_
                            refine lyp F50 rfl HCC rfl (by omega) (want_yes F50 rfl (e := 187) rfl (by omega) (show _ = Value.bool true from by simp [upd, e1, e5, e11, e12, e15, e16])) (v := Value.bool false) (fun wr hwr => by simp only [execOp, (F50.eval 188 (by omega)).trans (show _ = Value.int .i64 (i : Int) from by simp [upd, e1, e5, e11, e12, e15, e16]), (F50.eval 189 (by omega)).trans (show _ = Value.int .i64 (j : Int) from by simp [upd, e1, e5, e11, e12, e15, e16])]; simp [go_sem, Act.eval, hij]) fun F51 => ?_
                            refine lyp F51 rfl HCC rfl (by omega) (want_yes F51 rfl (e := 179) rfl (by omega) (show _ = Value.bool false from by simp [upd, e1, e5, e11, e12, e15, e16])) (v := Value.bool false) (fun wr hwr => by simp only [execOp, (F51.eval 187 (by omega)).trans (show _ = Value.bool true from by simp [upd, e1, e5, e11, e12, e15, e16]), (F51.eval 190 (by omega)).trans (show _ = Value.bool false from by simp [upd, e1, e5, e11, e12, e15, e16])]; simp [go_sem, Act.eval]) fun F52 => ?_
                            refine lyp F52 rfl HCC rfl (by omega) (want_yes F52 rfl (e := 171) rfl (by omega) (show _ = Value.bool true from by simp [upd, e1, e5, e11, e12, e15, e16])) (v := Value.bool false) (fun wr hwr => by simp only [execOp, (F52.eval 179 (by omega)).trans (show _ = Value.bool false from by simp [upd, e1, e5, e11, e12, e15, e16]), (F52.eval 191 (by omega)).trans (show _ = Value.bool false from by simp [upd, e1, e5, e11, e12, e15, e16])]; simp [go_sem, Act.eval]) fun F53 => ?_
                            refine lyp F53 rfl HCC rfl (by omega) (want_yes F53 rfl (e := 160) rfl (by omega) (show _ = Value.bool false from by simp [upd, e1, e5, e11, e12, e15, e16])) (v := Value.bool false) (fun wr hwr => by simp only [execOp, (F53.eval 171 (by omega)).trans (show _ = Value.bool true from by simp [upd, e1, e5, e11, e12, e15, e16]), (F53.eval 192 (by omega)).trans (show _ = Value.bool false from by simp [upd, e1, e5, e11, e12, e15, e16])]; simp [go_sem, Act.eval]) fun F54 => ?_
                            refine lyp F54 rfl HCC rfl (by omega) (wanted_none rfl) (v := Value.bool false) (fun wr hwr => by simp only [execOp, (F54.eval 160 (by omega)).trans (show _ = Value.bool false from by simp [upd, e1, e5, e11, e12, e15, e16]), (F54.eval 193 (by omega)).trans (show _ = Value.bool false from by simp [upd, e1, e5, e11, e12, e15, e16])]; simp [go_sem, Act.eval]) fun F55 => ?_
                            refine ⟨fun _ => HCC, ?_⟩
                            refine hK _ _ ?_
                            clear F0 F1 F2 F3 F4 F5 F6 F7 F8 F9 F10 F11 F12 F13 F14 F15 F16 F17 F18 F19 F20 F21 F22 F23 F24 F25 F26 F27 F28 F29 F30 F31 F32 F33 F34 F35 F36 F37 F38 F39 F40 F41 F42 F43 F44 F45 F46 F47 F48 F49 F50 F51 F52 F53 F54 F55 e1 e5 e11 e12 e15 e16 HCC
                            simp only [Act.put, List.setIfInBounds_toArray, List.set_cons_succ, List.set_cons_zero]
                            generalize hY : (({ wr with drawn := wr.drawn + 1 } : World)) = Y
                            have hY2 : Y = X0.drewN (q + 1) := by rw [← hY, HWQ.out]; rfl
                            have HY : Hid _ := hY2
                            clear hY hY2 HWQ cyi cyj cpi cpj cmi cmj cri crj
                            go_wp2
                            go_roundw
                            case rel => exact ⟨j + 1, q + 1, by omega, by go_num, HY.out⟩
                            case measure => simp [intOf]; omega
                          · go_wp2_with fail
                            rename_i K hK
                            try rw [show ∀ a : Act, a.put none undef = a from fun _ => rfl]
                            refine wp_region_mix (fun wq => ∀ p : Addr, wq.cell? p = wr.cell? p) (fun i => i == 99) 99 (by kernel_rfl) rfl (by kernel_rfl) (by kernel_rfl) (by kernel_rfl) ?_
                            refine withFrP (N := 198) rfl ?_
                            intro f0 F0 hff
                            have e1 : f0 1 = Value.slice (some ⟨gL, 0, none⟩) m cL := hff 1
                            have e5 : f0 5 = Value.slice (some ⟨gP, 0, none⟩) m cP := hff 5
                            have e11 : f0 11 = Value.pointer (some ⟨gm, 0, none⟩) := hff 11
                            have e12 : f0 12 = Value.pointer (some ⟨gr, 0, none⟩) := hff 12
                            have e15 : f0 15 = Value.int .i64 (i : Int) := hff 15
                            have e16 : f0 16 = Value.int .i64 (j : Int) := hff 16
                            clear hff
                            have HCC : ∀ p : Addr, (({ wr with drawn := wr.drawn + 1 } : World)).cell? p = wr.cell? p := fun _ => rfl
                            refine lyp F0 rfl HCC rfl (by omega) (wanted_none rfl) (v := Value.slice (some ⟨gL, 0, none⟩) m cL) (fun wr hwr => by simp only [execOp, (F0.eval 1 (by omega)).trans (show _ = Value.slice (some ⟨gL, 0, none⟩) m cL from by simp [upd, e1, e5, e11, e12, e15, e16])]; first | rfl | simp [go_sem]) fun F1 => ?_
                            refine lyp F1 rfl HCC rfl (by omega) (wanted_none rfl) (v := Value.int .i64 (i : Int)) (fun wr hwr => by simp only [execOp, (F1.eval 15 (by omega)).trans (show _ = Value.int .i64 (i : Int) from by simp [upd, e1, e5, e11, e12, e15, e16])]; first | rfl | simp [go_sem]) fun F2 => ?_
                            refine lyp F2 rfl HCC rfl (by omega) (wanted_none rfl) (v := Value.pointer (some ⟨gL, i, none⟩)) (fun wr hwr => by simp only [execOp, (F2.eval 140 (by omega)).trans (show _ = Value.slice (some ⟨gL, 0, none⟩) m cL from by simp [upd, e1, e5, e11, e12, e15, e16]), (F2.eval 141 (by omega)).trans (show _ = Value.int .i64 (i : Int) from by simp [upd, e1, e5, e11, e12, e15, e16])]; simp [go_sem, hi]) fun F3 => ?_
                            refine lyp F3 rfl HCC rfl (by omega) (wanted_none rfl) (v := Value.int .i64 yi) (fun wr hwr => by simp only [execOp, (F3.eval 142 (by omega)).trans (show _ = Value.pointer (some ⟨gL, i, none⟩) from by simp [upd, e1, e5, e11, e12, e15, e16])]; simp [go_sem, hwr _, cyi]) fun F4 => ?_
                            refine lyp F4 rfl HCC rfl (by omega) (wanted_none rfl) (v := Value.slice (some ⟨gL, 0, none⟩) m cL) (fun wr hwr => by simp only [execOp, (F4.eval 1 (by omega)).trans (show _ = Value.slice (some ⟨gL, 0, none⟩) m cL from by simp [upd, e1, e5, e11, e12, e15, e16])]; first | rfl | simp [go_sem]) fun F5 => ?_
                            refine lyp F5 rfl HCC rfl (by omega) (wanted_none rfl) (v := Value.int .i64 (j : Int)) (fun wr hwr => by simp only [execOp, (F5.eval 16 (by omega)).trans (show _ = Value.int .i64 (j : Int) from by simp [upd, e1, e5, e11, e12, e15, e16])]; first | rfl | simp [go_sem]) fun F6 => ?_
                            refine lyp F6 rfl HCC rfl (by omega) (wanted_none rfl) (v := Value.pointer (some ⟨gL, j, none⟩)) (fun wr hwr => by simp only [execOp, (F6.eval 144 (by omega)).trans (show _ = Value.slice (some ⟨gL, 0, none⟩) m cL from by simp [upd, e1, e5, e11, e12, e15, e16]), (F6.eval 145 (by omega)).trans (show _ = Value.int .i64 (j : Int) from by simp [upd, e1, e5, e11, e12, e15, e16])]; simp [go_sem, hj]) fun F7 => ?_
                            refine lyp F7 rfl HCC rfl (by omega) (wanted_none rfl) (v := Value.int .i64 yj) (fun wr hwr => by simp only [execOp, (F7.eval 146 (by omega)).trans (show _ = Value.pointer (some ⟨gL, j, none⟩) from by simp [upd, e1, e5, e11, e12, e15, e16])]; simp [go_sem, hwr _, cyj]) fun F8 => ?_
                            refine lyp F8 rfl HCC rfl (by omega) (wanted_none rfl) (v := Value.bool false) (fun wr hwr => by simp only [execOp, (F8.eval 143 (by omega)).trans (show _ = Value.int .i64 yi from by simp [upd, e1, e5, e11, e12, e15, e16]), (F8.eval 147 (by omega)).trans (show _ = Value.int .i64 yj from by simp [upd, e1, e5, e11, e12, e15, e16])]; simp [go_sem, Act.eval, hgt]) fun F9 => ?_
                            refine lyp F9 rfl HCC rfl (by omega) (wanted_none rfl) (v := Value.bool false) (fun wr hwr => by simp only [execOp, (F9.eval 148 (by omega)).trans (show _ = Value.bool false from by simp [upd, e1, e5, e11, e12, e15, e16])]; first | rfl | simp [go_sem]) fun F10 => ?_
                            refine lnp F10 rfl HCC rfl (by omega) (want_no F10 rfl (e := 149) rfl (by omega) (show _ = Value.bool false from by simp [upd, e1, e5, e11, e12, e15, e16]) (by decide)) fun F11 => ?_
                            refine lnp F11 rfl HCC rfl (by omega) (want_no F11 rfl (e := 149) rfl (by omega) (show _ = Value.bool false from by simp [upd, e1, e5, e11, e12, e15, e16]) (by decide)) fun F12 => ?_
                            refine lnp F12 rfl HCC rfl (by omega) (want_no F12 rfl (e := 149) rfl (by omega) (show _ = Value.bool false from by simp [upd, e1, e5, e11, e12, e15, e16]) (by decide)) fun F13 => ?_
                            refine lnp F13 rfl HCC rfl (by omega) (want_no F13 rfl (e := 149) rfl (by omega) (show _ = Value.bool false from by simp [upd, e1, e5, e11, e12, e15, e16]) (by decide)) fun F14 => ?_
                            refine lnp F14 rfl HCC rfl (by omega) (want_no F14 rfl (e := 149) rfl (by omega) (show _ = Value.bool false from by simp [upd, e1, e5, e11, e12, e15, e16]) (by decide)) fun F15 => ?_
                            refine lnp F15 rfl HCC rfl (by omega) (want_no F15 rfl (e := 149) rfl (by omega) (show _ = Value.bool false from by simp [upd, e1, e5, e11, e12, e15, e16]) (by decide)) fun F16 => ?_
                            refine lnp F16 rfl HCC rfl (by omega) (want_no F16 rfl (e := 149) rfl (by omega) (show _ = Value.bool false from by simp [upd, e1, e5, e11, e12, e15, e16]) (by decide)) fun F17 => ?_
                            refine lnp F17 rfl HCC rfl (by omega) (want_no F17 rfl (e := 149) rfl (by omega) (show _ = Value.bool false from by simp [upd, e1, e5, e11, e12, e15, e16]) (by decide)) fun F18 => ?_
                            refine lnp F18 rfl HCC rfl (by omega) (want_no F18 rfl (e := 149) rfl (by omega) (show _ = Value.bool false from by simp [upd, e1, e5, e11, e12, e15, e16]) (by decide)) fun F19 => ?_
                            refine lyp F19 rfl HCC rfl (by omega) (wanted_none rfl) (v := Value.bool false) (fun wr hwr => by simp only [execOp, (F19.eval 149 (by omega)).trans (show _ = Value.bool false from by simp [upd, e1, e5, e11, e12, e15, e16])]; simp [go_sem, Act.eval]) fun F20 => ?_
                            refine lyp F20 rfl HCC rfl (by omega) (wanted_none rfl) (v := Value.bool false) (fun wr hwr => by simp only [execOp, (F20.eval 159 (by omega)).trans (show _ = Value.bool false from by simp [upd, e1, e5, e11, e12, e15, e16])]; first | rfl | simp [go_sem]) fun F21 => ?_
                            refine lyp F21 rfl HCC rfl (by omega) (want_yes F21 rfl (e := 160) rfl (by omega) (show _ = Value.bool false from by simp [upd, e1, e5, e11, e12, e15, e16])) (v := Value.int .i64 (i : Int)) (fun wr hwr => by simp only [execOp, (F21.eval 15 (by omega)).trans (show _ = Value.int .i64 (i : Int) from by simp [upd, e1, e5, e11, e12, e15, e16])]; first | rfl | simp [go_sem]) fun F22 => ?_
                            refine lyp F22 rfl HCC rfl (by omega) (want_yes F22 rfl (e := 160) rfl (by omega) (show _ = Value.bool false from by simp [upd, e1, e5, e11, e12, e15, e16])) (v := Value.pointer (some ⟨gm, i, none⟩)) (fun wr hwr => by simp only [execOp, (F22.eval 11 (by omega)).trans (show _ = Value.pointer (some ⟨gm, 0, none⟩) from by simp [upd, e1, e5, e11, e12, e15, e16]), (F22.eval 161 (by omega)).trans (show _ = Value.int .i64 (i : Int) from by simp [upd, e1, e5, e11, e12, e15, e16])]; simp [go_sem, hi16n]) fun F23 => ?_
                            refine lyp F23 rfl HCC rfl (by omega) (want_yes F23 rfl (e := 160) rfl (by omega) (show _ = Value.bool false from by simp [upd, e1, e5, e11, e12, e15, e16])) (v := Value.int .i64 mi) (fun wr hwr => by simp only [execOp, (F23.eval 162 (by omega)).trans (show _ = Value.pointer (some ⟨gm, i, none⟩) from by simp [upd, e1, e5, e11, e12, e15, e16])]; simp [go_sem, hwr _, cmi]) fun F24 => ?_
                            refine lyp F24 rfl HCC rfl (by omega) (want_yes F24 rfl (e := 160) rfl (by omega) (show _ = Value.bool false from by simp [upd, e1, e5, e11, e12, e15, e16])) (v := Value.bool true) (fun wr hwr => by simp only [execOp, (F24.eval 163 (by omega)).trans (show _ = Value.int .i64 mi from by simp [upd, e1, e5, e11, e12, e15, e16])]; simp [go_sem, Act.eval, hmi]) fun F25 => ?_
                            refine lyp F25 rfl HCC rfl (by omega) (want_yes F25 rfl (e := 160) rfl (by omega) (show _ = Value.bool false from by simp [upd, e1, e5, e11, e12, e15, e16])) (v := Value.bool true) (fun wr hwr => by simp only [execOp, (F25.eval 164 (by omega)).trans (show _ = Value.bool true from by simp [upd, e1, e5, e11, e12, e15, e16])]; first | rfl | simp [go_sem]) fun F26 => ?_
                            refine lyp F26 rfl HCC rfl (by omega) (want_yes F26 rfl (e := 165) rfl (by omega) (show _ = Value.bool true from by simp [upd, e1, e5, e11, e12, e15, e16])) (v := Value.int .i64 (j : Int)) (fun wr hwr => by simp only [execOp, (F26.eval 16 (by omega)).trans (show _ = Value.int .i64 (j : Int) from by simp [upd, e1, e5, e11, e12, e15, e16])]; first | rfl | simp [go_sem]) fun F27 => ?_
                            refine lyp F27 rfl HCC rfl (by omega) (want_yes F27 rfl (e := 165) rfl (by omega) (show _ = Value.bool true from by simp [upd, e1, e5, e11, e12, e15, e16])) (v := Value.pointer (some ⟨gm, j, none⟩)) (fun wr hwr => by simp only [execOp, (F27.eval 11 (by omega)).trans (show _ = Value.pointer (some ⟨gm, 0, none⟩) from by simp [upd, e1, e5, e11, e12, e15, e16]), (F27.eval 166 (by omega)).trans (show _ = Value.int .i64 (j : Int) from by simp [upd, e1, e5, e11, e12, e15, e16])]; simp [go_sem, hj16n]) fun F28 => ?_
                            refine lyp F28 rfl HCC rfl (by omega) (want_yes F28 rfl (e := 165) rfl (by omega) (show _ = Value.bool true from by simp [upd, e1, e5, e11, e12, e15, e16])) (v := Value.int .i64 mj) (fun wr hwr => by simp only [execOp, (F28.eval 167 (by omega)).trans (show _ = Value.pointer (some ⟨gm, j, none⟩) from by simp [upd, e1, e5, e11, e12, e15, e16])]; simp [go_sem, hwr _, cmj]) fun F29 => ?_
                            refine lyp F29 rfl HCC rfl (by omega) (want_yes F29 rfl (e := 165) rfl (by omega) (show _ = Value.bool true from by simp [upd, e1, e5, e11, e12, e15, e16])) (v := Value.bool true) (fun wr hwr => by simp only [execOp, (F29.eval 168 (by omega)).trans (show _ = Value.int .i64 mj from by simp [upd, e1, e5, e11, e12, e15, e16])]; simp [go_sem, Act.eval, hmj]) fun F30 => ?_
                            refine lyp F30 rfl HCC rfl (by omega) (want_yes F30 rfl (e := 160) rfl (by omega) (show _ = Value.bool false from by simp [upd, e1, e5, e11, e12, e15, e16])) (v := Value.bool true) (fun wr hwr => by simp only [execOp, (F30.eval 165 (by omega)).trans (show _ = Value.bool true from by simp [upd, e1, e5, e11, e12, e15, e16]), (F30.eval 169 (by omega)).trans (show _ = Value.bool true from by simp [upd, e1, e5, e11, e12, e15, e16])]; simp [go_sem, Act.eval]) fun F31 => ?_
                            refine lyp F31 rfl HCC rfl (by omega) (want_yes F31 rfl (e := 160) rfl (by omega) (show _ = Value.bool false from by simp [upd, e1, e5, e11, e12, e15, e16])) (v := Value.bool true) (fun wr hwr => by simp only [execOp, (F31.eval 170 (by omega)).trans (show _ = Value.bool true from by simp [upd, e1, e5, e11, e12, e15, e16])]; first | rfl | simp [go_sem]) fun F32 => ?_
                            refine lyp F32 rfl HCC rfl (by omega) (want_yes F32 rfl (e := 171) rfl (by omega) (show _ = Value.bool true from by simp [upd, e1, e5, e11, e12, e15, e16])) (v := Value.int .i64 (i : Int)) (fun wr hwr => by simp only [execOp, (F32.eval 15 (by omega)).trans (show _ = Value.int .i64 (i : Int) from by simp [upd, e1, e5, e11, e12, e15, e16])]; first | rfl | simp [go_sem]) fun F33 => ?_
                            refine lyp F33 rfl HCC rfl (by omega) (want_yes F33 rfl (e := 171) rfl (by omega) (show _ = Value.bool true from by simp [upd, e1, e5, e11, e12, e15, e16])) (v := Value.pointer (some ⟨gr, i, none⟩)) (fun wr hwr => by simp only [execOp, (F33.eval 12 (by omega)).trans (show _ = Value.pointer (some ⟨gr, 0, none⟩) from by simp [upd, e1, e5, e11, e12, e15, e16]), (F33.eval 172 (by omega)).trans (show _ = Value.int .i64 (i : Int) from by simp [upd, e1, e5, e11, e12, e15, e16])]; simp [go_sem, hi16n]) fun F34 => ?_
                            refine lyp F34 rfl HCC rfl (by omega) (want_yes F34 rfl (e := 171) rfl (by omega) (show _ = Value.bool true from by simp [upd, e1, e5, e11, e12, e15, e16])) (v := Value.int .i64 ri) (fun wr hwr => by simp only [execOp, (F34.eval 173 (by omega)).trans (show _ = Value.pointer (some ⟨gr, i, none⟩) from by simp [upd, e1, e5, e11, e12, e15, e16])]; simp [go_sem, hwr _, cri]) fun F35 => ?_
                            refine lyp F35 rfl HCC rfl (by omega) (want_yes F35 rfl (e := 171) rfl (by omega) (show _ = Value.bool true from by simp [upd, e1, e5, e11, e12, e15, e16])) (v := Value.int .i64 (j : Int)) (fun wr hwr => by simp only [execOp, (F35.eval 16 (by omega)).trans (show _ = Value.int .i64 (j : Int) from by simp [upd, e1, e5, e11, e12, e15, e16])]; first | rfl | simp [go_sem]) fun F36 => ?_
                            refine lyp F36 rfl HCC rfl (by omega) (want_yes F36 rfl (e := 171) rfl (by omega) (show _ = Value.bool true from by simp [upd, e1, e5, e11, e12, e15, e16])) (v := Value.pointer (some ⟨gr, j, none⟩)) (fun wr hwr => by simp only [execOp, (F36.eval 12 (by omega)).trans (show _ = Value.pointer (some ⟨gr, 0, none⟩) from by simp [upd, e1, e5, e11, e12, e15, e16]), (F36.eval 175 (by omega)).trans (show _ = Value.int .i64 (j : Int) from by simp [upd, e1, e5, e11, e12, e15, e16])]; simp [go_sem, hj16n]) fun F37 => ?_
                            refine lyp F37 rfl HCC rfl (by omega) (want_yes F37 rfl (e := 171) rfl (by omega) (show _ = Value.bool true from by simp [upd, e1, e5, e11, e12, e15, e16])) (v := Value.int .i64 rj) (fun wr hwr => by simp only [execOp, (F37.eval 176 (by omega)).trans (show _ = Value.pointer (some ⟨gr, j, none⟩) from by simp [upd, e1, e5, e11, e12, e15, e16])]; simp [go_sem, hwr _, crj]) fun F38 => ?_
                            refine lyp F38 rfl HCC rfl (by omega) (want_yes F38 rfl (e := 171) rfl (by omega) (show _ = Value.bool true from by simp [upd, e1, e5, e11, e12, e15, e16])) (v := Value.bool false) (fun wr hwr => by simp only [execOp, (F38.eval 174 (by omega)).trans (show _ = Value.int .i64 ri from by simp [upd, e1, e5, e11, e12, e15, e16]), (F38.eval 177 (by omega)).trans (show _ = Value.int .i64 rj from by simp [upd, e1, e5, e11, e12, e15, e16])]; simp [go_sem, Act.eval, hrl]) fun F39 => ?_
                            refine lyp F39 rfl HCC rfl (by omega) (want_yes F39 rfl (e := 171) rfl (by omega) (show _ = Value.bool true from by simp [upd, e1, e5, e11, e12, e15, e16])) (v := Value.bool false) (fun wr hwr => by simp only [execOp, (F39.eval 178 (by omega)).trans (show _ = Value.bool false from by simp [upd, e1, e5, e11, e12, e15, e16])]; first | rfl | simp [go_sem]) fun F40 => ?_
                            refine lyp F40 rfl HCC rfl (by omega) (want_yes F40 rfl (e := 179) rfl (by omega) (show _ = Value.bool false from by simp [upd, e1, e5, e11, e12, e15, e16])) (v := Value.int .i64 (i : Int)) (fun wr hwr => by simp only [execOp, (F40.eval 15 (by omega)).trans (show _ = Value.int .i64 (i : Int) from by simp [upd, e1, e5, e11, e12, e15, e16])]; first | rfl | simp [go_sem]) fun F41 => ?_
                            refine lyp F41 rfl HCC rfl (by omega) (want_yes F41 rfl (e := 179) rfl (by omega) (show _ = Value.bool false from by simp [upd, e1, e5, e11, e12, e15, e16])) (v := Value.pointer (some ⟨gr, i, none⟩)) (fun wr hwr => by simp only [execOp, (F41.eval 12 (by omega)).trans (show _ = Value.pointer (some ⟨gr, 0, none⟩) from by simp [upd, e1, e5, e11, e12, e15, e16]), (F41.eval 180 (by omega)).trans (show _ = Value.int .i64 (i : Int) from by simp [upd, e1, e5, e11, e12, e15, e16])]; simp [go_sem, hi16n]) fun F42 => ?_
                            refine lyp F42 rfl HCC rfl (by omega) (want_yes F42 rfl (e := 179) rfl (by omega) (show _ = Value.bool false from by simp [upd, e1, e5, e11, e12, e15, e16])) (v := Value.int .i64 ri) (fun wr hwr => by simp only [execOp, (F42.eval 181 (by omega)).trans (show _ = Value.pointer (some ⟨gr, i, none⟩) from by simp [upd, e1, e5, e11, e12, e15, e16])]; simp [go_sem, hwr _, cri]) fun F43 => ?_
                            refine lyp F43 rfl HCC rfl (by omega) (want_yes F43 rfl (e := 179) rfl (by omega) (show _ = Value.bool false from by simp [upd, e1, e5, e11, e12, e15, e16])) (v := Value.int .i64 (j : Int)) (fun wr hwr => by simp only [execOp, (F43.eval 16 (by omega)).trans (show _ = Value.int .i64 (j : Int) from by simp [upd, e1, e5, e11, e12, e15, e16])]; first | rfl | simp [go_sem]) fun F44 => ?_
                            refine lyp F44 rfl HCC rfl (by omega) (want_yes F44 rfl (e := 179) rfl (by omega) (show _ = Value.bool false from by simp [upd, e1, e5, e11, e12, e15, e16])) (v := Value.pointer (some ⟨gr, j, none⟩)) (fun wr hwr => by simp only [execOp, (F44.eval 12 (by omega)).trans (show _ = Value.pointer (some ⟨gr, 0, none⟩) from by simp [upd, e1, e5, e11, e12, e15, e16]), (F44.eval 183 (by omega)).trans (show _ = Value.int .i64 (j : Int) from by simp [upd, e1, e5, e11, e12, e15, e16])]; simp [go_sem, hj16n]) fun F45 => ?_
                            refine lyp F45 rfl HCC rfl (by omega) (want_yes F45 rfl (e := 179) rfl (by omega) (show _ = Value.bool false from by simp [upd, e1, e5, e11, e12, e15, e16])) (v := Value.int .i64 rj) (fun wr hwr => by simp only [execOp, (F45.eval 184 (by omega)).trans (show _ = Value.pointer (some ⟨gr, j, none⟩) from by simp [upd, e1, e5, e11, e12, e15, e16])]; simp [go_sem, hwr _, crj]) fun F46 => ?_
                            refine lyp F46 rfl HCC rfl (by omega) (want_yes F46 rfl (e := 179) rfl (by omega) (show _ = Value.bool false from by simp [upd, e1, e5, e11, e12, e15, e16])) (v := Value.bool false) (fun wr hwr => by simp only [execOp, (F46.eval 182 (by omega)).trans (show _ = Value.int .i64 ri from by simp [upd, e1, e5, e11, e12, e15, e16]), (F46.eval 185 (by omega)).trans (show _ = Value.int .i64 rj from by simp [upd, e1, e5, e11, e12, e15, e16])]; simp [go_sem, Act.eval, hre]) fun F47 => ?_
                            refine lyp F47 rfl HCC rfl (by omega) (want_yes F47 rfl (e := 179) rfl (by omega) (show _ = Value.bool false from by simp [upd, e1, e5, e11, e12, e15, e16])) (v := Value.bool false) (fun wr hwr => by simp only [execOp, (F47.eval 186 (by omega)).trans (show _ = Value.bool false from by simp [upd, e1, e5, e11, e12, e15, e16])]; first | rfl | simp [go_sem]) fun F48 => ?_
                            refine lnp F48 rfl HCC rfl (by omega) (want_no F48 rfl (e := 187) rfl (by omega) (show _ = Value.bool false from by simp [upd, e1, e5, e11, e12, e15, e16]) (by decide)) fun F49 => ?_
                            refine lnp F49 rfl HCC rfl (by omega) (want_no F49 rfl (e := 187) rfl (by omega) (show _ = Value.bool false from by simp [upd, e1, e5, e11, e12, e15, e16]) (by decide)) fun F50 => ?_
                            refine lnp F50 rfl HCC rfl (by omega) (want_no F50 rfl (e := 187) rfl (by omega) (show _ = Value.bool false from by simp [upd, e1, e5, e11, e12, e15, e16]) (by decide)) fun F51 => ?_
                            refine lyp F51 rfl HCC rfl (by omega) (want_yes F51 rfl (e := 179) rfl (by omega) (show _ = Value.bool false from by simp [upd, e1, e5, e11, e12, e15, e16])) (v := Value.bool false) (fun wr hwr => by simp only [execOp, (F51.eval 187 (by omega)).trans (show _ = Value.bool false from by simp [upd, e1, e5, e11, e12, e15, e16])]; simp [go_sem, Act.eval]) fun F52 => ?_
                            refine lyp F52 rfl HCC rfl (by omega) (want_yes F52 rfl (e := 171) rfl (by omega) (show _ = Value.bool true from by simp [upd, e1, e5, e11, e12, e15, e16])) (v := Value.bool false) (fun wr hwr => by simp only [execOp, (F52.eval 179 (by omega)).trans (show _ = Value.bool false from by simp [upd, e1, e5, e11, e12, e15, e16]), (F52.eval 191 (by omega)).trans (show _ = Value.bool false from by simp [upd, e1, e5, e11, e12, e15, e16])]; simp [go_sem, Act.eval]) fun F53 => ?_
                            refine lyp F53 rfl HCC rfl (by omega) (want_yes F53 rfl (e := 160) rfl (by omega) (show _ = Value.bool false from by simp [upd, e1, e5, e11, e12, e15, e16])) (v := Value.bool false) (fun wr hwr => by simp only [execOp, (F53.eval 171 (by omega)).trans (show _ = Value.bool true from by simp [upd, e1, e5, e11, e12, e15, e16]), (F53.eval 192 (by omega)).trans (show _ = Value.bool false from by simp [upd, e1, e5, e11, e12, e15, e16])]; simp [go_sem, Act.eval]) fun F54 => ?_
                            refine lyp F54 rfl HCC rfl (by omega) (wanted_none rfl) (v := Value.bool false) (fun wr hwr => by simp only [execOp, (F54.eval 160 (by omega)).trans (show _ = Value.bool false from by simp [upd, e1, e5, e11, e12, e15, e16]), (F54.eval 193 (by omega)).trans (show _ = Value.bool false from by simp [upd, e1, e5, e11, e12, e15, e16])]; simp [go_sem, Act.eval]) fun F55 => ?_
                            refine ⟨fun _ => HCC, ?_⟩
                            refine hK _ _ ?_
                            clear F0 F1 F2 F3 F4 F5 F6 F7 F8 F9 F10 F11 F12 F13 F14 F15 F16 F17 F18 F19 F20 F21 F22 F23 F24 F25 F26 F27 F28 F29 F30 F31 F32 F33 F34 F35 F36 F37 F38 F39 F40 F41 F42 F43 F44 F45 F46 F47 F48 F49 F50 F51 F52 F53 F54 F55 e1 e5 e11 e12 e15 e16 HCC
                            simp only [Act.put, List.setIfInBounds_toArray, List.set_cons_succ, List.set_cons_zero]
                            generalize hY : (({ wr with drawn := wr.drawn + 1 } : World)) = Y
                            have hY2 : Y = X0.drewN (q + 1) := by rw [← hY, HWQ.out]; rfl
                            have HY : Hid _ := hY2
                            clear hY hY2 HWQ cyi cyj cpi cpj cmi cmj cri crj
                            go_wp2
                            go_roundw
                            case rel => exact ⟨j + 1, q + 1, by omega, by go_num, HY.out⟩
                            case measure => simp [intOf]; omega
                        · go_wp2_with fail
                          rename_i K hK
                          try rw [show ∀ a : Act, a.put none undef = a from fun _ => rfl]
                          refine wp_region_mix (fun wq => ∀ p : Addr, wq.cell? p = wr.cell? p) (fun i => i == 99) 99 (by kernel_rfl) rfl (by kernel_rfl) (by kernel_rfl) (by kernel_rfl) ?_
                          refine withFrP (N := 198) rfl ?_
                          intro f0 F0 hff
                          have e1 : f0 1 = Value.slice (some ⟨gL, 0, none⟩) m cL := hff 1
                          have e5 : f0 5 = Value.slice (some ⟨gP, 0, none⟩) m cP := hff 5
                          have e11 : f0 11 = Value.pointer (some ⟨gm, 0, none⟩) := hff 11
                          have e12 : f0 12 = Value.pointer (some ⟨gr, 0, none⟩) := hff 12
                          have e15 : f0 15 = Value.int .i64 (i : Int) := hff 15
                          have e16 : f0 16 = Value.int .i64 (j : Int) := hff 16
                          clear hff
                          have HCC : ∀ p : Addr, (({ wr with drawn := wr.drawn + 1 } : World)).cell? p = wr.cell? p := fun _ => rfl
                          refine lyp F0 rfl HCC rfl (by omega) (wanted_none rfl) (v := Value.slice (some ⟨gL, 0, none⟩) m cL) (fun wr hwr => by simp only [execOp, (F0.eval 1 (by omega)).trans (show _ = Value.slice (some ⟨gL, 0, none⟩) m cL from by simp [upd, e1, e5, e11, e12, e15, e16])]; first | rfl | simp [go_sem]) fun F1 => ?_
                          refine lyp F1 rfl HCC rfl (by omega) (wanted_none rfl) (v := Value.int .i64 (i : Int)) (fun wr hwr => by simp only [execOp, (F1.eval 15 (by omega)).trans (show _ = Value.int .i64 (i : Int) from by simp [upd, e1, e5, e11, e12, e15, e16])]; first | rfl | simp [go_sem]) fun F2 => ?_
                          refine lyp F2 rfl HCC rfl (by omega) (wanted_none rfl) (v := Value.pointer (some ⟨gL, i, none⟩)) (fun wr hwr => by simp only [execOp, (F2.eval 140 (by omega)).trans (show _ = Value.slice (some ⟨gL, 0, none⟩) m cL from by simp [upd, e1, e5, e11, e12, e15, e16]), (F2.eval 141 (by omega)).trans (show _ = Value.int .i64 (i : Int) from by simp [upd, e1, e5, e11, e12, e15, e16])]; simp [go_sem, hi]) fun F3 => ?_
                          refine lyp F3 rfl HCC rfl (by omega) (wanted_none rfl) (v := Value.int .i64 yi) (fun wr hwr => by simp only [execOp, (F3.eval 142 (by omega)).trans (show _ = Value.pointer (some ⟨gL, i, none⟩) from by simp [upd, e1, e5, e11, e12, e15, e16])]; simp [go_sem, hwr _, cyi]) fun F4 => ?_
                          refine lyp F4 rfl HCC rfl (by omega) (wanted_none rfl) (v := Value.slice (some ⟨gL, 0, none⟩) m cL) (fun wr hwr => by simp only [execOp, (F4.eval 1 (by omega)).trans (show _ = Value.slice (some ⟨gL, 0, none⟩) m cL from by simp [upd, e1, e5, e11, e12, e15, e16])]; first | rfl | simp [go_sem]) fun F5 => ?_
                          refine lyp F5 rfl HCC rfl (by omega) (wanted_none rfl) (v := Value.int .i64 (j : Int)) (fun wr hwr => by simp only [execOp, (F5.eval 16 (by omega)).trans (show _ = Value.int .i64 (j : Int) from by simp [upd, e1, e5, e11, e12, e15, e16])]; first | rfl | simp [go_sem]) fun F6 => ?_
                          refine lyp F6 rfl HCC rfl (by omega) (wanted_none rfl) (v := Value.pointer (some ⟨gL, j, none⟩)) (fun wr hwr => by simp only [execOp, (F6.eval 144 (by omega)).trans (show _ = Value.slice (some ⟨gL, 0, none⟩) m cL from by simp [upd, e1, e5, e11, e12, e15, e16]), (F6.eval 145 (by omega)).trans (show _ = Value.int .i64 (j : Int) from by simp [upd, e1, e5, e11, e12, e15, e16])]; simp [go_sem, hj]) fun F7 => ?_
                          refine lyp F7 rfl HCC rfl (by omega) (wanted_none rfl) (v := Value.int .i64 yj) (fun wr hwr => by simp only [execOp, (F7.eval 146 (by omega)).trans (show _ = Value.pointer (some ⟨gL, j, none⟩) from by simp [upd, e1, e5, e11, e12, e15, e16])]; simp [go_sem, hwr _, cyj]) fun F8 => ?_
                          refine lyp F8 rfl HCC rfl (by omega) (wanted_none rfl) (v := Value.bool false) (fun wr hwr => by simp only [execOp, (F8.eval 143 (by omega)).trans (show _ = Value.int .i64 yi from by simp [upd, e1, e5, e11, e12, e15, e16]), (F8.eval 147 (by omega)).trans (show _ = Value.int .i64 yj from by simp [upd, e1, e5, e11, e12, e15, e16])]; simp [go_sem, Act.eval, hgt]) fun F9 => ?_
                          refine lyp F9 rfl HCC rfl (by omega) (wanted_none rfl) (v := Value.bool false) (fun wr hwr => by simp only [execOp, (F9.eval 148 (by omega)).trans (show _ = Value.bool false from by simp [upd, e1, e5, e11, e12, e15, e16])]; first | rfl | simp [go_sem]) fun F10 => ?_
                          refine lnp F10 rfl HCC rfl (by omega) (want_no F10 rfl (e := 149) rfl (by omega) (show _ = Value.bool false from by simp [upd, e1, e5, e11, e12, e15, e16]) (by decide)) fun F11 => ?_
                          refine lnp F11 rfl HCC rfl (by omega) (want_no F11 rfl (e := 149) rfl (by omega) (show _ = Value.bool false from by simp [upd, e1, e5, e11, e12, e15, e16]) (by decide)) fun F12 => ?_
                          refine lnp F12 rfl HCC rfl (by omega) (want_no F12 rfl (e := 149) rfl (by omega) (show _ = Value.bool false from by simp [upd, e1, e5, e11, e12, e15, e16]) (by decide)) fun F13 => ?_
                          refine lnp F13 rfl HCC rfl (by omega) (want_no F13 rfl (e := 149) rfl (by omega) (show _ = Value.bool false from by simp [upd, e1, e5, e11, e12, e15, e16]) (by decide)) fun F14 => ?_
                          refine lnp F14 rfl HCC rfl (by omega) (want_no F14 rfl (e := 149) rfl (by omega) (show _ = Value.bool false from by simp [upd, e1, e5, e11, e12, e15, e16]) (by decide)) fun F15 => ?_
                          refine lnp F15 rfl HCC rfl (by omega) (want_no F15 rfl (e := 149) rfl (by omega) (show _ = Value.bool false from by simp [upd, e1, e5, e11, e12, e15, e16]) (by decide)) fun F16 => ?_
                          refine lnp F16 rfl HCC rfl (by omega) (want_no F16 rfl (e := 149) rfl (by omega) (show _ = Value.bool false from by simp [upd, e1, e5, e11, e12, e15, e16]) (by decide)) fun F17 => ?_
                          refine lnp F17 rfl HCC rfl (by omega) (want_no F17 rfl (e := 149) rfl (by omega) (show _ = Value.bool false from by simp [upd, e1, e5, e11, e12, e15, e16]) (by decide)) fun F18 => ?_
                          refine lnp F18 rfl HCC rfl (by omega) (want_no F18 rfl (e := 149) rfl (by omega) (show _ = Value.bool false from by simp [upd, e1, e5, e11, e12, e15, e16]) (by decide)) fun F19 => ?_
                          refine lyp F19 rfl HCC rfl (by omega) (wanted_none rfl) (v := Value.bool false) (fun wr hwr => by simp only [execOp, (F19.eval 149 (by omega)).trans (show _ = Value.bool false from by simp [upd, e1, e5, e11, e12, e15, e16])]; simp [go_sem, Act.eval]) fun F20 => ?_
                          refine lyp F20 rfl HCC rfl (by omega) (wanted_none rfl) (v := Value.bool false) (fun wr hwr => by simp only [execOp, (F20.eval 159 (by omega)).trans (show _ = Value.bool false from by simp [upd, e1, e5, e11, e12, e15, e16])]; first | rfl | simp [go_sem]) fun F21 => ?_
                          refine lyp F21 rfl HCC rfl (by omega) (want_yes F21 rfl (e := 160) rfl (by omega) (show _ = Value.bool false from by simp [upd, e1, e5, e11, e12, e15, e16])) (v := Value.int .i64 (i : Int)) (fun wr hwr => by simp only [execOp, (F21.eval 15 (by omega)).trans (show _ = Value.int .i64 (i : Int) from by simp [upd, e1, e5, e11, e12, e15, e16])]; first | rfl | simp [go_sem]) fun F22 => ?_
                          refine lyp F22 rfl HCC rfl (by omega) (want_yes F22 rfl (e := 160) rfl (by omega) (show _ = Value.bool false from by simp [upd, e1, e5, e11, e12, e15, e16])) (v := Value.pointer (some ⟨gm, i, none⟩)) (fun wr hwr => by simp only [execOp, (F22.eval 11 (by omega)).trans (show _ = Value.pointer (some ⟨gm, 0, none⟩) from by simp [upd, e1, e5, e11, e12, e15, e16]), (F22.eval 161 (by omega)).trans (show _ = Value.int .i64 (i : Int) from by simp [upd, e1, e5, e11, e12, e15, e16])]; simp [go_sem, hi16n]) fun F23 => ?_
                          refine lyp F23 rfl HCC rfl (by omega) (want_yes F23 rfl (e := 160) rfl (by omega) (show _ = Value.bool false from by simp [upd, e1, e5, e11, e12, e15, e16])) (v := Value.int .i64 mi) (fun wr hwr => by simp only [execOp, (F23.eval 162 (by omega)).trans (show _ = Value.pointer (some ⟨gm, i, none⟩) from by simp [upd, e1, e5, e11, e12, e15, e16])]; simp [go_sem, hwr _, cmi]) fun F24 => ?_
                          refine lyp F24 rfl HCC rfl (by omega) (want_yes F24 rfl (e := 160) rfl (by omega) (show _ = Value.bool false from by simp [upd, e1, e5, e11, e12, e15, e16])) (v := Value.bool true) (fun wr hwr => by simp only [execOp, (F24.eval 163 (by omega)).trans (show _ = Value.int .i64 mi from by simp [upd, e1, e5, e11, e12, e15, e16])]; simp [go_sem, Act.eval, hmi]) fun F25 => ?_
                          refine lyp F25 rfl HCC rfl (by omega) (want_yes F25 rfl (e := 160) rfl (by omega) (show _ = Value.bool false from by simp [upd, e1, e5, e11, e12, e15, e16])) (v := Value.bool true) (fun wr hwr => by simp only [execOp, (F25.eval 164 (by omega)).trans (show _ = Value.bool true from by simp [upd, e1, e5, e11, e12, e15, e16])]; first | rfl | simp [go_sem]) fun F26 => ?_
                          refine lyp F26 rfl HCC rfl (by omega) (want_yes F26 rfl (e := 165) rfl (by omega) (show _ = Value.bool true from by simp [upd, e1, e5, e11, e12, e15, e16])) (v := Value.int .i64 (j : Int)) (fun wr hwr => by simp only [execOp, (F26.eval 16 (by omega)).trans (show _ = Value.int .i64 (j : Int) from by simp [upd, e1, e5, e11, e12, e15, e16])]; first | rfl | simp [go_sem]) fun F27 => ?_
                          refine lyp F27 rfl HCC rfl (by omega) (want_yes F27 rfl (e := 165) rfl (by omega) (show _ = Value.bool true from by simp [upd, e1, e5, e11, e12, e15, e16])) (v := Value.pointer (some ⟨gm, j, none⟩)) (fun wr hwr => by simp only [execOp, (F27.eval 11 (by omega)).trans (show _ = Value.pointer (some ⟨gm, 0, none⟩) from by simp [upd, e1, e5, e11, e12, e15, e16]), (F27.eval 166 (by omega)).trans (show _ = Value.int .i64 (j : Int) from by simp [upd, e1, e5, e11, e12, e15, e16])]; simp [go_sem, hj16n]) fun F28 => ?_
                          refine lyp F28 rfl HCC rfl (by omega) (want_yes F28 rfl (e := 165) rfl (by omega) (show _ = Value.bool true from by simp [upd, e1, e5, e11, e12, e15, e16])) (v := Value.int .i64 mj) (fun wr hwr => by simp only [execOp, (F28.eval 167 (by omega)).trans (show _ = Value.pointer (some ⟨gm, j, none⟩) from by simp [upd, e1, e5, e11, e12, e15, e16])]; simp [go_sem, hwr _, cmj]) fun F29 => ?_
                          refine lyp F29 rfl HCC rfl (by omega) (want_yes F29 rfl (e := 165) rfl (by omega) (show _ = Value.bool true from by simp [upd, e1, e5, e11, e12, e15, e16])) (v := Value.bool false) (fun wr hwr => by simp only [execOp, (F29.eval 168 (by omega)).trans (show _ = Value.int .i64 mj from by simp [upd, e1, e5, e11, e12, e15, e16])]; simp [go_sem, Act.eval, hmj]) fun F30 => ?_
                          refine lyp F30 rfl HCC rfl (by omega) (want_yes F30 rfl (e := 160) rfl (by omega) (show _ = Value.bool false from by simp [upd, e1, e5, e11, e12, e15, e16])) (v := Value.bool false) (fun wr hwr => by simp only [execOp, (F30.eval 165 (by omega)).trans (show _ = Value.bool true from by simp [upd, e1, e5, e11, e12, e15, e16]), (F30.eval 169 (by omega)).trans (show _ = Value.bool false from by simp [upd, e1, e5, e11, e12, e15, e16])]; simp [go_sem, Act.eval]) fun F31 => ?_
                          refine lyp F31 rfl HCC rfl (by omega) (want_yes F31 rfl (e := 160) rfl (by omega) (show _ = Value.bool false from by simp [upd, e1, e5, e11, e12, e15, e16])) (v := Value.bool false) (fun wr hwr => by simp only [execOp, (F31.eval 170 (by omega)).trans (show _ = Value.bool false from by simp [upd, e1, e5, e11, e12, e15, e16])]; first | rfl | simp [go_sem]) fun F32 => ?_
                          refine lnp F32 rfl HCC rfl (by omega) (want_no F32 rfl (e := 171) rfl (by omega) (show _ = Value.bool false from by simp [upd, e1, e5, e11, e12, e15, e16]) (by decide)) fun F33 => ?_
                          refine lnp F33 rfl HCC rfl (by omega) (want_no F33 rfl (e := 171) rfl (by omega) (show _ = Value.bool false from by simp [upd, e1, e5, e11, e12, e15, e16]) (by decide)) fun F34 => ?_
                          refine lnp F34 rfl HCC rfl (by omega) (want_no F34 rfl (e := 171) rfl (by omega) (show _ = Value.bool false from by simp [upd, e1, e5, e11, e12, e15, e16]) (by decide)) fun F35 => ?_
                          refine lnp F35 rfl HCC rfl (by omega) (want_no F35 rfl (e := 171) rfl (by omega) (show _ = Value.bool false from by simp [upd, e1, e5, e11, e12, e15, e16]) (by decide)) fun F36 => ?_
                          refine lnp F36 rfl HCC rfl (by omega) (want_no F36 rfl (e := 171) rfl (by omega) (show _ = Value.bool false from by simp [upd, e1, e5, e11, e12, e15, e16]) (by decide)) fun F37 => ?_
                          refine lnp F37 rfl HCC rfl (by omega) (want_no F37 rfl (e := 171) rfl (by omega) (show _ = Value.bool false from by simp [upd, e1, e5, e11, e12, e15, e16]) (by decide)) fun F38 => ?_
                          refine lnp F38 rfl HCC rfl (by omega) (want_no F38 rfl (e := 171) rfl (by omega) (show _ = Value.bool false from by simp [upd, e1, e5, e11, e12, e15, e16]) (by decide)) fun F39 => ?_
                          refine lnp F39 rfl HCC rfl (by omega) (want_no F39 rfl (e := 171) rfl (by omega) (show _ = Value.bool false from by simp [upd, e1, e5, e11, e12, e15, e16]) (by decide)) fun F40 => ?_
                          refine lnp F40 rfl HCC rfl (by omega) (want_not F40 rfl (e := 179) rfl (by omega) (show _ = undef from by simp [upd, e1, e5, e11, e12, e15, e16])) fun F41 => ?_
                          refine lnp F41 rfl HCC rfl (by omega) (want_not F41 rfl (e := 179) rfl (by omega) (show _ = undef from by simp [upd, e1, e5, e11, e12, e15, e16])) fun F42 => ?_
                          refine lnp F42 rfl HCC rfl (by omega) (want_not F42 rfl (e := 179) rfl (by omega) (show _ = undef from by simp [upd, e1, e5, e11, e12, e15, e16])) fun F43 => ?_
                          refine lnp F43 rfl HCC rfl (by omega) (want_not F43 rfl (e := 179) rfl (by omega) (show _ = undef from by simp [upd, e1, e5, e11, e12, e15, e16])) fun F44 => ?_
                          refine lnp F44 rfl HCC rfl (by omega) (want_not F44 rfl (e := 179) rfl (by omega) (show _ = undef from by simp [upd, e1, e5, e11, e12, e15, e16])) fun F45 => ?_
                          refine lnp F45 rfl HCC rfl (by omega) (want_not F45 rfl (e := 179) rfl (by omega) (show _ = undef from by simp [upd, e1, e5, e11, e12, e15, e16])) fun F46 => ?_
                          refine lnp F46 rfl HCC rfl (by omega) (want_not F46 rfl (e := 179) rfl (by omega) (show _ = undef from by simp [upd, e1, e5, e11, e12, e15, e16])) fun F47 => ?_
                          refine lnp F47 rfl HCC rfl (by omega) (want_not F47 rfl (e := 179) rfl (by omega) (show _ = undef from by simp [upd, e1, e5, e11, e12, e15, e16])) fun F48 => ?_
                          refine lnp F48 rfl HCC rfl (by omega) (want_not F48 rfl (e := 187) rfl (by omega) (show _ = undef from by simp [upd, e1, e5, e11, e12, e15, e16])) fun F49 => ?_
                          refine lnp F49 rfl HCC rfl (by omega) (want_not F49 rfl (e := 187) rfl (by omega) (show _ = undef from by simp [upd, e1, e5, e11, e12, e15, e16])) fun F50 => ?_
                          refine lnp F50 rfl HCC rfl (by omega) (want_not F50 rfl (e := 187) rfl (by omega) (show _ = undef from by simp [upd, e1, e5, e11, e12, e15, e16])) fun F51 => ?_
                          refine lnp F51 rfl HCC rfl (by omega) (want_not F51 rfl (e := 179) rfl (by omega) (show _ = undef from by simp [upd, e1, e5, e11, e12, e15, e16])) fun F52 => ?_
                          refine lnp F52 rfl HCC rfl (by omega) (want_no F52 rfl (e := 171) rfl (by omega) (show _ = Value.bool false from by simp [upd, e1, e5, e11, e12, e15, e16]) (by decide)) fun F53 => ?_
                          refine lyp F53 rfl HCC rfl (by omega) (want_yes F53 rfl (e := 160) rfl (by omega) (show _ = Value.bool false from by simp [upd, e1, e5, e11, e12, e15, e16])) (v := Value.bool false) (fun wr hwr => by simp only [execOp, (F53.eval 171 (by omega)).trans (show _ = Value.bool false from by simp [upd, e1, e5, e11, e12, e15, e16])]; simp [go_sem, Act.eval]) fun F54 => ?_
                          refine lyp F54 rfl HCC rfl (by omega) (wanted_none rfl) (v := Value.bool false) (fun wr hwr => by simp only [execOp, (F54.eval 160 (by omega)).trans (show _ = Value.bool false from by simp [upd, e1, e5, e11, e12, e15, e16]), (F54.eval 193 (by omega)).trans (show _ = Value.bool false from by simp [upd, e1, e5, e11, e12, e15, e16])]; simp [go_sem, Act.eval]) fun F55 => ?_
                          refine ⟨fun _ => HCC, ?_⟩
                          refine hK _ _ ?_
                          clear F0 F1 F2 F3 F4 F5 F6 F7 F8 F9 F10 F11 F12 F13 F14 F15 F16 F17 F18 F19 F20 F21 F22 F23 F24 F25 F26 F27 F28 F29 F30 F31 F32 F33 F34 F35 F36 F37 F38 F39 F40 F41 F42 F43 F44 F45 F46 F47 F48 F49 F50 F51 F52 F53 F54 F55 e1 e5 e11 e12 e15 e16 HCC
                          simp only [Act.put, List.setIfInBounds_toArray, List.set_cons_succ, List.set_cons_zero]
                          generalize hY : (({ wr with drawn := wr.drawn + 1 } : World)) = Y
                          have hY2 : Y = X0.drewN (q + 1) := by rw [← hY, HWQ.out]; rfl
                          have HY : Hid _ := hY2
                          clear hY hY2 HWQ cyi cyj cpi cpj cmi cmj cri crj
                          go_wp2
                          go_roundw
                          case rel => exact ⟨j + 1, q + 1, by omega, by go_num, HY.out⟩
                          case measure => simp [intOf]; omega
                      · go_wp2_with fail
                        rename_i K hK
                        try rw [show ∀ a : Act, a.put none undef = a from fun _ => rfl]
                        refine wp_region_mix (fun wq => ∀ p : Addr, wq.cell? p = wr.cell? p) (fun i => i == 99) 99 (by kernel_rfl) rfl (by kernel_rfl) (by kernel_rfl) (by kernel_rfl) ?_
                        refine withFrP (N := 198) rfl ?_
                        intro f0 F0 hff
                        have e1 : f0 1 = Value.slice (some ⟨gL, 0, none⟩) m cL := hff 1
                        have e5 : f0 5 = Value.slice (some ⟨gP, 0, none⟩) m cP := hff 5
                        have e11 : f0 11 = Value.pointer (some ⟨gm, 0, none⟩) := hff 11
                        have e12 : f0 12 = Value.pointer (some ⟨gr, 0, none⟩) := hff 12
                        have e15 : f0 15 = Value.int .i64 (i : Int) := hff 15
                        have e16 : f0 16 = Value.int .i64 (j : Int) := hff 16
                        clear hff
                        have HCC : ∀ p : Addr, (({ wr with drawn := wr.drawn + 1 } : World)).cell? p = wr.cell? p := fun _ => rfl
                        refine lyp F0 rfl HCC rfl (by omega) (wanted_none rfl) (v := Value.slice (some ⟨gL, 0, none⟩) m cL) (fun wr hwr => by simp only [execOp, (F0.eval 1 (by omega)).trans (show _ = Value.slice (some ⟨gL, 0, none⟩) m cL from by simp [upd, e1, e5, e11, e12, e15, e16])]; first | rfl | simp [go_sem]) fun F1 => ?_
                        refine lyp F1 rfl HCC rfl (by omega) (wanted_none rfl) (v := Value.int .i64 (i : Int)) (fun wr hwr => by simp only [execOp, (F1.eval 15 (by omega)).trans (show _ = Value.int .i64 (i : Int) from by simp [upd, e1, e5, e11, e12, e15, e16])]; first | rfl | simp [go_sem]) fun F2 => ?_
                        refine lyp F2 rfl HCC rfl (by omega) (wanted_none rfl) (v := Value.pointer (some ⟨gL, i, none⟩)) (fun wr hwr => by simp only [execOp, (F2.eval 140 (by omega)).trans (show _ = Value.slice (some ⟨gL, 0, none⟩) m cL from by simp [upd, e1, e5, e11, e12, e15, e16]), (F2.eval 141 (by omega)).trans (show _ = Value.int .i64 (i : Int) from by simp [upd, e1, e5, e11, e12, e15, e16])]; simp [go_sem, hi]) fun F3 => ?_
                        refine lyp F3 rfl HCC rfl (by omega) (wanted_none rfl) (v := Value.int .i64 yi) (fun wr hwr => by simp only [execOp, (F3.eval 142 (by omega)).trans (show _ = Value.pointer (some ⟨gL, i, none⟩) from by simp [upd, e1, e5, e11, e12, e15, e16])]; simp [go_sem, hwr _, cyi]) fun F4 => ?_
                        refine lyp F4 rfl HCC rfl (by omega) (wanted_none rfl) (v := Value.slice (some ⟨gL, 0, none⟩) m cL) (fun wr hwr => by simp only [execOp, (F4.eval 1 (by omega)).trans (show _ = Value.slice (some ⟨gL, 0, none⟩) m cL from by simp [upd, e1, e5, e11, e12, e15, e16])]; first | rfl | simp [go_sem]) fun F5 => ?_
                        refine lyp F5 rfl HCC rfl (by omega) (wanted_none rfl) (v := Value.int .i64 (j : Int)) (fun wr hwr => by simp only [execOp, (F5.eval 16 (by omega)).trans (show _ = Value.int .i64 (j : Int) from by simp [upd, e1, e5, e11, e12, e15, e16])]; first | rfl | simp [go_sem]) fun F6 => ?_
                        refine lyp F6 rfl HCC rfl (by omega) (wanted_none rfl) (v := Value.pointer (some ⟨gL, j, none⟩)) (fun wr hwr => by simp only [execOp, (F6.eval 144 (by omega)).trans (show _ = Value.slice (some ⟨gL, 0, none⟩) m cL from by simp [upd, e1, e5, e11, e12, e15, e16]), (F6.eval 145 (by omega)).trans (show _ = Value.int .i64 (j : Int) from by simp [upd, e1, e5, e11, e12, e15, e16])]; simp [go_sem, hj]) fun F7 => ?_
                        refine lyp F7 rfl HCC rfl (by omega) (wanted_none rfl) (v := Value.int .i64 yj) (fun wr hwr => by simp only [execOp, (F7.eval 146 (by omega)).trans (show _ = Value.pointer (some ⟨gL, j, none⟩) from by simp [upd, e1, e5, e11, e12, e15, e16])]; simp [go_sem, hwr _, cyj]) fun F8 => ?_
                        refine lyp F8 rfl HCC rfl (by omega) (wanted_none rfl) (v := Value.bool false) (fun wr hwr => by simp only [execOp, (F8.eval 143 (by omega)).trans (show _ = Value.int .i64 yi from by simp [upd, e1, e5, e11, e12, e15, e16]), (F8.eval 147 (by omega)).trans (show _ = Value.int .i64 yj from by simp [upd, e1, e5, e11, e12, e15, e16])]; simp [go_sem, Act.eval, hgt]) fun F9 => ?_
                        refine lyp F9 rfl HCC rfl (by omega) (wanted_none rfl) (v := Value.bool false) (fun wr hwr => by simp only [execOp, (F9.eval 148 (by omega)).trans (show _ = Value.bool false from by simp [upd, e1, e5, e11, e12, e15, e16])]; first | rfl | simp [go_sem]) fun F10 => ?_
                        refine lnp F10 rfl HCC rfl (by omega) (want_no F10 rfl (e := 149) rfl (by omega) (show _ = Value.bool false from by simp [upd, e1, e5, e11, e12, e15, e16]) (by decide)) fun F11 => ?_
                        refine lnp F11 rfl HCC rfl (by omega) (want_no F11 rfl (e := 149) rfl (by omega) (show _ = Value.bool false from by simp [upd, e1, e5, e11, e12, e15, e16]) (by decide)) fun F12 => ?_
                        refine lnp F12 rfl HCC rfl (by omega) (want_no F12 rfl (e := 149) rfl (by omega) (show _ = Value.bool false from by simp [upd, e1, e5, e11, e12, e15, e16]) (by decide)) fun F13 => ?_
                        refine lnp F13 rfl HCC rfl (by omega) (want_no F13 rfl (e := 149) rfl (by omega) (show _ = Value.bool false from by simp [upd, e1, e5, e11, e12, e15, e16]) (by decide)) fun F14 => ?_
                        refine lnp F14 rfl HCC rfl (by omega) (want_no F14 rfl (e := 149) rfl (by omega) (show _ = Value.bool false from by simp [upd, e1, e5, e11, e12, e15, e16]) (by decide)) fun F15 => ?_
                        refine lnp F15 rfl HCC rfl (by omega) (want_no F15 rfl (e := 149) rfl (by omega) (show _ = Value.bool false from by simp [upd, e1, e5, e11, e12, e15, e16]) (by decide)) fun F16 => ?_
                        refine lnp F16 rfl HCC rfl (by omega) (want_no F16 rfl (e := 149) rfl (by omega) (show _ = Value.bool false from by simp [upd, e1, e5, e11, e12, e15, e16]) (by decide)) fun F17 => ?_
                        refine lnp F17 rfl HCC rfl (by omega) (want_no F17 rfl (e := 149) rfl (by omega) (show _ = Value.bool false from by simp [upd, e1, e5, e11, e12, e15, e16]) (by decide)) fun F18 => ?_
                        refine lnp F18 rfl HCC rfl (by omega) (want_no F18 rfl (e := 149) rfl (by omega) (show _ = Value.bool false from by simp [upd, e1, e5, e11, e12, e15, e16]) (by decide)) fun F19 => ?_
                        refine lyp F19 rfl HCC rfl (by omega) (wanted_none rfl) (v := Value.bool false) (fun wr hwr => by simp only [execOp, (F19.eval 149 (by omega)).trans (show _ = Value.bool false from by simp [upd, e1, e5, e11, e12, e15, e16])]; simp [go_sem, Act.eval]) fun F20 => ?_
                        refine lyp F20 rfl HCC rfl (by omega) (wanted_none rfl) (v := Value.bool false) (fun wr hwr => by simp only [execOp, (F20.eval 159 (by omega)).trans (show _ = Value.bool false from by simp [upd, e1, e5, e11, e12, e15, e16])]; first | rfl | simp [go_sem]) fun F21 => ?_
                        refine lyp F21 rfl HCC rfl (by omega) (want_yes F21 rfl (e := 160) rfl (by omega) (show _ = Value.bool false from by simp [upd, e1, e5, e11, e12, e15, e16])) (v := Value.int .i64 (i : Int)) (fun wr hwr => by simp only [execOp, (F21.eval 15 (by omega)).trans (show _ = Value.int .i64 (i : Int) from by simp [upd, e1, e5, e11, e12, e15, e16])]; first | rfl | simp [go_sem]) fun F22 => ?_
                        refine lyp F22 rfl HCC rfl (by omega) (want_yes F22 rfl (e := 160) rfl (by omega) (show _ = Value.bool false from by simp [upd, e1, e5, e11, e12, e15, e16])) (v := Value.pointer (some ⟨gm, i, none⟩)) (fun wr hwr => by simp only [execOp, (F22.eval 11 (by omega)).trans (show _ = Value.pointer (some ⟨gm, 0, none⟩) from by simp [upd, e1, e5, e11, e12, e15, e16]), (F22.eval 161 (by omega)).trans (show _ = Value.int .i64 (i : Int) from by simp [upd, e1, e5, e11, e12, e15, e16])]; simp [go_sem, hi16n]) fun F23 => ?_
                        refine lyp F23 rfl HCC rfl (by omega) (want_yes F23 rfl (e := 160) rfl (by omega) (show _ = Value.bool false from by simp [upd, e1, e5, e11, e12, e15, e16])) (v := Value.int .i64 mi) (fun wr hwr => by simp only [execOp, (F23.eval 162 (by omega)).trans (show _ = Value.pointer (some ⟨gm, i, none⟩) from by simp [upd, e1, e5, e11, e12, e15, e16])]; simp [go_sem, hwr _, cmi]) fun F24 => ?_
                        refine lyp F24 rfl HCC rfl (by omega) (want_yes F24 rfl (e := 160) rfl (by omega) (show _ = Value.bool false from by simp [upd, e1, e5, e11, e12, e15, e16])) (v := Value.bool false) (fun wr hwr => by simp only [execOp, (F24.eval 163 (by omega)).trans (show _ = Value.int .i64 mi from by simp [upd, e1, e5, e11, e12, e15, e16])]; simp [go_sem, Act.eval, hmi]) fun F25 => ?_
                        refine lyp F25 rfl HCC rfl (by omega) (want_yes F25 rfl (e := 160) rfl (by omega) (show _ = Value.bool false from by simp [upd, e1, e5, e11, e12, e15, e16])) (v := Value.bool false) (fun wr hwr => by simp only [execOp, (F25.eval 164 (by omega)).trans (show _ = Value.bool false from by simp [upd, e1, e5, e11, e12, e15, e16])]; first | rfl | simp [go_sem]) fun F26 => ?_
                        refine lnp F26 rfl HCC rfl (by omega) (want_no F26 rfl (e := 165) rfl (by omega) (show _ = Value.bool false from by simp [upd, e1, e5, e11, e12, e15, e16]) (by decide)) fun F27 => ?_
                        refine lnp F27 rfl HCC rfl (by omega) (want_no F27 rfl (e := 165) rfl (by omega) (show _ = Value.bool false from by simp [upd, e1, e5, e11, e12, e15, e16]) (by decide)) fun F28 => ?_
                        refine lnp F28 rfl HCC rfl (by omega) (want_no F28 rfl (e := 165) rfl (by omega) (show _ = Value.bool false from by simp [upd, e1, e5, e11, e12, e15, e16]) (by decide)) fun F29 => ?_
                        refine lnp F29 rfl HCC rfl (by omega) (want_no F29 rfl (e := 165) rfl (by omega) (show _ = Value.bool false from by simp [upd, e1, e5, e11, e12, e15, e16]) (by decide)) fun F30 => ?_
                        refine lyp F30 rfl HCC rfl (by omega) (want_yes F30 rfl (e := 160) rfl (by omega) (show _ = Value.bool false from by simp [upd, e1, e5, e11, e12, e15, e16])) (v := Value.bool false) (fun wr hwr => by simp only [execOp, (F30.eval 165 (by omega)).trans (show _ = Value.bool false from by simp [upd, e1, e5, e11, e12, e15, e16])]; simp [go_sem, Act.eval]) fun F31 => ?_
                        refine lyp F31 rfl HCC rfl (by omega) (want_yes F31 rfl (e := 160) rfl (by omega) (show _ = Value.bool false from by simp [upd, e1, e5, e11, e12, e15, e16])) (v := Value.bool false) (fun wr hwr => by simp only [execOp, (F31.eval 170 (by omega)).trans (show _ = Value.bool false from by simp [upd, e1, e5, e11, e12, e15, e16])]; first | rfl | simp [go_sem]) fun F32 => ?_
                        refine lnp F32 rfl HCC rfl (by omega) (want_no F32 rfl (e := 171) rfl (by omega) (show _ = Value.bool false from by simp [upd, e1, e5, e11, e12, e15, e16]) (by decide)) fun F33 => ?_
                        refine lnp F33 rfl HCC rfl (by omega) (want_no F33 rfl (e := 171) rfl (by omega) (show _ = Value.bool false from by simp [upd, e1, e5, e11, e12, e15, e16]) (by decide)) fun F34 => ?_
                        refine lnp F34 rfl HCC rfl (by omega) (want_no F34 rfl (e := 171) rfl (by omega) (show _ = Value.bool false from by simp [upd, e1, e5, e11, e12, e15, e16]) (by decide)) fun F35 => ?_
                        refine lnp F35 rfl HCC rfl (by omega) (want_no F35 rfl (e := 171) rfl (by omega) (show _ = Value.bool false from by simp [upd, e1, e5, e11, e12, e15, e16]) (by decide)) fun F36 => ?_
                        refine lnp F36 rfl HCC rfl (by omega) (want_no F36 rfl (e := 171) rfl (by omega) (show _ = Value.bool false from by simp [upd, e1, e5, e11, e12, e15, e16]) (by decide)) fun F37 => ?_
                        refine lnp F37 rfl HCC rfl (by omega) (want_no F37 rfl (e := 171) rfl (by omega) (show _ = Value.bool false from by simp [upd, e1, e5, e11, e12, e15, e16]) (by decide)) fun F38 => ?_
                        refine lnp F38 rfl HCC rfl (by omega) (want_no F38 rfl (e := 171) rfl (by omega) (show _ = Value.bool false from by simp [upd, e1, e5, e11, e12, e15, e16]) (by decide)) fun F39 => ?_
                        refine lnp F39 rfl HCC rfl (by omega) (want_no F39 rfl (e := 171) rfl (by omega) (show _ = Value.bool false from by simp [upd, e1, e5, e11, e12, e15, e16]) (by decide)) fun F40 => ?_
                        refine lnp F40 rfl HCC rfl (by omega) (want_not F40 rfl (e := 179) rfl (by omega) (show _ = undef from by simp [upd, e1, e5, e11, e12, e15, e16])) fun F41 => ?_
                        refine lnp F41 rfl HCC rfl (by omega) (want_not F41 rfl (e := 179) rfl (by omega) (show _ = undef from by simp [upd, e1, e5, e11, e12, e15, e16])) fun F42 => ?_
                        refine lnp F42 rfl HCC rfl (by omega) (want_not F42 rfl (e := 179) rfl (by omega) (show _ = undef from by simp [upd, e1, e5, e11, e12, e15, e16])) fun F43 => ?_
                        refine lnp F43 rfl HCC rfl (by omega) (want_not F43 rfl (e := 179) rfl (by omega) (show _ = undef from by simp [upd, e1, e5, e11, e12, e15, e16])) fun F44 => ?_
                        refine lnp F44 rfl HCC rfl (by omega) (want_not F44 rfl (e := 179) rfl (by omega) (show _ = undef from by simp [upd, e1, e5, e11, e12, e15, e16])) fun F45 => ?_
                        refine lnp F45 rfl HCC rfl (by omega) (want_not F45 rfl (e := 179) rfl (by omega) (show _ = undef from by simp [upd, e1, e5, e11, e12, e15, e16])) fun F46 => ?_
                        refine lnp F46 rfl HCC rfl (by omega) (want_not F46 rfl (e := 179) rfl (by omega) (show _ = undef from by simp [upd, e1, e5, e11, e12, e15, e16])) fun F47 => ?_
                        refine lnp F47 rfl HCC rfl (by omega) (want_not F47 rfl (e := 179) rfl (by omega) (show _ = undef from by simp [upd, e1, e5, e11, e12, e15, e16])) fun F48 => ?_
                        refine lnp F48 rfl HCC rfl (by omega) (want_not F48 rfl (e := 187) rfl (by omega) (show _ = undef from by simp [upd, e1, e5, e11, e12, e15, e16])) fun F49 => ?_
                        refine lnp F49 rfl HCC rfl (by omega) (want_not F49 rfl (e := 187) rfl (by omega) (show _ = undef from by simp [upd, e1, e5, e11, e12, e15, e16])) fun F50 => ?_
                        refine lnp F50 rfl HCC rfl (by omega) (want_not F50 rfl (e := 187) rfl (by omega) (show _ = undef from by simp [upd, e1, e5, e11, e12, e15, e16])) fun F51 => ?_
                        refine lnp F51 rfl HCC rfl (by omega) (want_not F51 rfl (e := 179) rfl (by omega) (show _ = undef from by simp [upd, e1, e5, e11, e12, e15, e16])) fun F52 => ?_
                        refine lnp F52 rfl HCC rfl (by omega) (want_no F52 rfl (e := 171) rfl (by omega) (show _ = Value.bool false from by simp [upd, e1, e5, e11, e12, e15, e16]) (by decide)) fun F53 => ?_
                        refine lyp F53 rfl HCC rfl (by omega) (want_yes F53 rfl (e := 160) rfl (by omega) (show _ = Value.bool false from by simp [upd, e1, e5, e11, e12, e15, e16])) (v := Value.bool false) (fun wr hwr => by simp only [execOp, (F53.eval 171 (by omega)).trans (show _ = Value.bool false from by simp [upd, e1, e5, e11, e12, e15, e16])]; simp [go_sem, Act.eval]) fun F54 => ?_
                        refine lyp F54 rfl HCC rfl (by omega) (wanted_none rfl) (v := Value.bool false) (fun wr hwr => by simp only [execOp, (F54.eval 160 (by omega)).trans (show _ = Value.bool false from by simp [upd, e1, e5, e11, e12, e15, e16]), (F54.eval 193 (by omega)).trans (show _ = Value.bool false from by simp [upd, e1, e5, e11, e12, e15, e16])]; simp [go_sem, Act.eval]) fun F55 => ?_
                        refine ⟨fun _ => HCC, ?_⟩
                        refine hK _ _ ?_
                        clear F0 F1 F2 F3 F4 F5 F6 F7 F8 F9 F10 F11 F12 F13 F14 F15 F16 F17 F18 F19 F20 F21 F22 F23 F24 F25 F26 F27 F28 F29 F30 F31 F32 F33 F34 F35 F36 F37 F38 F39 F40 F41 F42 F43 F44 F45 F46 F47 F48 F49 F50 F51 F52 F53 F54 F55 e1 e5 e11 e12 e15 e16 HCC
                        simp only [Act.put, List.setIfInBounds_toArray, List.set_cons_succ, List.set_cons_zero]
                        generalize hY : (({ wr with drawn := wr.drawn + 1 } : World)) = Y
                        have hY2 : Y = X0.drewN (q + 1) := by rw [← hY, HWQ.out]; rfl
                        have HY : Hid _ := hY2
                        clear hY hY2 HWQ cyi cyj cpi cpj cmi cmj cri crj
                        go_wp2
                        go_roundw
                        case rel => exact ⟨j + 1, q + 1, by omega, by go_num, HY.out⟩
                        case measure => simp [intOf]; omega
                  · clear HW
                    obtain rfl : m = j := by omega
                    have HWQ : Hid _ := hwq
                    clear hwq
                    go_wp2
                    go_roundw
                    case rel => exact ⟨i + 1, q, by omega, by go_num, HWQ.out⟩
                    case measure => simp [intOf]; omega
              · subst hwq0
                have HBL : Hid _ := below_drewN HW.out.below q0
                clear HW
                go_wp2
                go_ret
                exact ⟨rfl, HBL.out⟩
end Go.Proofs.Ytoemddibojpkpaa
