import Derived.Test.YtmnihombiabkgaaOn0
import Derived.Deep.CutRange
namespace Go.Proofs.Ytmnihombiabkgaa
open Go.RowKit Go.PlainAid Go.MapKept
set_option linter.unusedVariables false
set_option linter.unusedSimpArgs false
def zeros (n : Nat) : Array Value := madeCells (Value.int .i64 0).cells (n * 1)
theorem zeros_list (n : Nat) : (zeros n).toList = (List.replicate n (0 : Int)).map I := by
  apply List.ext_getElem?
  intro j
  simp only [zeros, madeCells, Nat.mul_one]
  by_cases h : j < n
  · simp [h, Value.cells, I, Nat.mod_one]
  · simp [h]
theorem make_run (n : Nat) (hn : n * 8 ≤ 140737488355328) (w : World) : (Instr.makeSlice 22 (.int .i64 (n : Int)) (.int .i64 (n : Int))).run Try.prog w = .ok (.slice (some ⟨w.heap.size, 0, none⟩) n n) (w.alloc (.cells (zeros n) 3)) := by
  obtain ⟨i0, hi, hz0, hz1, hz2⟩ := info_parts info3
  have hr := run_make (P := Try.prog) w 22 3 i0 _ Try.underlying22 hi hz0 .i64 .i64 n n (by omega) (Int.le_refl _) (by rw [hz2]; omega) (by omega)
  simp only [Int.toNat_natCast] at hr
  rw [hz1] at hr
  exact hr
theorem make_own (n : Nat) (hn : n * 8 ≤ 140737488355328) (w : World) {base : Nat} (hb : base ≤ w.heap.size) : (w.alloc (.cells (zeros n) 3)).ownsRow base 3 1 (.slice (some ⟨w.heap.size, 0, none⟩) n n) n ((List.replicate n (0 : Int)).map I) := by
  have := World.ownsRow_lit (e := 3) (size := 1) w (zeros n) n hb (by unfold maxLen; omega) (by simp [zeros, madeCells])
  rwa [zeros_list] at this
/-- What List answers where nothing is left. -/
def ListNil : Prop := ∀ {base whb mp : Nat} {u now last : Int} {vs : List Value} (w : World), WL base whb mp u vs now last [] [] w → (1 ≤ u ∧ u ≤ 64) →
    Calls Try.prog 16 #[.pointer (some ⟨whb, 0, none⟩)] w fun e w' => ∃ ao cap, e = .returned (.slice ao 0 cap) ∧ Below w.heap.size w w'
def ORel (L whb mp gd N : Nat) (u : Int) (W : World) (m : Nat) (mst : Int) (top : Int) (wr : World) : Prop := ∃ D vs now, OS L whb mp gd N N u W m mst D vs now wr ∧ now ≤ top
def nowAt (whb : Nat) (wr : World) : Nat := match wr.cell? ⟨whb, 66, none⟩ with
  | some v => (intOf v).toNat
  | none => 0
set_option maxRecDepth 100000 in
set_option maxHeartbeats 12800000 in
theorem once_law0 (HLIST : ListNil) (z : Int) (hz : -9223372036854775808 ≤ z ∧ z ≤ 9223372036854775807) (ao1 ao2 : Option Addr) (n1 n2 c1 c2 : Nat) (zs1 zs2 : List Int) (W : World) (hl1 : zs1.length = n1) (hl2 : zs2.length = n2) (hf1 : FromI W ao1 zs1) (hf2 : FromI W ao2 zs2) (hn1 : n1 * 8 ≤ 140737488355328) (hn2 : n2 * 8 ≤ 140737488355328) :
    Calls Try.prog 3 #[.int .i64 z, .slice ao1 n1 c1, .slice ao2 n2 c2] W fun r w' => r = .returned (.bool true) ∧ Below W.heap.size W w' := by
  have HLN : Hid ListNil := HLIST
  have HF1 : Hid (FromI W ao1 zs1) := hf1
  have HF2 : Hid (FromI W ao2 zs2) := hf2
  have HL1 : Hid (zs1.length = n1) := hl1
  have HL2 : Hid (zs2.length = n2) := hl2
  have HWI : Hid _ := within_any z W hz
  clear HLIST hf1 hf2 hl1 hl2 hz
  go_enter Try.func3, Try.ntmps3
  go_wp2_with fail
  refine Calls.mono HWI.out ?_
  rintro e w1 ⟨⟨u, rfl, hu1, hu2⟩, hw1⟩
  replace hw1 := hw1.symm
  subst hw1
  have HNEW : Hid _ := new_any u W ⟨hu1, hu2⟩
  clear HWI
  go_wp2_with fail
  refine Calls.mono HNEW.out ?_
  rintro e w2 ⟨rfl, hW2, hb2⟩
  have HW2 : Hid _ := hW2
  have HB2 : Hid (Below W.heap.size W w2) := hb2
  have HAB : Hid _ := able_any w2
  clear HNEW hW2 hb2
  go_wp2_with fail
  refine Calls.mono HAB.out ?_
  rintro e w3 ⟨rfl, hb3⟩
  have HW3 : Hid _ := HW2.out.more hb3
  have HB3 : Hid (Below W.heap.size W w3) := show Below W.heap.size W w3 from HB2.out.trans (hb3.mono HB2.out.size)
  clear HAB hb3 HW2 HB2
  go_upto_if 36 with fail
  go_cut [9] from 17 to 139 (fun s9 wc => wc = w3 ∧ ∃ n : Nat, n ≤ 60 ∧ n ≤ n1 ∧ s9 = .int .i64 (n : Int))
  case first =>
    by_cases h60 : (60 : Int) < (n1 : Int)
    · go_wp2_with fail
      go_meet
      case rel => exact ⟨rfl, 60, Nat.le_refl _, by omega, rfl⟩
    · go_wp2_with fail
      go_meet
      case rel => exact ⟨rfl, n1, by omega, Nat.le_refl _, rfl⟩
  case rest =>
    obtain ⟨hwc, n, hn60, hnn, rfl⟩ := hcut
    replace hwc := hwc.symm
    subst hwc
    have hmk := make_run (n + 1) (by omega) w3
    have hkn : ((n + 1 : Nat) : Int) = (n : Int) + 1 := by omega
    rw [hkn] at hmk
    have hown := make_own (n + 1) (by omega) w3 HB3.out.size
    obtain ⟨L, hL⟩ : ∃ L, L = W.heap.size := ⟨_, rfl⟩
    obtain ⟨gd, hgd⟩ : ∃ gd, gd = w3.heap.size := ⟨_, rfl⟩
    have hOS : OS L (L + 1) L gd (n + 1) (n + 1) u W 0 0 (List.replicate (n + 1) (0 : Int)) nil64 0 (w3.alloc (.cells (zeros (n + 1)) 3)) := by
      rw [hL, hgd]
      refine ⟨HW3.out.more (Below.alloc (Below.refl _ _) (Nat.le_refl _) _), WB.new ⟨hu1, hu2⟩, hown, fun hk => ?_, ?_, ⟨by omega, by omega⟩, ?_, ?_⟩
      · have := HW3.out.lt hk; omega
      · intro i d hd
        have := List.eq_of_mem_replicate (List.mem_of_getElem? hd)
        omega
      · exact HB3.out.alloc HB3.out.size _
      · have := HB3.out.size
        rw [World.size_alloc]; omega
    rw [← hL]
    have HR0 : Hid (ORel L (L + 1) L gd (n + 1) u W 0 0 0 (w3.alloc (.cells (zeros (n + 1)) 3))) := ⟨_, _, _, hOS, Int.le_refl _⟩
    have HLW : Hid (L = W.heap.size) := hL
    clear hOS hown HW3 HB3
    go_wp2_with fail
    rw [← hgd]
    generalize w3.alloc (.cells (zeros (n + 1)) 3) = X3 at *
    clear hmk hgd hL hkn
    go_loopw [11, 12, 13, 14, 15] (fun s11 s12 _ _ _ wr => ∃ (m : Nat) (mst : Int), m ≤ n ∧ s12 = .int .i64 (m : Int) ∧ s11 = .int .i64 mst ∧ ORel L (L + 1) L gd (n + 1) u W m mst m wr) (fun _ s12 _ _ _ _ => n - (intOf s12).toNat)
    case atStart => exact ⟨0, 0, Nat.zero_le _, rfl, rfl, HR0.out⟩
    case round =>
      clear HR0
      obtain ⟨m, mst, hm, rfl, rfl, hR⟩ := hrel
      by_cases hlt : m < n
      · obtain ⟨D, vs, now, hO, hnow⟩ := hR
        obtain ⟨b, off, hao, hcz⟩ := (HF1.out.below hO.bl (fun b off e => by subst e; rw [HLW.out]; exact HF1.out.lt (by rw [HL1.out]; omega))) (by rw [HL1.out]; omega)
        obtain ⟨x, hx⟩ : ∃ x, zs1[m]? = some x := ⟨zs1[m]'(by rw [HL1.out]; omega), List.getElem?_eq_getElem _⟩
        have hc0 := hcz m x hx
        have ht1 := Int.tmod_lt_of_pos x (show (0 : Int) < 90 by decide)
        have ht2 : -90 < x.tmod 90 := by
          have := Int.tmod_lt_of_pos (-x) (show (0 : Int) < 90 by decide)
          rw [Int.neg_tmod] at this
          omega
        have HAO : Hid (ao1 = some ⟨b, off, none⟩) := hao
        have hw0 := hO.wb.hw
        have HO : Hid _ := hO
        have HARM : Hid _ := arm_any (x.tmod 90) (100 + (m : Int)) m wr hO.wl hO.wb (by omega)
        have hms := hO.ms
        subst hao
        clear hO hcz hx
        go_wp2_with fail
        refine Calls.mono HARM.out ?_
        rintro e w4 ⟨rfl, vs4, hW4, hs4⟩
        have HNOW : Hid _ := now_any w4 hW4
        obtain ⟨hA, hfa, zc, hca⟩ := HO.out.arm (d := x.tmod 90) (by omega) (by omega) (by omega) (by omega) hW4 hs4
        obtain ⟨d, hd⟩ : ∃ d, d = x.tmod 90 := ⟨_, rfl⟩
        rw [← hd] at hA ht1 ht2 ⊢
        have HA : Hid _ := hA
        obtain ⟨dd, hdd⟩ : ∃ dd, dd = now + (if d < 1 then 1 else d) := ⟨_, rfl⟩
        obtain ⟨ms2, hms2⟩ : ∃ ms2, ms2 = if mst < dd then dd else mst := ⟨_, rfl⟩
        have hdm : now + max d 1 = dd := by rw [hdd]; split <;> omega
        have hmm : max mst dd = ms2 := by rw [hms2]; split <;> omega
        rw [hdm, hmm] at hA
        have HA : Hid _ := hA
        have hcd : (w4.setCell ⟨gd, m + 1, none⟩ (.int .i64 dd)).cell? ⟨gd, m + 1, none⟩ = some (.int .i64 dd) := own_getI hA.row (List.getElem?_set_self (by rw [HO.out.len]; omega))
        have hdr : -100 ≤ dd ∧ dd ≤ 200 := by omega
        rw [hdd] at hcd
        have HDD : Hid (dd = now + (if d < 1 then 1 else d)) := hdd
        have HMS : Hid (ms2 = if mst < dd then dd else mst) := hms2
        clear hdm hmm hdd hms2
        clear hW4 hs4 HARM hA hd hc0 HO
        go_wp2_with fail
        refine Calls.mono HNOW.out ?_
        rintro e w5 ⟨rfl, hw5⟩
        replace hw5 := hw5.symm
        subst hw5
        clear HNOW
        go_upto_if 78 with fail
        rw [← HDD.out, ← HMS.out]
        rw [← HDD.out] at hcd
        have HR1 : Hid (ORel L (L + 1) L gd (n + 1) u W (m + 1) ms2 m (w4.setCell ⟨gd, m + 1, none⟩ (.int .i64 dd))) := ⟨_, _, _, HA.out, by omega⟩
        clear HDD HMS HA HAO hfa hca hcd hdr hms ht1 ht2 hw0 hnow
        generalize w4.setCell ⟨gd, m + 1, none⟩ (.int .i64 dd) = X5 at *
        generalize (if d < 1 then (1 : Int) else d) = mx
        go_cut [14, 15] from 40 to 117 (fun _ _ wc => ORel L (L + 1) L gd (n + 1) u W (m + 1) ms2 m wc)
        case first =>
          by_cases h2 : m < n2
          · rw [show decide (m < n2) = true from decide_eq_true h2]
            obtain ⟨D5, vs5, now5, hO5, hnow5⟩ := HR1.out
            obtain ⟨b2, off2, hao2, hcz2⟩ := (HF2.out.below hO5.bl (fun b off e => by subst e; rw [HLW.out]; exact HF2.out.lt (by rw [HL2.out]; omega))) (by rw [HL2.out]; omega)
            obtain ⟨k, hk⟩ : ∃ k, zs2[m]? = some k := ⟨zs2[m]'(by rw [HL2.out]; omega), List.getElem?_eq_getElem _⟩
            have hck := hcz2 m k hk
            have hm1 : ((m + 1 : Nat) : Int) = (m : Int) + 1 := by omega
            subst hao2
            clear hcz2 hk HR1
            by_cases hk1 : k < 1
            · have HCA : Hid _ := cancel_no k X5 hO5.wl (fun t ht => by
                obtain ⟨i, dd, q1, q2, q3, q4, rfl⟩ := tms_mem.1 ht
                show (i : Int) ≠ k
                omega)
              have hk1' : ¬ 1 ≤ k := by omega
              have HO5 : Hid _ := hO5
              clear hO5
              go_wp2_with fail
              all_goals
                refine Calls.mono HCA.out ?_
                rintro e w6 ⟨rfl, hw6⟩
                replace hw6 := hw6.symm
                subst hw6
                clear HCA
                go_wp2_with fail
                go_meet
                case rel => exact ⟨D5, vs5, now5, HO5.out, hnow5⟩
            · by_cases hk2 : (m : Int) + 1 < k
              · have HCA : Hid _ := cancel_no k X5 hO5.wl (fun t ht => by
                  obtain ⟨i, dd, q1, q2, q3, q4, rfl⟩ := tms_mem.1 ht
                  show (i : Int) ≠ k
                  omega)
                have hk1' : 1 ≤ k := by omega
                have hk2' : ¬ k ≤ (m : Int) + 1 := by omega
                have HO5 : Hid _ := hO5
                clear hO5
                go_wp2_with fail
                all_goals
                  refine Calls.mono HCA.out ?_
                  rintro e w6 ⟨rfl, hw6⟩
                  replace hw6 := hw6.symm
                  subst hw6
                  clear HCA
                  go_wp2_with fail
                  go_meet
                  case rel => exact ⟨D5, vs5, now5, HO5.out, hnow5⟩
              · obtain ⟨kk, hkk⟩ : ∃ kk : Nat, k = (kk : Int) := ⟨k.toNat, by omega⟩
                subst hkk
                obtain ⟨dk, hdk⟩ : ∃ dk, D5[kk]? = some dk := ⟨D5[kk]'(by rw [hO5.len]; omega), List.getElem?_eq_getElem _⟩
                have hcd := own_getI hO5.row hdk
                have hbd := hO5.bd kk dk hdk
                have hk1' : (1 : Int) ≤ (kk : Int) := by omega
                have hk2' : (kk : Int) ≤ (m : Int) + 1 := by omega
                have hkN : kk < n + 1 := by omega
                by_cases hd0 : dk = 0
                · subst hd0
                  have HCA : Hid _ := cancel_no (kk : Int) X5 hO5.wl (fun t ht => by
                    obtain ⟨i, dd, q1, q2, q3, q4, rfl⟩ := tms_mem.1 ht
                    show (i : Int) ≠ (kk : Int)
                    intro e
                    obtain rfl : i = kk := by omega
                    rw [hdk] at q3
                    exact q4 (Option.some.inj q3).symm)
                  clear hdk hbd
                  have HO5 : Hid _ := hO5
                  clear hO5
                  go_wp2_with fail
                  all_goals
                    refine Calls.mono HCA.out ?_
                    rintro e w6 ⟨rfl, hw6⟩
                    replace hw6 := hw6.symm
                    subst hw6
                    clear HCA
                    go_wp2_with fail
                    go_meet
                    case rel => exact ⟨D5, vs5, now5, HO5.out, hnow5⟩
                · have hdp : 0 < dk := by omega
                  have HCA : Hid _ := cancel_yes (tmOf kk dk) X5 hO5.wl hO5.wb (tms_mem.2 ⟨kk, dk, by omega, by omega, hdk, hd0, rfl⟩)
                  have HO5 : Hid _ := hO5
                  clear hO5 hdk hbd
                  go_wp2_with fail
                  all_goals
                    refine Calls.mono HCA.out ?_
                    rintro e w6 ⟨rfl, vs6, hW6, hs6⟩
                    obtain ⟨hA6, hf6, zc6, hc6⟩ := HO5.out.cancel hkN hW6 hs6
                    have HA6 : Hid _ := hA6
                    clear hW6 hs6 HCA hA6
                    go_wp2_with fail
                    go_meet
                    case rel => exact ⟨_, vs6, now5, HA6.out, hnow5⟩
          · rw [show decide (m < n2) = false from decide_eq_false h2]
            go_wp2_with fail
            go_meet
            case rel => exact HR1.out
        case rest =>
          clear HR1
          obtain ⟨D6, vs6, now6, hO6, hnow6⟩ := hcut
          have hm1 : ((m + 1 : Nat) : Int) = (m : Int) + 1 := by omega
          by_cases h4 : ((m : Int)).tmod 4 = 3
          · have hct := hO6.came (by omega) (by omega) (by omega)
            rw [hm1] at hct
            have HCT : Hid _ := hct
            clear hct hO6 hm1
            go_wp2_with fail
            refine Calls.mono HCT.out ?_
            rintro e w7 ⟨rfl, vs7, D7, hO7⟩
            have HO7 : Hid _ := hO7
            clear hO7 HCT
            go_wp2_with fail
            go_roundw
            case rel => exact ⟨m + 1, ms2, by omega, by go_num, rfl, D7, vs7, _, HO7.out, by omega⟩
            case measure => simp [intOf]; omega
          · have h4b : (((m : Int)).tmod 4 == 3) = false := by simpa using h4
            have HO6 : Hid _ := hO6
            clear hO6 hm1
            go_wp2_with fail
            go_roundw
            case rel => exact ⟨m + 1, ms2, by omega, by go_num, rfl, D6, vs6, _, HO6.out, by omega⟩
            case measure => simp [intOf]; omega
      · obtain rfl : m = n := by omega
        have HR : Hid _ := hR
        clear hR
        go_wp2_with fail
        go_loopw [16] (fun _ wq => ORel L (L + 1) L gd (m + 1) u W m mst 1000 wq) (fun _ wq => 2000 - nowAt (L + 1) wq)
        case atStart =>
          obtain ⟨D, vs, now, hO, hnow⟩ := HR.out
          exact ⟨D, vs, now, hO, by omega⟩
        case round =>
          clear HR
          obtain ⟨D, vs, now, hO, hnow⟩ := hrel
          have HNOW : Hid _ := now_any wr hO.wl
          have hw0 := hO.wb.hw
          have hms := hO.ms
          have HAT : Hid (nowAt (L + 1) wr = now.toNat) := show nowAt (L + 1) wr = now.toNat from by
            unfold nowAt
            rw [hO.wl.c66]
            simp [intOf]
          by_cases hlt2 : now < mst
          · have hct := hO.came (by omega) (by omega) (by omega)
            have HCT : Hid _ := hct
            clear hct hO
            go_wp2_with fail
            refine Calls.mono HNOW.out ?_
            rintro e w7 ⟨rfl, hw7⟩
            replace hw7 := hw7.symm
            subst hw7
            go_wp2_with fail
            refine Calls.mono HNOW.out ?_
            rintro e w7 ⟨rfl, hw7⟩
            replace hw7 := hw7.symm
            subst hw7
            clear HNOW
            go_wp2_with fail
            refine Calls.mono HCT.out ?_
            rintro e w8 ⟨rfl, vs8, D8, hO8⟩
            have HO8 : Hid _ := hO8
            have HNOW : Hid _ := now_any w8 hO8.wl
            have HAT8 : Hid (nowAt (L + 1) w8 = (now + 1).toNat) := show nowAt (L + 1) w8 = (now + 1).toNat from by
              unfold nowAt
              rw [hO8.wl.c66]
              simp [intOf]
            clear hO8 HCT
            go_wp2_with fail
            refine Calls.mono HNOW.out ?_
            rintro e w9 ⟨rfl, hw9⟩
            replace hw9 := hw9.symm
            subst hw9
            clear HNOW
            go_wp2_with fail
            go_roundw
            case rel => exact ⟨D8, vs8, _, HO8.out, by omega⟩
            case measure => rw [HAT.out, HAT8.out]; omega
          · have hrs := hO.rest (by omega)
            have hwl := hO.wl
            rw [hrs] at hwl
            have HLI : Hid _ := HLN.out wr hwl ⟨hu1, hu2⟩
            have HBL : Hid _ := hO.bl
            have HLO : Hid _ := hO.lo
            clear hO hwl hrs
            go_wp2_with fail
            refine Calls.mono HNOW.out ?_
            rintro e w7 ⟨rfl, hw7⟩
            replace hw7 := hw7.symm
            subst hw7
            go_wp2_with fail
            refine Calls.mono HLI.out ?_
            rintro e w8 ⟨ao, cap, rfl, hb8⟩
            have HB8 : Hid (Below W.heap.size W w8) := show Below W.heap.size W w8 from by rw [← HLW.out]; exact HBL.out.trans (hb8.mono HLO.out)
            clear hb8 HLI
            go_wp2_with fail
            go_ret
            exact ⟨rfl, HB8.out⟩
end Go.Proofs.Ytmnihombiabkgaa
