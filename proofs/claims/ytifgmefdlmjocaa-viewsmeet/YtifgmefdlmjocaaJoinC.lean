import Derived.Test.YtifgmefdlmjocaaJoinB
import Derived.Deep.CutBlock
import Derived.Deep.CutRange
import Derived.Test.YtifgmefdlmjocaaArgs
import Derived.Test.YtifgmefdlmjocaaOrd
import Derived.Test.YtifgmefdlmjocaaLt4
namespace Go.Proofs.Ytifgmefdlmjocaa
open Go.RowKit Go.PlainAid Go.MapKept
set_option linter.unusedVariables false
set_option linter.unusedSimpArgs false
theorem info44a : (Try.prog.info? 44).map (fun i => (i.zero, i.size, i.bytes)) = some (some (.agg #[.int .i64 0, .int .i64 0]), 2, 16) := by kernel_rfl
theorem flatR_app (a : List (Int × Int)) (p : Int × Int) : flatR (a ++ [p]) = flatR a ++ [.int .i64 p.1, .int .i64 p.2] := by simp [flatR, I]
set_option maxRecDepth 100000 in
set_option maxHeartbeats 6400000 in
theorem viewsMeet_law (z : Int) (hz : i64 z) (ao1 : Option Addr) (N1 cap1 : Nat) (ss1 : List SayA) (W : World) (hl1 : ss1.length = N1) (hm1 : N1 ≤ maxLen)
    (hat1 : 0 < N1 → ∃ b off, ao1 = some ⟨b, off, none⟩ ∧ ∀ (i : Nat) (s : SayA), ss1[i]? = some s → SayAt W b (off + i * 7) s ∧ (i64 s.w ∧ i64 s.k ∧ i64 s.a)) :
    Calls Try.prog 3 #[.int .i64 z, .slice ao1 N1 cap1] W fun e w' => e = .returned (.bool true) ∧ Below W.heap.size W w' := by
  have i1 := wx_in z 7 (by decide)
  obtain ⟨n, hn⟩ : ∃ n : Nat, 2 + wx z 7 = n := ⟨(2 + wx z 7).toNat, by omega⟩
  have HW : Hid (∀ w, Calls Try.prog 10 #[.int .i64 z, .int .i64 2, .int .i64 8] w fun e w' => e = .returned (.int .i64 (n : Int)) ∧ w' = w) := fun w => by
    have := within_any z 2 8 w hz.1 hz.2 (by decide) (by decide) (by decide)
    rw [show (2 : Int) + wx z (8 - 2 + 1) = n from hn] at this
    exact this
  have hn2 : 2 ≤ n ∧ n ≤ 8 := by omega
  have hx1 : N1 ≤ 9223372036854775807 := by unfold maxLen at hm1; omega
  have HAL : Hid (∀ w, _) := fun w => alive_any w
  have HBG : Hid (∀ w, _) := fun w => begun_any n w hn2
  have HL1 : Hid _ := hl1
  have HA1 : Hid _ := hat1
  have HN : Hid (2 ≤ n ∧ n ≤ 8) := hn2
  have HNM : Hid (∀ W, Calls Try.prog 16 #[] W fun e w' => e = .returned (.agg #[.string ⟨#[97]⟩, .string ⟨#[98]⟩, .string ⟨#[98, 98]⟩, .string ⟨#[126]⟩]) ∧ Below W.heap.size W w') := names_any
  clear hn i1 hn2 hl1 hat1 hm1 hz
  go_enter Try.func3, Try.ntmps3
  go_wp2_with fail
  refine Calls.mono (HAL.out _) ?_
  rintro e w1 ⟨rfl, hb1⟩
  have HB1 : Hid _ := hb1
  clear hb1 HAL
  go_wp2_with fail
  refine Calls.mono (HW.out _) ?_
  rintro e w' ⟨rfl, hw'⟩
  replace hw' := hw'.symm
  subst hw'
  go_wp2_with fail
  refine Calls.mono (HBG.out _) ?_
  rintro e w2 ⟨tb, ps, rfl, htb, hBG⟩
  obtain ⟨vr, vc, hb, mb, hTK⟩ := bg_tg hBG HN.out htb
  have HR0 : Hid (RelM w1.heap.size tb vr vc n hb mb W 0 w2) := RelM.start hTK (HB1.out.trans (hBG.bel.mono HB1.out.size))
  obtain ⟨L, hLe⟩ : ∃ L, L = w1.heap.size := ⟨_, rfl⟩
  rw [← hLe] at HR0
  have HLW : Hid (W.heap.size ≤ L) := show W.heap.size ≤ L from by rw [hLe]; exact HB1.out.size
  clear hTK hBG htb hLe HB1 HBG HW
  go_upto_block 0 with fail
  go_cut [8] from 34 to 50 (fun _ wc => ∃ q : Nat, q ≤ 200 ∧ RelM L tb vr vc n hb mb W q wc)
  case first =>
    go_wp2_with fail
    go_loopw [8] (fun i wr => ∃ q : Nat, q ≤ 200 ∧ i = .int .i64 q ∧ RelM L tb vr vc n hb mb W q wr) (fun i _ => 200 - (intOf i).toNat)
    case atStart => exact ⟨0, by decide, rfl, HR0.out⟩
    case round =>
      obtain ⟨q, hq, rfl, hR⟩ := hrel
      by_cases hlt : q < N1
      · by_cases h200 : q < 200
        · obtain ⟨s, hs⟩ : ∃ s, ss1[q]? = some s := ⟨ss1[q]'(by rw [HL1.out]; exact hlt), List.getElem?_eq_getElem _⟩
          obtain ⟨b, off, rfl, hc⟩ := HA1.out (by omega)
          have hbel : Below W.heap.size W wr := by
            obtain ⟨_, _, _, _, _, _, h9⟩ := hR
            exact h9
          have hbw := World.block_lt_of_cell? W _ (hc q s hs).1.c0
          obtain ⟨d0, d1, d2, d3, d4, d5, d6, rg⟩ := (hc q s hs).1.keep (hbel.block b hbw)
          have HST : Hid _ := step_relM s hR HLW.out HN.out (by omega) rg (hc q s hs).2
          clear hR hbel rg hs hc hbw HR0
          go_wp2_with fail
          refine Calls.mono HST.out ?_
          rintro e w5 ⟨rfl, hN5⟩
          have HN5 : Hid _ := hN5
          clear hN5 HST
          go_wp2_with fail
          go_roundw
          case rel => exact ⟨q + 1, by omega, by go_num, HN5.out⟩
          case measure => simp [intOf]; omega
        · have HR : Hid _ := hR
          clear hR
          go_wp2_with fail
          go_meet
          case rel => exact ⟨q, hq, HR.out⟩
      · have HR : Hid _ := hR
        clear hR
        go_wp2_with fail
        go_meet
        case rel => exact ⟨q, hq, HR.out⟩
  case rest =>
    obtain ⟨q, hq, LV, hv, Hs, sv, ls, hS, hbel⟩ := hcut
    have HE0 : Hid (EndM L tb vr vc n hb mb hv Hs sv ls W q 0 0 wc) := ⟨LV, hS, hbel, fun r u _ _ h => by omega⟩
    clear hS hbel HR0 HL1 HA1
    have hnn : n ≤ 8 := HN.out.2
    go_wp2_with fail
    go_loopw [9] (fun s wr => ∃ p K : Nat, p ≤ n ∧ K ≤ 200 + p * n ∧ s = .int .i64 p ∧ EndM L tb vr vc n hb mb hv Hs sv ls W K p 0 wr) (fun s _ => n - (intOf s).toNat)
    case atStart => exact ⟨0, q, by omega, by omega, rfl, HE0.out⟩
    case round =>
      obtain ⟨p, K, hp, hK, rfl, hE⟩ := hrel
      have HE : Hid (EndM L tb vr vc n hb mb hv Hs sv ls W K p 0 wr) := hE
      clear hE HE0
      by_cases hpn : p < n
      · go_wp2_with fail
        go_loopw [10] (fun s wr => ∃ u K2 : Nat, u ≤ n ∧ K2 ≤ 200 + p * n + u ∧ s = .int .i64 u ∧ EndM L tb vr vc n hb mb hv Hs sv ls W K2 p u wr) (fun s _ => n - (intOf s).toNat)
        case atStart => exact ⟨0, K, by omega, by omega, rfl, HE.out⟩
        case round =>
          obtain ⟨u, K2, hu, hK2, rfl, hE2⟩ := hrel
          have HE2 : Hid (EndM L tb vr vc n hb mb hv Hs sv ls W K2 p u wr) := hE2
          clear hE2 HE
          by_cases hun : u < n
          · by_cases hup : u = p
            · subst hup
              have hne : (((u : Nat) : Int) == (u : Int)) = true := by simp
              have HE3 : Hid (EndM L tb vr vc n hb mb hv Hs sv ls W (K2 + 1) u (u + 1) wr) := HE2.out.self hun
              go_wp2_with fail
              go_roundw
              case rel => exact ⟨u + 1, K2 + 1, by omega, by omega, by go_num, HE3.out⟩
              case measure => simp [intOf]; omega
            · have hne : (((u : Nat) : Int) == (p : Int)) = false := by rw [beq_eq_false_iff_ne]; omega
              have hK9 : K2 ≤ 1000 := by
                have := HN.out
                have : p * n ≤ 8 * 8 := Nat.mul_le_mul (by omega) (by omega)
                omega
              have HCO : Hid _ := HE2.out.comes HN.out hK9 HLW.out hpn hun hup
              obtain ⟨tc0, tcr⟩ : wr.cell? ⟨tb, 0, none⟩ = some (.slice (some ⟨vr, 0, none⟩) n vc) ∧ wr.cell? ⟨vr, u, none⟩ = some (.pointer (some ⟨hb u, 0, none⟩)) := by
                obtain ⟨LV, h1, _⟩ := HE2.out
                exact ⟨(h1.tg.cellr hun).1, (h1.tg.cellr hun).2.1⟩
              go_wp2_with fail
              refine Calls.mono HCO.out ?_
              rintro e9 w8 ⟨da, dl, dc, rfl, hC13⟩
              have HC13 : Hid _ := hC13
              clear hC13 HCO tc0 tcr
              go_wp2_with fail
              refine Calls.mono HC13.out ?_
              rintro e9 w9 ⟨rfl, hE9⟩
              have HE9 : Hid (EndM L tb vr vc n hb mb hv Hs sv ls W (K2 + 1) p (u + 1) w9) := hE9
              clear hE9 HC13
              go_wp2_with fail
              go_roundw
              case rel => exact ⟨u + 1, K2 + 1, by omega, by omega, by go_num, HE9.out⟩
              case measure => simp [intOf]; omega
          · obtain rfl : u = n := by omega
            go_wp2_with fail
            go_roundw
            case rel => exact ⟨p + 1, K2, by omega, by rw [Nat.succ_mul]; omega, by go_num, HE2.out.row⟩
            case measure => simp [intOf]; omega
      · obtain rfl : p = n := by omega
        obtain ⟨LV2, hS2, hbel2, hme⟩ := HE.out
        obtain ⟨wE, hwE⟩ : ∃ wE, wE = wr := ⟨_, rfl⟩
        have HSE : Hid (MS L tb vr vc p K hb mb LV2 hv Hs sv ls wE) := hwE ▸ hS2
        have HBE : Hid (Below W.heap.size W wE) := hwE ▸ hbel2
        have HME : Hid (∀ r u, r < p → u < p → Meets LV2 Hs r u) := fun r u hr hu => hme r u hr hu (Or.inl hr)
        have hn8 : p ≤ 8 := HN.out.2
        have HAB : Hid (∀ k, k < 4 → ∀ r, r < p → ∀ W, TG L tb vr vc p hb mb LV2 hv Hs sv W → Calls Try.prog 15 #[.pointer (some ⟨hb r, 0, none⟩), .string ⟨(nm4 k).toArray⟩] W fun e w' => e = .returned (.tuple #[.int .i64 (sumM Hs k p), .bool (isM Hs k p)]) ∧ Below W.heap.size W w') := fun k hk r hr W hT => by
          have h1 := about_any (N := p) (nm4 k) W (hT.vs r hr) (by omega) (fun e he => by
            obtain ⟨u, j, hu, hj, hi⟩ := HSE.out.mi.at' r hr e he
            have := (HSE.out.mi.facts hu hj hi).2.2.2.2.2.2.1
            omega)
          obtain ⟨a1, a2⟩ := meet_about (n := p) hk p (Nat.le_refl _) (fun u hu => HME.out r u hr hu)
          rw [a1, a2] at h1
          exact h1
        have HKN : Hid (∀ k, k < 4 → ∀ r, r < p → ∀ W, TG L tb vr vc p hb mb LV2 hv Hs sv W → Calls Try.prog 17 #[.pointer (some ⟨hb r, 0, none⟩), .string ⟨(nm4 k).toArray⟩] W fun e w' => ∃ g, e = .returned (.slice (some ⟨g, 0, none⟩) p p) ∧ Blk w' g (flatR (lstM Hs k p)).toArray 44 ∧ Below W.heap.size W w') := fun k hk r hr W hT => by
          have h1 := known_any (N := p) (nm4 k) W (hT.vs r hr) (by omega)
          rw [meet_known hk (fun u hu => HME.out r u hr hu)] at h1
          refine h1.mono ?_
          rintro e w' ⟨g, a, _, b, c⟩
          exact ⟨g, a, b, c⟩
        have hKK : K ≤ 1000 := by
          have : p * p ≤ 8 * 8 := Nat.mul_le_mul hn8 hn8
          omega
        clear hS2 hbel2 hme HE hp hK
        subst hwE
        go_wp2_with fail
        go_loopw [11] (fun s wr2 => ∃ k : Nat, k ≤ 4 ∧ s = .int .i64 k ∧ Below wE.heap.size wE wr2) (fun s _ => 4 - (intOf s).toNat)
        case atStart => exact ⟨0, by omega, rfl, Below.refl _ _⟩
        case round =>
          obtain ⟨k, hk, rfl, hbk⟩ := hrel
          have HBK : Hid (Below wE.heap.size wE wr) := hbk
          clear hbk
          by_cases hk4 : k < 4
          · obtain ⟨wK, hwK⟩ : ∃ wK, wK = wr := ⟨_, rfl⟩
            have HSK : Hid (MS L tb vr vc p K hb mb LV2 hv Hs sv ls wK) := hwK ▸ HSE.out.more HBK.out
            have HKK : Hid (Below wE.heap.size wE wK) := hwK ▸ HBK.out
            subst hwK
            have HABk : Hid _ := HAB.out k hk4
            have HKNk : Hid _ := HKN.out k hk4
            clear HBK
            go_wp2_with fail
            go_loopw [12, 13, 14, 15] (fun s12 s13 s14 s15 wr3 => ∃ (u : Nat) (lv : Value), lv = s14 ∧ u ≤ p ∧ s12 = .int .i64 (sumM Hs k u) ∧ s13 = .bool (isM Hs k u) ∧ s15 = .int .i64 u ∧ wr3.ownsRow wK.heap.size 44 2 lv u (flatR (lstM Hs k u)) ∧ Below wK.heap.size wK wr3) (fun _ _ _ s _ => p - (intOf s).toNat)
            case atStart => exact ⟨0, _, rfl, by omega, rfl, rfl, rfl, World.ownsRow_nil _ _ _ _, Below.refl _ _⟩
            case round =>
              obtain ⟨u, lv, rfl, hu, rfl, rfl, rfl, hlo, hb3⟩ := hrel
              obtain ⟨la, lc, hlv, _⟩ := own_slice hlo
              subst hlv
              have HLO : Hid (wr.ownsRow wK.heap.size 44 2 (.slice la u lc) u (flatR (lstM Hs k u))) := hlo
              have HB3 : Hid (Below wK.heap.size wK wr) := hb3
              have HTW : Hid (TG L tb vr vc p hb mb LV2 hv Hs sv wr) := HSK.out.tg.more hb3
              clear hlo hb3
              by_cases hun : u < p
              · have tcq := (HTW.out.cellr hun).2.2 (u * 4 + k) (by omega)
                have HRW : Hid (wr.ownsRow L 46 7 (hv (u * 4 + k)) (Hs (u * 4 + k)).length (flatV (Hs (u * 4 + k)))) := HTW.out.rows (u * 4 + k) (by omega)
                obtain ⟨ha, hcp, hhv, _⟩ := own_slice HRW.out
                have HRF : Hid (wr.ownsRow L 46 7 (.slice ha (Hs (u * 4 + k)).length hcp) (Hs (u * 4 + k)).length (flatV (Hs (u * 4 + k)))) := show wr.ownsRow L 46 7 (.slice ha (Hs (u * 4 + k)).length hcp) (Hs (u * 4 + k)).length (flatV (Hs (u * 4 + k))) from by rw [← hhv]; exact HRW.out
                rw [hhv, ← Nat.add_assoc] at tcq
                have hi8 : ¬ (8 : Int) ≤ (u : Int) := by omega
                have hi4 : ¬ (4 : Int) ≤ (k : Int) := by omega
                have hsm := HSE.out.mi.sum_le hk4 u (by omega)
                have hld := HSE.out.mi.lastE_d hk4 hun
                have HSS : Hid (sumM Hs k (u + 1) = sumM Hs k u + (lastE Hs k u).d) := rfl
                have HLS : Hid (lstM Hs k (u + 1) = lstM Hs k u ++ [((lastE Hs k u).d, (lastE Hs k u).u)]) := lstM_succ Hs k u
                have hHl : (Hs (u * 4 + k)).length ≤ 1000 := Nat.le_trans (HSE.out.mi.len _) hKK
                clear HRW hhv
                by_cases h0 : (Hs (u * 4 + k)).length = 0
                · have hlast : lastH Hs u k = none := by unfold lastH; rw [List.length_eq_zero_iff.1 h0]; rfl
                  have hle : lastE Hs k u = zed := by unfold lastE; rw [hlast]; rfl
                  have HIS : Hid (isM Hs k (u + 1) = isM Hs k u) := show (isM Hs k u || (lastH Hs u k).isSome) = isM Hs k u from by rw [hlast]; simp
                  rw [h0] at tcq
                  rw [hle] at HSS HLS
                  obtain ⟨X, hX⟩ : ∃ X, X = wr.alloc (.cells #[.int .i64 0, .int .i64 0] 44) := ⟨_, rfl⟩
                  obtain ⟨bx, hbx⟩ : ∃ bx, bx = wr.heap.size := ⟨_, rfl⟩
                  have hBX : Blk X bx #[.int .i64 0, .int .i64 0] 44 := by rw [hX, hbx]; exact heap_alloc_new wr _
                  have hbX : Below wr.heap.size wr X := by rw [hX]; exact (Below.refl _ _).alloc (Nat.le_refl _) _
                  have hLX : X.ownsRow wK.heap.size 44 2 (.slice la u lc) u (flatR (lstM Hs k u)) := ownsRow_same HLO.out (fun g hg => hbX.block g (ownsRow_lt HLO.out hg).2)
                  obtain ⟨v5', w5, hrun, ho5, hg5⟩ := app_one 42 44 (.agg #[.int .i64 0, .int .i64 0]) 2 16 Try.underlying42 info44a rfl (by decide) (by decide) hLX #[.int .i64 0, .int .i64 0] rfl (fun z hz => by simp at hz; rcases hz with rfl | rfl <;> rfl) (by omega) (Nat.le_trans HB3.out.size hbX.size)
                  have HRU : Hid _ := hrun
                  have HLN : Hid (w5.ownsRow wK.heap.size 44 2 v5' (u + 1) (flatR (lstM Hs k (u + 1)))) := show w5.ownsRow wK.heap.size 44 2 v5' (u + 1) (flatR (lstM Hs k (u + 1))) from by rw [HLS.out, flatR_app]; exact ho5
                  have HBN : Hid (Below wK.heap.size wK w5) := HB3.out.trans ((hbX.mono HB3.out.size).trans (hg5.chg.below (Nat.le_trans HB3.out.size hbX.size) (fun g hg => (ownsRow_lt hLX hg).1)))
                  have x0 : X.cell? ⟨bx, 0, none⟩ = some (.int .i64 0) := hBX.cell 0
                  have x1 : X.cell? ⟨bx, 1, none⟩ = some (.int .i64 0) := hBX.cell 1
                  have hws : IntKind.i64.wrap (sumM Hs k u + 0) = sumM Hs k u + 0 := by rw [IntKind.wrap_i64]; omega
                  clear hrun ho5 hg5 hLX
                  clear h0 hlast hle hBX hbX
                  go_upto_region 30 with fail
                  rw [← hX, ← hbx]
                  clear hX hbx
                  go_wp2_with (at_builtin; refine wpList_runs rfl _ _ 42 rfl rfl rfl HRU.out ?_)
                  go_roundw
                  case rel => exact ⟨_, _, _, _, ⟨u + 1, by omega, rfl, rfl, rfl, HLN.out, HBN.out⟩, by rw [HSS.out]; simp [zed], by rw [HIS.out], rfl, by go_num⟩
                  case measure => simp [intOf]; omega
                · obtain ⟨x, hx⟩ : ∃ x, (Hs (u * 4 + k))[(Hs (u * 4 + k)).length - 1]? = some x := ⟨_, List.getElem?_eq_getElem (by omega)⟩
                  have hlast : lastH Hs u k = some (reR u x) := by unfold lastH; rw [List.getLast?_eq_getElem?, hx]; rfl
                  have hle : lastE Hs k u = reR u x := by unfold lastE; rw [hlast]; rfl
                  have HIS : Hid (isM Hs k (u + 1) = true) := show (isM Hs k u || (lastH Hs u k).isSome) = true from by rw [hlast]; simp
                  rw [hle] at HSS HLS hld
                  have HSS : Hid (sumM Hs k (u + 1) = sumM Hs k u + x.d) := HSS.out
                  have HLS : Hid (lstM Hs k (u + 1) = lstM Hs k u ++ [(x.d, x.u)]) := HLS.out
                  have hld : (0 ≤ x.d ∧ x.d < 31) ∧ 0 ≤ x.u ∧ x.u < 31 := hld
                  obtain ⟨hg, hgo, hha, hhf⟩ := own_from_row HRF.out (by omega)
                  subst hha
                  obtain ⟨hm, hhm⟩ : ∃ hm, (Hs (u * 4 + k)).length = hm + 1 := ⟨(Hs (u * 4 + k)).length - 1, by omega⟩
                  have HVH := hhf _ _ hx
                  rw [hhm, Nat.add_sub_cancel] at HVH
                  rw [hhm] at tcq
                  obtain ⟨W0, hW0⟩ : ∃ W0, W0 = wr.alloc (.cells #[.int .i64 0, .int .i64 0] 44) := ⟨_, rfl⟩
                  obtain ⟨bx, hbx⟩ : ∃ bx, bx = wr.heap.size := ⟨_, rfl⟩
                  have hBW : Blk W0 bx #[.int .i64 0, .int .i64 0] 44 := by rw [hW0, hbx]; exact heap_alloc_new wr _
                  have hbW : Below wr.heap.size wr W0 := by rw [hW0]; exact (Below.refl _ _).alloc (Nat.le_refl _) _
                  obtain ⟨X, hX⟩ : ∃ X, X = (W0.setCell ⟨bx, 0, none⟩ (.int .i64 x.d)).setCell ⟨bx, 1, none⟩ (.int .i64 x.u) := ⟨_, rfl⟩
                  have hBX : Blk X bx #[.int .i64 x.d, .int .i64 x.u] 44 := by rw [hX]; exact (hBW.set 0 (.int .i64 x.d)).set 1 (.int .i64 x.u)
                  have hbX : Below wr.heap.size wr X := by rw [hX]; exact set2_below hbW (by omega) _ _
                  have hLX : X.ownsRow wK.heap.size 44 2 (.slice la u lc) u (flatR (lstM Hs k u)) := ownsRow_same HLO.out (fun g hg => hbX.block g (ownsRow_lt HLO.out hg).2)
                  obtain ⟨v5', w5, hrun, ho5, hg5⟩ := app_one 42 44 (.agg #[.int .i64 0, .int .i64 0]) 2 16 Try.underlying42 info44a rfl (by decide) (by decide) hLX #[.int .i64 x.d, .int .i64 x.u] rfl (fun z hz => by simp at hz; rcases hz with rfl | rfl <;> rfl) (by omega) (Nat.le_trans HB3.out.size hbX.size)
                  have HRU : Hid _ := hrun
                  have HLN : Hid (w5.ownsRow wK.heap.size 44 2 v5' (u + 1) (flatR (lstM Hs k (u + 1)))) := show w5.ownsRow wK.heap.size 44 2 v5' (u + 1) (flatR (lstM Hs k (u + 1))) from by rw [HLS.out, flatR_app]; exact ho5
                  have HBN : Hid (Below wK.heap.size wK w5) := HB3.out.trans ((hbX.mono HB3.out.size).trans (hg5.chg.below (Nat.le_trans HB3.out.size hbX.size) (fun g hg => (ownsRow_lt hLX hg).1)))
                  have x0 : X.cell? ⟨bx, 0, none⟩ = some (.int .i64 x.d) := hBX.cell 0
                  have x1 : X.cell? ⟨bx, 1, none⟩ = some (.int .i64 x.u) := hBX.cell 1
                  have hws : IntKind.i64.wrap (sumM Hs k u + x.d) = sumM Hs k u + x.d := by rw [IntKind.wrap_i64]; omega
                  clear hrun ho5 hg5 hLX
                  have HV0 : VAt W0 hg (hgo + hm * 7) x := HVH.keep (hbW.block _ HVH.lt)
                  have v4 := HV0.c4
                  have v5 := HV0.c5
                  have b0 : W0.cell? ⟨bx, 0, none⟩ = some (.int .i64 0) := hBW.cell 0
                  have b1 : W0.cell? ⟨bx, 1, none⟩ = some (.int .i64 0) := hBW.cell 1
                  have f0 : W0.frozen? ⟨bx, 0, none⟩ = false := hBW.frozen 0
                  have f1 : W0.frozen? ⟨bx, 1, none⟩ = false := hBW.frozen 1
                  have hHm : hm ≤ 1000 := by omega
                  have hwm : IntKind.i64.wrap (((hm + 1 : Nat) : Int) - 1) = (hm : Int) := by rw [IntKind.wrap_i64]; omega
                  have hnb : ¬ hg = bx := by have := HVH.lt; omega
                  clear h0 hlast hle hBX hbX hbW hBW HV0 hhf hx HRF hhm HVH
                  go_upto_region 30 with fail
                  rw [← hW0, ← hbx]
                  clear hW0 hbx
                  go_upto_region 33 with fail
                  rw [← hX]
                  clear hX b0 b1 f0 f1 v4 v5
                  go_wp2_with (at_builtin; refine wpList_runs rfl _ _ 42 rfl rfl rfl HRU.out ?_)
                  go_roundw
                  case rel => exact ⟨_, _, _, _, ⟨u + 1, by omega, rfl, rfl, rfl, HLN.out, HBN.out⟩, by rw [HSS.out], by rw [HIS.out], rfl, by go_num⟩
                  case measure => simp [intOf]; omega
              · obtain rfl : u = p := by omega
                have hsa : ∃ lg, la = some ⟨lg, 0, none⟩ ∧ ∀ j z, (flatR (lstM Hs k u))[j]? = some z → wr.cell? ⟨lg, j, none⟩ = some z := by
                  obtain ⟨ao2, cap2, e2, _, _, hrd⟩ := own_read HLO.out
                  cases e2
                  obtain ⟨g, hg, _, _, hc⟩ := hrd (by have := HN.out; omega)
                  exact ⟨g, hg, hc⟩
                obtain ⟨lg, hlg, hlc⟩ := hsa
                subst hlg
                obtain ⟨wL, hwL⟩ : ∃ wL, wL = wr := ⟨_, rfl⟩
                have HLC : Hid (∀ j z, (flatR (lstM Hs k u))[j]? = some z → wL.cell? ⟨lg, j, none⟩ = some z) := hwL ▸ hlc
                have HTL : Hid (TG L tb vr vc u hb mb LV2 hv Hs sv wL) := hwL ▸ HTW.out
                have HKL : Hid (Below wE.heap.size wE wL) := HKK.out.trans ((show Below wK.heap.size wK wL from hwL ▸ HB3.out).mono HKK.out.size)
                subst hwL
                have hun2 : ¬ u < u := by omega
                generalize hsg : sumM Hs k u = sg at *
                generalize hig : isM Hs k u = ig at *
                clear hlc HTW HLO HB3 hu hun
                go_wp2_with fail
                go_loopw [18] (fun s wr4 => ∃ r : Nat, r ≤ u ∧ s = .int .i64 r ∧ Below wL.heap.size wL wr4) (fun s _ => u - (intOf s).toNat)
                case atStart => exact ⟨0, by omega, rfl, Below.refl _ _⟩
                case round =>
                  obtain ⟨r, hr, rfl, hb4⟩ := hrel
                  have HB4 : Hid (Below wL.heap.size wL wr) := hb4
                  clear hb4
                  by_cases hrn : r < u
                  · have HTW : Hid (TG L tb vr vc u hb mb LV2 hv Hs sv wr) := HTL.out.more HB4.out
                    obtain ⟨tc0, tcr, tck0⟩ := HTW.out.cellr hrn
                    clear tck0
                    have tcr : wr.cell? ⟨vr, r, none⟩ = some (.pointer (some ⟨hb r, 0, none⟩)) := tcr
                    go_wp2_with fail
                    rename_i K hK
                    try rw [show ∀ a : Act, a.put none undef = a from fun _ => rfl]
                    refine wp_region_mix (fun wq => wq.cell? ⟨tb, 0, none⟩ = some (.slice (some ⟨vr, 0, none⟩) u vc) ∧ wq.cell? ⟨vr, r, none⟩ = some (.pointer (some ⟨hb r, 0, none⟩))) (fun i => i == 7 || i == 10 || i == 99) 99 (by kernel_rfl) rfl (by kernel_rfl) (by kernel_rfl) (by kernel_rfl) ?_
                    refine withFrP (N := 175) rfl ?_
                    intro f0 F0 hff
                    have ee7 : f0 7 = Value.pointer (some ⟨tb, 0, none⟩) := hff 7
                    have ee18 : f0 18 = Value.int .i64 (r : Int) := hff 18
                    have ee11 : f0 11 = Value.int .i64 (k : Int) := hff 11
                    clear hff
                    have HCC : (fun wq => wq.cell? ⟨tb, 0, none⟩ = some (.slice (some ⟨vr, 0, none⟩) u vc) ∧ wq.cell? ⟨vr, r, none⟩ = some (.pointer (some ⟨hb r, 0, none⟩))) (({ wr with drawn := wr.drawn + 1 } : World)) := ⟨tc0, tcr⟩
                    refine lyp F0 rfl HCC rfl (by omega) (wanted_none rfl) (v := Value.pointer (some ⟨tb, 0, none⟩)) (fun wr hwr => by simp only [execOp, (F0.eval 7 (by omega)).trans (show _ = Value.pointer (some ⟨tb, 0, none⟩) from by simp [upd, ee7, ee18, ee11])]; first | rfl | simp [go_sem]) fun F1 => ?_
                    refine lyp F1 rfl HCC rfl (by omega) (wanted_none rfl) (v := Value.pointer (some ⟨tb, 0, none⟩)) (fun wr hwr => by simp only [execOp, (F1.eval 122 (by omega)).trans (show _ = Value.pointer (some ⟨tb, 0, none⟩) from by simp [upd, ee7, ee18, ee11])]; simp [go_sem]) fun F2 => ?_
                    refine lyp F2 rfl HCC rfl (by omega) (wanted_none rfl) (v := Value.pointer (some ⟨tb, 0, none⟩)) (fun wr hwr => by simp only [execOp, (F2.eval 123 (by omega)).trans (show _ = Value.pointer (some ⟨tb, 0, none⟩) from by simp [upd, ee7, ee18, ee11])]; simp [go_sem]) fun F3 => ?_
                    refine lyp F3 rfl HCC rfl (by omega) (wanted_none rfl) (v := Value.slice (some ⟨vr, 0, none⟩) u vc) (fun wr hwr => by simp only [execOp, (F3.eval 124 (by omega)).trans (show _ = Value.pointer (some ⟨tb, 0, none⟩) from by simp [upd, ee7, ee18, ee11])]; simp [go_sem, hwr.1]) fun F4 => ?_
                    refine lyp F4 rfl HCC rfl (by omega) (wanted_none rfl) (v := Value.int .i64 (r : Int)) (fun wr hwr => by simp only [execOp, (F4.eval 18 (by omega)).trans (show _ = Value.int .i64 (r : Int) from by simp [upd, ee7, ee18, ee11])]; first | rfl | simp [go_sem]) fun F5 => ?_
                    refine lyp F5 rfl HCC rfl (by omega) (wanted_none rfl) (v := Value.pointer (some ⟨vr, r, none⟩)) (fun wr hwr => by simp only [execOp, (F5.eval 125 (by omega)).trans (show _ = Value.slice (some ⟨vr, 0, none⟩) u vc from by simp [upd, ee7, ee18, ee11]), (F5.eval 126 (by omega)).trans (show _ = Value.int .i64 (r : Int) from by simp [upd, ee7, ee18, ee11])]; simp only [Sem.run_bind, Sem.run_pure, Result.andThen_ok, idx_run 33 32 1 Try.underlying33 info32s wr vr 0 u vc r hrn, Nat.zero_add, Nat.mul_one]; try rfl) fun F6 => ?_
                    refine lyp F6 rfl HCC rfl (by omega) (wanted_none rfl) (v := Value.pointer (some ⟨hb r, 0, none⟩)) (fun wr hwr => by simp only [execOp, (F6.eval 127 (by omega)).trans (show _ = Value.pointer (some ⟨vr, r, none⟩) from by simp [upd, ee7, ee18, ee11])]; simp [go_sem, hwr.2]) fun F7 => ?_
                    refine lcp F7 rfl HCC rfl (by omega) (wanted_none rfl) (g := 16) (args := #[]) (by simp only [execOp, resolve, invoke, List.map_toArray, List.map_cons, List.map_nil, ]; simp [go_sem, Act.eval]) (HNM.out (({ wr with drawn := wr.drawn + 1 } : World))) ?_
                    rintro e9 U ⟨rfl, hbU0⟩
                    have hbU : Below wr.heap.size wr U := (show Below wr.heap.size wr (({ wr with drawn := wr.drawn + 1 } : World)) from Below.drew (Below.refl _ _)).trans hbU0
                    refine ⟨_, rfl, fun F8 => ?_⟩
                    have HC2 : (fun wq => wq.cell? ⟨tb, 0, none⟩ = some (.slice (some ⟨vr, 0, none⟩) u vc) ∧ wq.cell? ⟨vr, r, none⟩ = some (.pointer (some ⟨hb r, 0, none⟩))) U := ⟨cell_below hbU tc0, cell_below hbU tcr⟩
                    refine lyp F8 rfl HC2 rfl (by omega) (wanted_none rfl) (v := Value.int .i64 (k : Int)) (fun wr hwr => by simp only [execOp, (F8.eval 11 (by omega)).trans (show _ = Value.int .i64 (k : Int) from by simp [upd, ee7, ee18, ee11])]; first | rfl | simp [go_sem]) fun F9 => ?_
                    refine lyp F9 rfl HC2 rfl (by omega) (wanted_none rfl) (v := Value.string ⟨(nm4 k).toArray⟩) (fun wr hwr => by simp only [execOp, (F9.eval 129 (by omega)).trans (show _ = Value.agg #[.string ⟨#[97]⟩, .string ⟨#[98]⟩, .string ⟨#[98, 98]⟩, .string ⟨#[126]⟩] from by simp [upd, ee7, ee18, ee11]), (F9.eval 130 (by omega)).trans (show _ = Value.int .i64 (k : Int) from by simp [upd, ee7, ee18, ee11])]; simp only [Sem.run_bind, Sem.run_pure, Result.andThen_ok, idx4 k hk4]; try rfl) fun F10 => ?_
                    refine lcp F10 rfl HC2 rfl (by omega) (wanted_none rfl) (g := 15) (args := #[Value.pointer (some ⟨hb r, 0, none⟩), Value.string ⟨(nm4 k).toArray⟩]) (by simp only [execOp, resolve, invoke, List.map_toArray, List.map_cons, List.map_nil, (F10.eval 128 (by omega)).trans (show _ = Value.pointer (some ⟨hb r, 0, none⟩) from by simp [upd, ee7, ee18, ee11]), (F10.eval 131 (by omega)).trans (show _ = Value.string ⟨(nm4 k).toArray⟩ from by simp [upd, ee7, ee18, ee11])]; simp [go_sem, Act.eval]) (HABk.out r hrn U (HTW.out.more hbU)) ?_
                    rintro e9 Z ⟨rfl, hbZ0⟩
                    have hbZ : Below wr.heap.size wr Z := hbU.trans (hbZ0.mono hbU.size)
                    refine ⟨_, rfl, fun F11 => ?_⟩
                    have HC3 : (fun wq => wq.cell? ⟨tb, 0, none⟩ = some (.slice (some ⟨vr, 0, none⟩) u vc) ∧ wq.cell? ⟨vr, r, none⟩ = some (.pointer (some ⟨hb r, 0, none⟩))) Z := ⟨cell_below hbZ tc0, cell_below hbZ tcr⟩
                    refine lyp F11 rfl HC3 rfl (by omega) (wanted_none rfl) (v := Value.tuple #[.int .i64 (sg), .bool (ig)]) (fun wr hwr => by simp only [execOp, (F11.eval 132 (by omega)).trans (show _ = Value.tuple #[.int .i64 (sg), .bool (ig)] from by simp [upd, ee7, ee18, ee11])]; first | rfl | simp [go_sem]) fun F12 => ?_
                    refine lyp F12 rfl HC3 rfl (by omega) (wanted_none rfl) (v := Value.int .i64 (sg)) (fun wr hwr => by simp only [execOp, (F12.eval 121 (by omega)).trans (show _ = Value.tuple #[.int .i64 (sg), .bool (ig)] from by simp [upd, ee7, ee18, ee11])]; simp [go_sem]) fun F13 => ?_
                    refine lyp F13 rfl HC3 rfl (by omega) (wanted_none rfl) (v := Value.bool (ig)) (fun wr hwr => by simp only [execOp, (F13.eval 121 (by omega)).trans (show _ = Value.tuple #[.int .i64 (sg), .bool (ig)] from by simp [upd, ee7, ee18, ee11])]; simp [go_sem]) fun F14 => ?_
                    refine lyp F14 rfl HC3 rfl (by omega) (wanted_none rfl) (v := Value.int .i64 (sg)) (fun wr hwr => by simp only [execOp, (F14.eval 133 (by omega)).trans (show _ = Value.int .i64 (sg) from by simp [upd, ee7, ee18, ee11])]; first | rfl | simp [go_sem]) fun F15 => ?_
                    refine lyp F15 rfl HC3 rfl (by omega) (wanted_none rfl) (v := Value.bool (ig)) (fun wr hwr => by simp only [execOp, (F15.eval 134 (by omega)).trans (show _ = Value.bool (ig) from by simp [upd, ee7, ee18, ee11])]; first | rfl | simp [go_sem]) fun F16 => ?_
                    refine ⟨fun _ => HC3, ?_⟩
                    refine hK _ _ ?_
                    clear F0 F1 F2 F3 F4 F5 F6 F7 F8 F9 F10 F11 F12 F13 F14 F15 F16 ee7 ee18 ee11 HCC HC2 HC3 hbU0 hbU hbZ0
                    simp only [Act.put, List.setIfInBounds_toArray, List.set_cons_succ, List.set_cons_zero]
                    have HBZ : Hid (Below wL.heap.size wL Z) := HB4.out.trans (hbZ.mono HB4.out.size)
                    have HTZ : Hid (TG L tb vr vc u hb mb LV2 hv Hs sv Z) := HTW.out.more hbZ
                    clear hbZ tc0 tcr HTW
                    obtain ⟨tc0, tcr, tck0⟩ := HTZ.out.cellr hrn
                    clear tck0
                    have tcr : Z.cell? ⟨vr, r, none⟩ = some (.pointer (some ⟨hb r, 0, none⟩)) := tcr
                    go_wp2_with fail
                    rename_i K hK
                    try rw [show ∀ a : Act, a.put none undef = a from fun _ => rfl]
                    refine wp_region_mix (fun wq => wq.cell? ⟨tb, 0, none⟩ = some (.slice (some ⟨vr, 0, none⟩) u vc) ∧ wq.cell? ⟨vr, r, none⟩ = some (.pointer (some ⟨hb r, 0, none⟩))) (fun i => i == 7 || i == 10 || i == 99) 99 (by kernel_rfl) rfl (by kernel_rfl) (by kernel_rfl) (by kernel_rfl) ?_
                    refine withFrP (N := 175) rfl ?_
                    intro f0 F0 hff
                    have ee7 : f0 7 = Value.pointer (some ⟨tb, 0, none⟩) := hff 7
                    have ee18 : f0 18 = Value.int .i64 (r : Int) := hff 18
                    have ee11 : f0 11 = Value.int .i64 (k : Int) := hff 11
                    clear hff
                    have HCC : (fun wq => wq.cell? ⟨tb, 0, none⟩ = some (.slice (some ⟨vr, 0, none⟩) u vc) ∧ wq.cell? ⟨vr, r, none⟩ = some (.pointer (some ⟨hb r, 0, none⟩))) (({ Z with drawn := Z.drawn + 1 } : World)) := ⟨tc0, tcr⟩
                    refine lyp F0 rfl HCC rfl (by omega) (wanted_none rfl) (v := Value.pointer (some ⟨tb, 0, none⟩)) (fun wr hwr => by simp only [execOp, (F0.eval 7 (by omega)).trans (show _ = Value.pointer (some ⟨tb, 0, none⟩) from by simp [upd, ee7, ee18, ee11])]; first | rfl | simp [go_sem]) fun F1 => ?_
                    refine lyp F1 rfl HCC rfl (by omega) (wanted_none rfl) (v := Value.pointer (some ⟨tb, 0, none⟩)) (fun wr hwr => by simp only [execOp, (F1.eval 135 (by omega)).trans (show _ = Value.pointer (some ⟨tb, 0, none⟩) from by simp [upd, ee7, ee18, ee11])]; simp [go_sem]) fun F2 => ?_
                    refine lyp F2 rfl HCC rfl (by omega) (wanted_none rfl) (v := Value.pointer (some ⟨tb, 0, none⟩)) (fun wr hwr => by simp only [execOp, (F2.eval 136 (by omega)).trans (show _ = Value.pointer (some ⟨tb, 0, none⟩) from by simp [upd, ee7, ee18, ee11])]; simp [go_sem]) fun F3 => ?_
                    refine lyp F3 rfl HCC rfl (by omega) (wanted_none rfl) (v := Value.slice (some ⟨vr, 0, none⟩) u vc) (fun wr hwr => by simp only [execOp, (F3.eval 137 (by omega)).trans (show _ = Value.pointer (some ⟨tb, 0, none⟩) from by simp [upd, ee7, ee18, ee11])]; simp [go_sem, hwr.1]) fun F4 => ?_
                    refine lyp F4 rfl HCC rfl (by omega) (wanted_none rfl) (v := Value.int .i64 (r : Int)) (fun wr hwr => by simp only [execOp, (F4.eval 18 (by omega)).trans (show _ = Value.int .i64 (r : Int) from by simp [upd, ee7, ee18, ee11])]; first | rfl | simp [go_sem]) fun F5 => ?_
                    refine lyp F5 rfl HCC rfl (by omega) (wanted_none rfl) (v := Value.pointer (some ⟨vr, r, none⟩)) (fun wr hwr => by simp only [execOp, (F5.eval 138 (by omega)).trans (show _ = Value.slice (some ⟨vr, 0, none⟩) u vc from by simp [upd, ee7, ee18, ee11]), (F5.eval 139 (by omega)).trans (show _ = Value.int .i64 (r : Int) from by simp [upd, ee7, ee18, ee11])]; simp only [Sem.run_bind, Sem.run_pure, Result.andThen_ok, idx_run 33 32 1 Try.underlying33 info32s wr vr 0 u vc r hrn, Nat.zero_add, Nat.mul_one]; try rfl) fun F6 => ?_
                    refine lyp F6 rfl HCC rfl (by omega) (wanted_none rfl) (v := Value.pointer (some ⟨hb r, 0, none⟩)) (fun wr hwr => by simp only [execOp, (F6.eval 140 (by omega)).trans (show _ = Value.pointer (some ⟨vr, r, none⟩) from by simp [upd, ee7, ee18, ee11])]; simp [go_sem, hwr.2]) fun F7 => ?_
                    refine lcp F7 rfl HCC rfl (by omega) (wanted_none rfl) (g := 16) (args := #[]) (by simp only [execOp, resolve, invoke, List.map_toArray, List.map_cons, List.map_nil, ]; simp [go_sem, Act.eval]) (HNM.out (({ Z with drawn := Z.drawn + 1 } : World))) ?_
                    rintro e9 U ⟨rfl, hbU0⟩
                    have hbU : Below Z.heap.size Z U := (show Below Z.heap.size Z (({ Z with drawn := Z.drawn + 1 } : World)) from Below.drew (Below.refl _ _)).trans hbU0
                    refine ⟨_, rfl, fun F8 => ?_⟩
                    have HC2 : (fun wq => wq.cell? ⟨tb, 0, none⟩ = some (.slice (some ⟨vr, 0, none⟩) u vc) ∧ wq.cell? ⟨vr, r, none⟩ = some (.pointer (some ⟨hb r, 0, none⟩))) U := ⟨cell_below hbU tc0, cell_below hbU tcr⟩
                    refine lyp F8 rfl HC2 rfl (by omega) (wanted_none rfl) (v := Value.int .i64 (k : Int)) (fun wr hwr => by simp only [execOp, (F8.eval 11 (by omega)).trans (show _ = Value.int .i64 (k : Int) from by simp [upd, ee7, ee18, ee11])]; first | rfl | simp [go_sem]) fun F9 => ?_
                    refine lyp F9 rfl HC2 rfl (by omega) (wanted_none rfl) (v := Value.string ⟨(nm4 k).toArray⟩) (fun wr hwr => by simp only [execOp, (F9.eval 142 (by omega)).trans (show _ = Value.agg #[.string ⟨#[97]⟩, .string ⟨#[98]⟩, .string ⟨#[98, 98]⟩, .string ⟨#[126]⟩] from by simp [upd, ee7, ee18, ee11]), (F9.eval 143 (by omega)).trans (show _ = Value.int .i64 (k : Int) from by simp [upd, ee7, ee18, ee11])]; simp only [Sem.run_bind, Sem.run_pure, Result.andThen_ok, idx4 k hk4]; try rfl) fun F10 => ?_
                    refine lcp F10 rfl HC2 rfl (by omega) (wanted_none rfl) (g := 17) (args := #[Value.pointer (some ⟨hb r, 0, none⟩), Value.string ⟨(nm4 k).toArray⟩]) (by simp only [execOp, resolve, invoke, List.map_toArray, List.map_cons, List.map_nil, (F10.eval 141 (by omega)).trans (show _ = Value.pointer (some ⟨hb r, 0, none⟩) from by simp [upd, ee7, ee18, ee11]), (F10.eval 144 (by omega)).trans (show _ = Value.string ⟨(nm4 k).toArray⟩ from by simp [upd, ee7, ee18, ee11])]; simp [go_sem, Act.eval]) (HKNk.out r hrn U (HTZ.out.more hbU)) ?_
                    rintro e9 V ⟨g, rfl, hgB, hbZ0⟩
                    have hbZ : Below Z.heap.size Z V := hbU.trans (hbZ0.mono hbU.size)
                    refine ⟨_, rfl, fun F11 => ?_⟩
                    have HC3 : (fun wq => wq.cell? ⟨tb, 0, none⟩ = some (.slice (some ⟨vr, 0, none⟩) u vc) ∧ wq.cell? ⟨vr, r, none⟩ = some (.pointer (some ⟨hb r, 0, none⟩))) V := ⟨cell_below hbZ tc0, cell_below hbZ tcr⟩
                    refine lyp F11 rfl HC3 rfl (by omega) (wanted_none rfl) (v := Value.slice (some ⟨g, 0, none⟩) u u) (fun wr hwr => by simp only [execOp, (F11.eval 145 (by omega)).trans (show _ = Value.slice (some ⟨g, 0, none⟩) u u from by simp [upd, ee7, ee18, ee11])]; first | rfl | simp [go_sem]) fun F12 => ?_
                    refine ⟨fun _ => HC3, ?_⟩
                    refine hK _ _ ?_
                    clear F0 F1 F2 F3 F4 F5 F6 F7 F8 F9 F10 F11 F12 ee7 ee18 ee11 HCC HC2 HC3 hbU0 hbU hbZ0
                    simp only [Act.put, List.setIfInBounds_toArray, List.set_cons_succ, List.set_cons_zero]
                    have HBV : Hid (Below wL.heap.size wL V) := HBZ.out.trans (hbZ.mono HBZ.out.size)
                    have HGB : Hid (Blk V g (flatR (lstM Hs k u)).toArray 44) := hgB
                    clear hbZ hgB tc0 tcr HTZ HBZ
                    have hsb : (sg == sg) = true := by simp
                    have hib : (ig == ig) = true := by simp
                    go_wp2_with fail
                    go_loopw [22] (fun s wr5 => ∃ v : Nat, v ≤ u ∧ s = .int .i64 v ∧ Below V.heap.size V wr5) (fun s _ => u - (intOf s).toNat)
                    case atStart => exact ⟨0, by omega, rfl, Below.refl _ _⟩
                    case round =>
                      obtain ⟨v, hv9, rfl, hb5⟩ := hrel
                      have HB5 : Hid (Below V.heap.size V wr) := hb5
                      clear hb5
                      by_cases hvn : v < u
                      · have hat : (lstM Hs k u)[v]? = some ((lastE Hs k v).d, (lastE Hs k v).u) := by unfold lstM; rw [List.getElem?_map, List.getElem?_range hvn]; rfl
                        obtain ⟨q0, q1⟩ := flatR_get _ v _ hat
                        have g0 : wr.cell? ⟨g, v * 2, none⟩ = some (.int .i64 (lastE Hs k v).d) := cell_below HB5.out ((HGB.out.cell _).trans (by rw [List.getElem?_toArray]; exact q0))
                        have g1 : wr.cell? ⟨g, v * 2 + 1, none⟩ = some (.int .i64 (lastE Hs k v).u) := cell_below HB5.out ((HGB.out.cell _).trans (by rw [List.getElem?_toArray]; exact q1))
                        have l0 : wr.cell? ⟨lg, v * 2, none⟩ = some (.int .i64 (lastE Hs k v).d) := cell_below HB5.out (cell_below HBV.out (HLC.out _ _ q0))
                        have l1 : wr.cell? ⟨lg, v * 2 + 1, none⟩ = some (.int .i64 (lastE Hs k v).u) := cell_below HB5.out (cell_below HBV.out (HLC.out _ _ q1))
                        generalize (lastE Hs k v).d = ed at *
                        generalize (lastE Hs k v).u = eu at *
                        clear hat q0 q1
                        go_wp2_with fail
                        rename_i K hK
                        try rw [show ∀ a : Act, a.put none undef = a from fun _ => rfl]
                        refine wp_region_mix (fun wq => (wq.cell? ⟨g, v * 2, none⟩ = some (.int .i64 ed) ∧ wq.cell? ⟨g, v * 2 + 1, none⟩ = some (.int .i64 eu)) ∧ wq.cell? ⟨lg, v * 2, none⟩ = some (.int .i64 ed) ∧ wq.cell? ⟨lg, v * 2 + 1, none⟩ = some (.int .i64 eu)) (fun i => i == 8 || i == 99) 99 (by kernel_rfl) rfl (by kernel_rfl) (by kernel_rfl) (by kernel_rfl) ?_
                        refine withFrP (N := 175) rfl ?_
                        intro f0 F0 hff
                        have ee21 : f0 21 = Value.slice (some ⟨g, 0, none⟩) u u := hff 21
                        have ee22 : f0 22 = Value.int .i64 (v : Int) := hff 22
                        have ee14 : f0 14 = Value.slice (some ⟨lg, 0, none⟩) u lc := hff 14
                        clear hff
                        have HCC : (fun wq => (wq.cell? ⟨g, v * 2, none⟩ = some (.int .i64 ed) ∧ wq.cell? ⟨g, v * 2 + 1, none⟩ = some (.int .i64 eu)) ∧ wq.cell? ⟨lg, v * 2, none⟩ = some (.int .i64 ed) ∧ wq.cell? ⟨lg, v * 2 + 1, none⟩ = some (.int .i64 eu)) (({ wr with drawn := wr.drawn + 1 } : World)) := ⟨⟨g0, g1⟩, l0, l1⟩
                        refine lyp F0 rfl HCC rfl (by omega) (wanted_none rfl) (v := Value.slice (some ⟨g, 0, none⟩) u u) (fun wr hwr => by simp only [execOp, (F0.eval 21 (by omega)).trans (show _ = Value.slice (some ⟨g, 0, none⟩) u u from by simp [upd, ee21, ee22, ee14])]; first | rfl | simp [go_sem]) fun F1 => ?_
                        refine lyp F1 rfl HCC rfl (by omega) (wanted_none rfl) (v := Value.int .i64 (v : Int)) (fun wr hwr => by simp only [execOp, (F1.eval 22 (by omega)).trans (show _ = Value.int .i64 (v : Int) from by simp [upd, ee21, ee22, ee14])]; first | rfl | simp [go_sem]) fun F2 => ?_
                        refine lyp F2 rfl HCC rfl (by omega) (wanted_none rfl) (v := Value.pointer (some ⟨g, v * 2, none⟩)) (fun wr hwr => by simp only [execOp, (F2.eval 165 (by omega)).trans (show _ = Value.slice (some ⟨g, 0, none⟩) u u from by simp [upd, ee21, ee22, ee14]), (F2.eval 166 (by omega)).trans (show _ = Value.int .i64 (v : Int) from by simp [upd, ee21, ee22, ee14])]; simp only [Sem.run_bind, Sem.run_pure, Result.andThen_ok, idx_run 42 44 2 Try.underlying42 info44s wr g 0 u u v hvn, Nat.zero_add]; try rfl) fun F3 => ?_
                        refine lyp F3 rfl HCC rfl (by omega) (wanted_none rfl) (v := Value.agg #[.int .i64 ed, .int .i64 eu]) (fun wr hwr => by simp only [execOp, (F3.eval 167 (by omega)).trans (show _ = Value.pointer (some ⟨g, v * 2, none⟩) from by simp [upd, ee21, ee22, ee14])]; simp [go_sem, hwr.1.1, hwr.1.2]) fun F4 => ?_
                        refine lyp F4 rfl HCC rfl (by omega) (wanted_none rfl) (v := Value.slice (some ⟨lg, 0, none⟩) u lc) (fun wr hwr => by simp only [execOp, (F4.eval 14 (by omega)).trans (show _ = Value.slice (some ⟨lg, 0, none⟩) u lc from by simp [upd, ee21, ee22, ee14])]; first | rfl | simp [go_sem]) fun F5 => ?_
                        refine lyp F5 rfl HCC rfl (by omega) (wanted_none rfl) (v := Value.int .i64 (v : Int)) (fun wr hwr => by simp only [execOp, (F5.eval 22 (by omega)).trans (show _ = Value.int .i64 (v : Int) from by simp [upd, ee21, ee22, ee14])]; first | rfl | simp [go_sem]) fun F6 => ?_
                        refine lyp F6 rfl HCC rfl (by omega) (wanted_none rfl) (v := Value.pointer (some ⟨lg, v * 2, none⟩)) (fun wr hwr => by simp only [execOp, (F6.eval 169 (by omega)).trans (show _ = Value.slice (some ⟨lg, 0, none⟩) u lc from by simp [upd, ee21, ee22, ee14]), (F6.eval 170 (by omega)).trans (show _ = Value.int .i64 (v : Int) from by simp [upd, ee21, ee22, ee14])]; simp only [Sem.run_bind, Sem.run_pure, Result.andThen_ok, idx_run 42 44 2 Try.underlying42 info44s wr lg 0 u lc v hvn, Nat.zero_add]; try rfl) fun F7 => ?_
                        refine lyp F7 rfl HCC rfl (by omega) (wanted_none rfl) (v := Value.agg #[.int .i64 ed, .int .i64 eu]) (fun wr hwr => by simp only [execOp, (F7.eval 171 (by omega)).trans (show _ = Value.pointer (some ⟨lg, v * 2, none⟩) from by simp [upd, ee21, ee22, ee14])]; simp [go_sem, hwr.2.1, hwr.2.2]) fun F8 => ?_
                        refine lcp F8 rfl HCC rfl (by omega) (wanted_none rfl) (g := 18) (args := #[Value.agg #[.int .i64 ed, .int .i64 eu], Value.agg #[.int .i64 ed, .int .i64 eu]]) (by simp only [execOp, resolve, invoke, List.map_toArray, List.map_cons, List.map_nil, (F8.eval 168 (by omega)).trans (show _ = Value.agg #[.int .i64 ed, .int .i64 eu] from by simp [upd, ee21, ee22, ee14]), (F8.eval 172 (by omega)).trans (show _ = Value.agg #[.int .i64 ed, .int .i64 eu] from by simp [upd, ee21, ee22, ee14])]; simp [go_sem, Act.eval]) (sameRights_any ed eu ed eu (({ wr with drawn := wr.drawn + 1 } : World))) ?_
                        rintro e9 Q ⟨rfl, hbQ0⟩
                        rw [show (ed == ed && eu == eu) = true from by simp]
                        have hbQ : Below wr.heap.size wr Q := (show Below wr.heap.size wr (({ wr with drawn := wr.drawn + 1 } : World)) from Below.drew (Below.refl _ _)).trans hbQ0
                        refine ⟨_, rfl, fun F9 => ?_⟩
                        have HC2 : (fun wq => (wq.cell? ⟨g, v * 2, none⟩ = some (.int .i64 ed) ∧ wq.cell? ⟨g, v * 2 + 1, none⟩ = some (.int .i64 eu)) ∧ wq.cell? ⟨lg, v * 2, none⟩ = some (.int .i64 ed) ∧ wq.cell? ⟨lg, v * 2 + 1, none⟩ = some (.int .i64 eu)) Q := ⟨⟨cell_below hbQ g0, cell_below hbQ g1⟩, cell_below hbQ l0, cell_below hbQ l1⟩
                        refine lyp F9 rfl HC2 rfl (by omega) (wanted_none rfl) (v := Value.bool false) (fun wr hwr => by simp only [execOp, (F9.eval 173 (by omega)).trans (show _ = Value.bool true from by simp [upd, ee21, ee22, ee14])]; simp [go_sem, Act.eval]) fun F10 => ?_
                        refine ⟨fun _ => HC2, ?_⟩
                        refine hK _ _ ?_
                        clear F0 F1 F2 F3 F4 F5 F6 F7 F8 F9 F10 ee21 ee22 ee14 HCC HC2 hbQ0
                        simp only [Act.put, List.setIfInBounds_toArray, List.set_cons_succ, List.set_cons_zero]
                        have HB6 : Hid (Below V.heap.size V Q) := HB5.out.trans (hbQ.mono HB5.out.size)
                        clear hbQ g0 g1 l0 l1
                        go_wp2_with fail
                        go_roundw
                        case rel => exact ⟨v + 1, by omega, by go_num, HB6.out⟩
                        case measure => simp [intOf]; omega
                      · go_wp2_with fail
                        go_roundw
                        case rel => exact ⟨r + 1, by omega, by go_num, HBV.out.trans (HB5.out.mono HBV.out.size)⟩
                        case measure => simp [intOf]; omega
                  · go_wp2_with fail
                    go_roundw
                    case rel => exact ⟨k + 1, by omega, by go_num, HKL.out.trans (HB4.out.mono HKL.out.size)⟩
                    case measure => simp [intOf]; omega
          · go_wp2_with fail
            go_ret
            exact ⟨rfl, HBE.out.trans (HBK.out.mono HBE.out.size)⟩
end Go.Proofs.Ytifgmefdlmjocaa
namespace Go.Proofs.Ytifgmefdlmjocaa
open Go.ChangeShapes Go.WideShapes Go.ChangeAt Go.RowKit Go.WideMaps Go.WideElems Go.PlainAid
set_option linter.unusedVariables false
set_option linter.unusedSimpArgs false
set_option maxRecDepth 100000 in
theorem open_sayM {H : Type} {enc : TypeId × Value → H} {W : World} {fuel : Nat} {ad : Addr} {y : DataW H × List MemPlace}
    (h : (W.cells? 0 ad 7).bind (DataW.trod enc Try.prog W 0 (fun _ => true) true fuel 29) = some y) : ∃ o b off, ad = ⟨b, off, none⟩ ∧ SayAt W b off o ∧ (i64 o.w ∧ i64 o.k ∧ i64 o.a) := by
  rw [Option.bind_eq_some_iff] at h
  obtain ⟨cs, hcs, ht⟩ := h
  obtain ⟨_, hl, hcell⟩ := World.cells?_some hcs
  obtain ⟨xs, m, _, hx, _, hxl, hf⟩ := DataW.trod_struct Try.underlying29 ht
  have hxl' : xs.length = 7 := hxl
  have f0 := hf 0 _ rfl
  have f1 := hf 1 _ rfl
  have f2 := hf 2 _ rfl
  have f3 := hf 3 _ rfl
  have f4 := hf 4 _ rfl
  have f5 := hf 5 _ rfl
  have f6 := hf 6 _ rfl
  rw [List.getElem?_eq_getElem (by omega)] at f0 f1 f2 f3 f4 f5 f6
  obtain ⟨z0, e0, _, w0⟩ := DataW.trod_int Try.underlying3 f0
  obtain ⟨z1, e1, _, w1⟩ := DataW.trod_int Try.underlying3 f1
  obtain ⟨z2, e2, _, w2⟩ := DataW.trod_int Try.underlying3 f2
  obtain ⟨z3, e3, _, w3⟩ := DataW.trod_int Try.underlying3 f3
  obtain ⟨z4, e4, _, w4⟩ := DataW.trod_int Try.underlying3 f4
  obtain ⟨z5, e5, _, w5⟩ := DataW.trod_int Try.underlying3 f5
  obtain ⟨z6, e6, _, w6⟩ := DataW.trod_int Try.underlying3 f6
  have at_ : ∀ (k : Nat) (v : Value), (cs.drop k).take 1 = [v] → cs[k]? = some v := fun k v e => by
    have := congrArg (fun l => l[0]?) e
    simpa [List.getElem?_take, List.getElem?_drop] using this
  have g0 : cs[0]? = some (.int .i64 z0) := at_ 0 _ e0
  have a0 : W.cell? ad = some (.int .i64 z0) := by
    have := hcell 0 (by omega)
    rw [g0] at this
    exact this
  obtain ⟨b, off, rfl⟩ := spot_none a0
  have hc : ∀ j, j < 7 → W.cell? ⟨b, off + j, none⟩ = cs[j]? := fun j hj => by
    have := hcell j (by omega)
    rwa [addr_add] at this
  exact ⟨⟨z0, z1, z2, z3, z4, z5, z6⟩, b, off, rfl, ⟨a0, (hc 1 (by omega)).trans (at_ 1 _ e1), (hc 2 (by omega)).trans (at_ 2 _ e2), (hc 3 (by omega)).trans (at_ 3 _ e3), (hc 4 (by omega)).trans (at_ 4 _ e4), (hc 5 (by omega)).trans (at_ 5 _ e5), (hc 6 (by omega)).trans (at_ 6 _ e6), bounds_i64 w3, bounds_i64 w4, bounds_i64 w5, bounds_i64 w6⟩, bounds_i64 w1, bounds_i64 w0, bounds_i64 w2⟩
set_option maxRecDepth 100000 in
/-- The script that came in. -/
theorem open_saysM {H : Type} {enc : TypeId × Value → H} {W : World} {base : Nat} {v : Value} {d : DataW H} {p : List MemPlace}
    (hval : Value.okWide Try.prog W .any base 22 v) (h0 : DataW.Trod enc Try.prog W 0 (fun _ => true) true 22 v d p) :
    ∃ (ao : Option Addr) (N cap : Nat) (os : List SayA), v = .slice ao N cap ∧ os.length = N ∧ N ≤ maxLen ∧ (0 < N → ∃ b off, ao = some ⟨b, off, none⟩ ∧ ∀ i o, os[i]? = some o → SayAt W b (off + i * 7) o ∧ (i64 o.w ∧ i64 o.k ∧ i64 o.a)) := by
  obtain ⟨a0, len, cap, rfl⟩ := okWide_slice Try.underlying22 hval
  obtain ⟨fuel, hf⟩ := h0
  rcases DataW.trod_slice Try.underlying22 hf with ⟨hcs, hx⟩ | ⟨a, len', cap', elems, rest, m, _, hcs, hx, _, hl, hm, hel, he, _, _⟩
  · have e : Value.slice a0 len cap = .slice none 0 0 := by simpa [Value.cells] using hcs
    cases e
    exact ⟨none, 0, 0, [], rfl, rfl, Nat.zero_le _, fun h => by omega⟩
  · have e : Value.slice a0 len cap = .slice (some a) len' cap' := by simpa [Value.cells] using hcs
    cases e
    rw [cells29] at he
    obtain ⟨cs, hcl, hc⟩ := list_of (fun i o => ∃ b off, a.add (i * 7) = ⟨b, off, none⟩ ∧ SayAt W b off o ∧ (i64 o.w ∧ i64 o.k ∧ i64 o.a)) len fun i hi => by
      have h1 := he i hi
      rw [List.getElem?_eq_getElem (by omega)] at h1
      exact open_sayM h1
    refine ⟨some a, len, cap, cs, rfl, hcl, by omega, fun hN => ?_⟩
    obtain ⟨b, off, e0, _⟩ := hc 0 cs[0] (List.getElem?_eq_getElem (by omega))
    rw [Nat.zero_mul, add_zero'] at e0
    subst e0
    refine ⟨b, off, rfl, fun i c hi => ?_⟩
    obtain ⟨b2, off2, e2, h2⟩ := hc i c hi
    rw [addr_add] at e2
    cases e2
    exact h2
end Go.Proofs.Ytifgmefdlmjocaa
namespace Go.Proofs.Ytifgmefdlmjocaa.viewsMeet
open Go.ChangeShapes Go.WideShapes Go.ChangeAt Go.RowKit Go.WideMaps Go.WideElems

set_option maxRecDepth 100000 in
set_option maxHeartbeats 1600000 in
theorem contract (H : Type) (enc : TypeId × Value → H) (W : World) (base : Nat) (args : Array Value) (ds gs : List (DataW H)) (before : List MemPlace)
    (hval : ∀ (j : Nat) t v, Try.f3.params[j]? = some t → args[j]? = some v → Value.okWide Try.prog W .any base t v)
    (hW : DataW.Whole enc Try.prog Try.f3.params.toList Rows.viewsMeetSpec.vars false W args.toList ds gs before)
    (hsz : (DataW.weightsEach Try.prog (Try.f3.params.toList ++ Rows.viewsMeetSpec.plain.varTypes Try.prog) (ds ++ gs)).all (· ≤ reachBytes) = true) :
    Calls Try.prog 3 args W fun e W' => ∃ v, e = .returned v ∧ Rows.viewsMeetSpec.post enc Try.prog Try.f3 false true false false W args v W' := by
  have hW' := hW
  obtain ⟨p, q, hA0, hV, rfl, hfz, hnd⟩ := hW
  have hA : DataW.TrodAll enc Try.prog W 0 (fun _ => true) true Try.f3.params.toList args.toList ds p := hA0
  rw [Try.params3] at hA hval
  obtain ⟨v0, vs0, d0, ds0, p0, q0, hargs, rfl, rfl, h0, r0⟩ := trodAll_cons hA
  obtain ⟨v1, vs1, d1, ds1, p1, q1, rfl, rfl, rfl, h1, r1⟩ := trodAll_cons r0
  obtain ⟨rfl, rfl, rfl⟩ := trodAll_nil r1
  obtain rfl : args = #[v0, v1] := by cases args; simp_all
  obtain ⟨rfl, rfl⟩ := trodVars_none hV
  clear hA0 r0 r1 hA
  obtain ⟨z0, rfl, rfl, rfl, w0⟩ := open_int Try.underlying3 (hval 0 3 v0 rfl rfl) h0
  have hlt1 : ∀ x ∈ p1, x.block < W.heap.size := fun x hx => hW'.lt x (by simp [hx])
  obtain ⟨ao1, N1, cap1, cs1, rfl, hcl1, hm1, hat1⟩ := open_saysM (hval 1 22 v1 rfl rfl) h1
  refine (viewsMeet_law z0 (bounds_i64 w0) ao1 N1 cap1 cs1 W hcl1 hm1 hat1).mono fun e W' ⟨he, hbl⟩ => ?_
  subst he
  exact ⟨_, rfl, _, _, _, [], _, [], hW', trodAll_cons_mk (shut_bool Try.underlying4 _) trodAll_mk0, trodAll_cons_mk (shut_int Try.underlying3 w0) (trodAll_cons_mk (Below.trod laidOut (by kernel_rfl) (of_decide_eq_true (by kernel_rfl)) h1 hbl hlt1) trodAll_mk0), rfl, hbl.frame _, fun h => by cases h⟩

set_option maxRecDepth 100000 in
theorem lifted (os : Os) (started : os.Started) (H : Type) (enc : TypeId × Value → H) :
    ReturnsInHanded {} Try.checked os 3 .any (Rows.viewsMeetSpec.pre6 enc Try.prog Try.f3 Rows.viewsMeetRow.domain false) (Rows.viewsMeetSpec.post enc Try.prog Try.f3 false true false false) := by
  refine returnsInHanded_of_change_sized (C := Try.checked) (s := Rows.viewsMeetSpec) own_knob started (by kernel_rfl) Try.func3
    (ChangeSpec.witness6 (enc := enc) (C := Try.checked) (s := Rows.viewsMeetSpec) false ⟨#[], #[.int .i64 0, .slice none 0 0], []⟩ 8 (by kernel_rfl) (by kernel_rfl) (by kernel_rfl) (by kernel_rfl)) ?_
  intro W base args ds gs before hval hW _ hsz _
  exact contract H enc W base args ds gs before hval hW hsz

theorem said : Rows.ViewsMeetSaid :=
  OpenClaim.holds_of_wide 3 Try.f3 rfl rfl rfl rfl rfl rfl rfl ⟨rfl, rfl, rfl, rfl, rfl⟩ rfl rfl rfl rfl rfl (by kernel_rfl) Try.func3 (by kernel_rfl)
    (of_decide_eq_true (by kernel_rfl)) (by unfold Func.isWrapper; first | (rw [if_pos (by decide +kernel)]; kernel_rfl) | (rw [if_neg (by decide +kernel)]; exact ⟨rfl, rfl⟩))
    (fun os started H enc _ => lifted os started H enc)
end Go.Proofs.Ytifgmefdlmjocaa.viewsMeet

namespace Go.Proofs.Ytifgmefdlmjocaa
theorem viewsMeet_said : Rows.ViewsMeetSaid := viewsMeet.said
end Go.Proofs.Ytifgmefdlmjocaa
