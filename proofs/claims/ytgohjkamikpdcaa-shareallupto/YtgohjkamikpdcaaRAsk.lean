import Derived.Test.YtgohjkamikpdcaaMost0
import Derived.Test.YtgohjkamikpdcaaMix2
namespace Go.Proofs.Ytgohjkamikpdcaa
open Go.RowKit Go.PlainAid
set_option linter.unusedVariables false
set_option linter.unusedSimpArgs false
set_option maxRecDepth 100000 in
set_option maxHeartbeats 3200000 in
/-- The reference asks the same one. -/
theorem rask_any {ao : Option Addr} {n c : Nat} {zs : List Int} (me : Int) (hme : IntKind.i64.wrap me = me) (w : World) (hl : zs.length = n) (hx : FromI w ao zs) (hn : n * 8 ≤ 140737488355328) :
    Calls Try.prog 27 #[.int .i64 me, .slice ao n c] w fun r w' => r = .returned (.int .i64 (askTo me zs n).1) ∧ ∃ q, w' = w.drewN q := by
  have HX : Hid (FromI w ao zs) := hx
  clear hx
  have hst : ∀ k, askTo me zs (k + 1) = askStep me zs (askTo me zs k) (placeOf me n k) := fun k => by rw [← hl]; rfl
  have HST : Hid _ := hst
  have hpr := fun k => place_rem me n k
  have HPL : Hid (∀ k, 0 < n → placeOf me n k < n) := fun k h => placeOf_lt h
  clear hst
  by_cases h1 : 0 ≤ me
  · obtain ⟨m, rfl⟩ : ∃ m : Nat, me = m := ⟨me.toNat, by omega⟩
    by_cases h2 : (m : Int) < n
    · have hfr : fromOf (m : Int) n = m + 1 := by unfold fromOf; rw [if_pos ⟨h1, h2⟩]; omega
      rw [hfr] at hpr
      simp only [Int.natCast_add, Int.natCast_one] at hpr
      have HPR : Hid _ := hpr
      clear hfr hpr
      go_enter Try.func27, Try.ntmps27
      go_wp2
      go_loopw [7, 8] (fun bv i wr => ∃ k q : Nat, k ≤ n ∧ i = .int .i64 k ∧ bv = .int .i64 (askTo (m : Int) zs k).1 ∧ wr = w.drewN q) (fun _ i _ => n - (intOf i).toNat)
      case atStart => exact ⟨0, 0, Nat.zero_le _, rfl, rfl, rfl⟩
      case round =>
        obtain ⟨k, q, hk, rfl, rfl, hwq⟩ := hrel
        by_cases hlt : k < n
        · have hp := HPR.out k
          have hp2 := HPL.out k (by omega)
          have hs := HST.out k
          have hni : (n : Int) ≠ 0 := by omega
          have hai := ask_is (m : Int) zs k (by omega)
          generalize placeOf (m : Int) n k = p at hp hp2 hs
          obtain ⟨b1, o1, hao, e1⟩ := FromI.at (k := p) HX.out (by omega)
          subst hao
          have cj : wr.cell? ⟨b1, o1 + p, none⟩ = some (.int .i64 (at0 zs p)) := by rw [hwq]; exact e1
          have HWQ : Hid _ := hwq
          clear hwq e1
          by_cases hm : (p : Int) = (m : Int)
          · rw [askStep_me hm] at hs
            have HS : Hid _ := hs
            clear hs hai
            generalize askTo (m : Int) zs k = acc at HS
            generalize at0 zs p = z at *
            have HM : Hid _ := hm
            clear hm
            go_wp2_with fail
            have hm := HM.out
            rename_i K hK
            try rw [show ∀ a : Act, a.put none undef = a from fun _ => rfl]
            refine wp_region_mix (fun wq => ∀ p : Addr, wq.cell? p = wr.cell? p) (fun i => i == 99) 99 (by kernel_rfl) rfl (by kernel_rfl) (by kernel_rfl) (by kernel_rfl) ?_
            refine withFrP (N := 58) rfl ?_
            intro f0 F0 hff
            have e0 : f0 0 = Value.int .i64 (m : Int) := hff 0
            have e1 : f0 1 = Value.slice (some ⟨b1, o1, none⟩) n c := hff 1
            have e7 : f0 7 = Value.int .i64 acc.1 := hff 7
            have e9 : f0 9 = Value.int .i64 (p : Int) := hff 9
            clear hff
            have HCC : ∀ p : Addr, (({ wr with drawn := wr.drawn + 1 } : World)).cell? p = wr.cell? p := fun _ => rfl
            refine lyp F0 rfl HCC rfl (by omega) (wanted_none rfl) (v := Value.int .i64 (p : Int)) (fun wr hwr => by simp only [execOp, (F0.eval 9 (by omega)).trans (show _ = Value.int .i64 (p : Int) from by simp [upd, e0, e1, e7, e9])]; first | rfl | simp [go_sem]) fun F1 => ?_
            refine lyp F1 rfl HCC rfl (by omega) (wanted_none rfl) (v := Value.int .i64 (m : Int)) (fun wr hwr => by simp only [execOp, (F1.eval 0 (by omega)).trans (show _ = Value.int .i64 (m : Int) from by simp [upd, e0, e1, e7, e9])]; first | rfl | simp [go_sem]) fun F2 => ?_
            refine lyp F2 rfl HCC rfl (by omega) (wanted_none rfl) (v := Value.bool false) (fun wr hwr => by simp only [execOp, (F2.eval 31 (by omega)).trans (show _ = Value.int .i64 (p : Int) from by simp [upd, e0, e1, e7, e9]), (F2.eval 32 (by omega)).trans (show _ = Value.int .i64 (m : Int) from by simp [upd, e0, e1, e7, e9])]; simp [go_sem, Act.eval, hm]) fun F3 => ?_
            refine lyp F3 rfl HCC rfl (by omega) (wanted_none rfl) (v := Value.bool false) (fun wr hwr => by simp only [execOp, (F3.eval 33 (by omega)).trans (show _ = Value.bool false from by simp [upd, e0, e1, e7, e9])]; first | rfl | simp [go_sem]) fun F4 => ?_
            refine lnp F4 rfl HCC rfl (by omega) (want_no F4 rfl (e := 34) rfl (by omega) (show _ = Value.bool false from by simp [upd, e0, e1, e7, e9]) (by decide)) fun F5 => ?_
            refine lnp F5 rfl HCC rfl (by omega) (want_no F5 rfl (e := 34) rfl (by omega) (show _ = Value.bool false from by simp [upd, e0, e1, e7, e9]) (by decide)) fun F6 => ?_
            refine lnp F6 rfl HCC rfl (by omega) (want_no F6 rfl (e := 34) rfl (by omega) (show _ = Value.bool false from by simp [upd, e0, e1, e7, e9]) (by decide)) fun F7 => ?_
            refine lnp F7 rfl HCC rfl (by omega) (want_no F7 rfl (e := 34) rfl (by omega) (show _ = Value.bool false from by simp [upd, e0, e1, e7, e9]) (by decide)) fun F8 => ?_
            refine lnp F8 rfl HCC rfl (by omega) (want_no F8 rfl (e := 34) rfl (by omega) (show _ = Value.bool false from by simp [upd, e0, e1, e7, e9]) (by decide)) fun F9 => ?_
            refine lyp F9 rfl HCC rfl (by omega) (wanted_none rfl) (v := Value.bool false) (fun wr hwr => by simp only [execOp, (F9.eval 34 (by omega)).trans (show _ = Value.bool false from by simp [upd, e0, e1, e7, e9])]; simp [go_sem, Act.eval]) fun F10 => ?_
            refine lyp F10 rfl HCC rfl (by omega) (wanted_none rfl) (v := Value.bool false) (fun wr hwr => by simp only [execOp, (F10.eval 40 (by omega)).trans (show _ = Value.bool false from by simp [upd, e0, e1, e7, e9])]; first | rfl | simp [go_sem]) fun F11 => ?_
            refine lnp F11 rfl HCC rfl (by omega) (want_no F11 rfl (e := 41) rfl (by omega) (show _ = Value.bool false from by simp [upd, e0, e1, e7, e9]) (by decide)) fun F12 => ?_
            refine lnp F12 rfl HCC rfl (by omega) (want_no F12 rfl (e := 41) rfl (by omega) (show _ = Value.bool false from by simp [upd, e0, e1, e7, e9]) (by decide)) fun F13 => ?_
            refine lnp F13 rfl HCC rfl (by omega) (want_no F13 rfl (e := 41) rfl (by omega) (show _ = Value.bool false from by simp [upd, e0, e1, e7, e9]) (by decide)) fun F14 => ?_
            refine lnp F14 rfl HCC rfl (by omega) (want_not F14 rfl (e := 44) rfl (by omega) (show _ = undef from by simp [upd, e0, e1, e7, e9])) fun F15 => ?_
            refine lnp F15 rfl HCC rfl (by omega) (want_not F15 rfl (e := 44) rfl (by omega) (show _ = undef from by simp [upd, e0, e1, e7, e9])) fun F16 => ?_
            refine lnp F16 rfl HCC rfl (by omega) (want_not F16 rfl (e := 44) rfl (by omega) (show _ = undef from by simp [upd, e0, e1, e7, e9])) fun F17 => ?_
            refine lnp F17 rfl HCC rfl (by omega) (want_not F17 rfl (e := 44) rfl (by omega) (show _ = undef from by simp [upd, e0, e1, e7, e9])) fun F18 => ?_
            refine lnp F18 rfl HCC rfl (by omega) (want_not F18 rfl (e := 44) rfl (by omega) (show _ = undef from by simp [upd, e0, e1, e7, e9])) fun F19 => ?_
            refine lnp F19 rfl HCC rfl (by omega) (want_not F19 rfl (e := 44) rfl (by omega) (show _ = undef from by simp [upd, e0, e1, e7, e9])) fun F20 => ?_
            refine lnp F20 rfl HCC rfl (by omega) (want_not F20 rfl (e := 44) rfl (by omega) (show _ = undef from by simp [upd, e0, e1, e7, e9])) fun F21 => ?_
            refine lnp F21 rfl HCC rfl (by omega) (want_not F21 rfl (e := 44) rfl (by omega) (show _ = undef from by simp [upd, e0, e1, e7, e9])) fun F22 => ?_
            refine lnp F22 rfl HCC rfl (by omega) (want_not F22 rfl (e := 44) rfl (by omega) (show _ = undef from by simp [upd, e0, e1, e7, e9])) fun F23 => ?_
            refine lnp F23 rfl HCC rfl (by omega) (want_no F23 rfl (e := 41) rfl (by omega) (show _ = Value.bool false from by simp [upd, e0, e1, e7, e9]) (by decide)) fun F24 => ?_
            refine lyp F24 rfl HCC rfl (by omega) (wanted_none rfl) (v := Value.bool false) (fun wr hwr => by simp only [execOp, (F24.eval 41 (by omega)).trans (show _ = Value.bool false from by simp [upd, e0, e1, e7, e9])]; simp [go_sem, Act.eval]) fun F25 => ?_
            refine ⟨fun _ => HCC, ?_⟩
            refine hK _ _ ?_
            clear F0 F1 F2 F3 F4 F5 F6 F7 F8 F9 F10 F11 F12 F13 F14 F15 F16 F17 F18 F19 F20 F21 F22 F23 F24 F25 e0 e1 e7 e9 HCC
            simp only [Act.put, List.setIfInBounds_toArray, List.set_cons_succ, List.set_cons_zero]
            generalize hY : (({ wr with drawn := wr.drawn + 1 } : World)) = Y
            have hY2 : Y = w.drewN (q + 1) := by rw [← hY, HWQ.out]; rfl
            have HY : Hid _ := hY2
            clear hY hY2 HWQ cj
            try clear hm
            go_wp2
            go_roundw
            case rel => exact ⟨k + 1, q + 1, by omega, by go_num, by rw [HS.out], HY.out⟩
            case measure => simp [intOf]; omega
          · by_cases hz : 0 < at0 zs p
            · rcases hai with ⟨ha, _⟩ | ⟨p0, hp0n, ha, _, hp00, _⟩
              · rw [ha] at hs ⊢
                rw [askStep_yes hm hz] at hs
                have HS : Hid _ := hs
                clear hs ha
                generalize at0 zs p = z at *
                go_wp2_with fail
                rename_i K hK
                try rw [show ∀ a : Act, a.put none undef = a from fun _ => rfl]
                refine wp_region_mix (fun wq => ∀ p : Addr, wq.cell? p = wr.cell? p) (fun i => i == 99) 99 (by kernel_rfl) rfl (by kernel_rfl) (by kernel_rfl) (by kernel_rfl) ?_
                refine withFrP (N := 58) rfl ?_
                intro f0 F0 hff
                have e0 : f0 0 = Value.int .i64 (m : Int) := hff 0
                have e1 : f0 1 = Value.slice (some ⟨b1, o1, none⟩) n c := hff 1
                have e7 : f0 7 = Value.int .i64 (-1) := hff 7
                have e9 : f0 9 = Value.int .i64 (p : Int) := hff 9
                clear hff
                have HCC : ∀ p : Addr, (({ wr with drawn := wr.drawn + 1 } : World)).cell? p = wr.cell? p := fun _ => rfl
                refine lyp F0 rfl HCC rfl (by omega) (wanted_none rfl) (v := Value.int .i64 (p : Int)) (fun wr hwr => by simp only [execOp, (F0.eval 9 (by omega)).trans (show _ = Value.int .i64 (p : Int) from by simp [upd, e0, e1, e7, e9])]; first | rfl | simp [go_sem]) fun F1 => ?_
                refine lyp F1 rfl HCC rfl (by omega) (wanted_none rfl) (v := Value.int .i64 (m : Int)) (fun wr hwr => by simp only [execOp, (F1.eval 0 (by omega)).trans (show _ = Value.int .i64 (m : Int) from by simp [upd, e0, e1, e7, e9])]; first | rfl | simp [go_sem]) fun F2 => ?_
                refine lyp F2 rfl HCC rfl (by omega) (wanted_none rfl) (v := Value.bool true) (fun wr hwr => by simp only [execOp, (F2.eval 31 (by omega)).trans (show _ = Value.int .i64 (p : Int) from by simp [upd, e0, e1, e7, e9]), (F2.eval 32 (by omega)).trans (show _ = Value.int .i64 (m : Int) from by simp [upd, e0, e1, e7, e9])]; simp [go_sem, Act.eval, hm]) fun F3 => ?_
                refine lyp F3 rfl HCC rfl (by omega) (wanted_none rfl) (v := Value.bool true) (fun wr hwr => by simp only [execOp, (F3.eval 33 (by omega)).trans (show _ = Value.bool true from by simp [upd, e0, e1, e7, e9])]; first | rfl | simp [go_sem]) fun F4 => ?_
                refine lyp F4 rfl HCC rfl (by omega) (want_yes F4 rfl (e := 34) rfl (by omega) (show _ = Value.bool true from by simp [upd, e0, e1, e7, e9])) (v := Value.slice (some ⟨b1, o1, none⟩) n c) (fun wr hwr => by simp only [execOp, (F4.eval 1 (by omega)).trans (show _ = Value.slice (some ⟨b1, o1, none⟩) n c from by simp [upd, e0, e1, e7, e9])]; first | rfl | simp [go_sem]) fun F5 => ?_
                refine lyp F5 rfl HCC rfl (by omega) (want_yes F5 rfl (e := 34) rfl (by omega) (show _ = Value.bool true from by simp [upd, e0, e1, e7, e9])) (v := Value.int .i64 (p : Int)) (fun wr hwr => by simp only [execOp, (F5.eval 9 (by omega)).trans (show _ = Value.int .i64 (p : Int) from by simp [upd, e0, e1, e7, e9])]; first | rfl | simp [go_sem]) fun F6 => ?_
                refine lyp F6 rfl HCC rfl (by omega) (want_yes F6 rfl (e := 34) rfl (by omega) (show _ = Value.bool true from by simp [upd, e0, e1, e7, e9])) (v := Value.pointer (some ⟨b1, o1 + p, none⟩)) (fun wr hwr => by simp only [execOp, (F6.eval 35 (by omega)).trans (show _ = Value.slice (some ⟨b1, o1, none⟩) n c from by simp [upd, e0, e1, e7, e9]), (F6.eval 36 (by omega)).trans (show _ = Value.int .i64 (p : Int) from by simp [upd, e0, e1, e7, e9])]; simp [go_sem, hp2]) fun F7 => ?_
                refine lyp F7 rfl HCC rfl (by omega) (want_yes F7 rfl (e := 34) rfl (by omega) (show _ = Value.bool true from by simp [upd, e0, e1, e7, e9])) (v := Value.int .i64 z) (fun wr hwr => by simp only [execOp, (F7.eval 37 (by omega)).trans (show _ = Value.pointer (some ⟨b1, o1 + p, none⟩) from by simp [upd, e0, e1, e7, e9])]; simp [go_sem, hwr _, cj]) fun F8 => ?_
                refine lyp F8 rfl HCC rfl (by omega) (want_yes F8 rfl (e := 34) rfl (by omega) (show _ = Value.bool true from by simp [upd, e0, e1, e7, e9])) (v := Value.bool true) (fun wr hwr => by simp only [execOp, (F8.eval 38 (by omega)).trans (show _ = Value.int .i64 z from by simp [upd, e0, e1, e7, e9])]; simp [go_sem, Act.eval, hz]) fun F9 => ?_
                refine lyp F9 rfl HCC rfl (by omega) (wanted_none rfl) (v := Value.bool true) (fun wr hwr => by simp only [execOp, (F9.eval 34 (by omega)).trans (show _ = Value.bool true from by simp [upd, e0, e1, e7, e9]), (F9.eval 39 (by omega)).trans (show _ = Value.bool true from by simp [upd, e0, e1, e7, e9])]; simp [go_sem, Act.eval]) fun F10 => ?_
                refine lyp F10 rfl HCC rfl (by omega) (wanted_none rfl) (v := Value.bool true) (fun wr hwr => by simp only [execOp, (F10.eval 40 (by omega)).trans (show _ = Value.bool true from by simp [upd, e0, e1, e7, e9])]; first | rfl | simp [go_sem]) fun F11 => ?_
                refine lyp F11 rfl HCC rfl (by omega) (want_yes F11 rfl (e := 41) rfl (by omega) (show _ = Value.bool true from by simp [upd, e0, e1, e7, e9])) (v := Value.int .i64 (-1)) (fun wr hwr => by simp only [execOp, (F11.eval 7 (by omega)).trans (show _ = Value.int .i64 (-1) from by simp [upd, e0, e1, e7, e9])]; first | rfl | simp [go_sem]) fun F12 => ?_
                refine lyp F12 rfl HCC rfl (by omega) (want_yes F12 rfl (e := 41) rfl (by omega) (show _ = Value.bool true from by simp [upd, e0, e1, e7, e9])) (v := Value.bool true) (fun wr hwr => by simp only [execOp, (F12.eval 42 (by omega)).trans (show _ = Value.int .i64 (-1) from by simp [upd, e0, e1, e7, e9])]; simp [go_sem, Act.eval]) fun F13 => ?_
                refine lyp F13 rfl HCC rfl (by omega) (want_yes F13 rfl (e := 41) rfl (by omega) (show _ = Value.bool true from by simp [upd, e0, e1, e7, e9])) (v := Value.bool true) (fun wr hwr => by simp only [execOp, (F13.eval 43 (by omega)).trans (show _ = Value.bool true from by simp [upd, e0, e1, e7, e9])]; first | rfl | simp [go_sem]) fun F14 => ?_
                refine lnp F14 rfl HCC rfl (by omega) (want_no F14 rfl (e := 44) rfl (by omega) (show _ = Value.bool true from by simp [upd, e0, e1, e7, e9]) (by decide)) fun F15 => ?_
                refine lnp F15 rfl HCC rfl (by omega) (want_no F15 rfl (e := 44) rfl (by omega) (show _ = Value.bool true from by simp [upd, e0, e1, e7, e9]) (by decide)) fun F16 => ?_
                refine lnp F16 rfl HCC rfl (by omega) (want_no F16 rfl (e := 44) rfl (by omega) (show _ = Value.bool true from by simp [upd, e0, e1, e7, e9]) (by decide)) fun F17 => ?_
                refine lnp F17 rfl HCC rfl (by omega) (want_no F17 rfl (e := 44) rfl (by omega) (show _ = Value.bool true from by simp [upd, e0, e1, e7, e9]) (by decide)) fun F18 => ?_
                refine lnp F18 rfl HCC rfl (by omega) (want_no F18 rfl (e := 44) rfl (by omega) (show _ = Value.bool true from by simp [upd, e0, e1, e7, e9]) (by decide)) fun F19 => ?_
                refine lnp F19 rfl HCC rfl (by omega) (want_no F19 rfl (e := 44) rfl (by omega) (show _ = Value.bool true from by simp [upd, e0, e1, e7, e9]) (by decide)) fun F20 => ?_
                refine lnp F20 rfl HCC rfl (by omega) (want_no F20 rfl (e := 44) rfl (by omega) (show _ = Value.bool true from by simp [upd, e0, e1, e7, e9]) (by decide)) fun F21 => ?_
                refine lnp F21 rfl HCC rfl (by omega) (want_no F21 rfl (e := 44) rfl (by omega) (show _ = Value.bool true from by simp [upd, e0, e1, e7, e9]) (by decide)) fun F22 => ?_
                refine lnp F22 rfl HCC rfl (by omega) (want_no F22 rfl (e := 44) rfl (by omega) (show _ = Value.bool true from by simp [upd, e0, e1, e7, e9]) (by decide)) fun F23 => ?_
                refine lyp F23 rfl HCC rfl (by omega) (want_yes F23 rfl (e := 41) rfl (by omega) (show _ = Value.bool true from by simp [upd, e0, e1, e7, e9])) (v := Value.bool true) (fun wr hwr => by simp only [execOp, (F23.eval 44 (by omega)).trans (show _ = Value.bool true from by simp [upd, e0, e1, e7, e9])]; simp [go_sem, Act.eval]) fun F24 => ?_
                refine lyp F24 rfl HCC rfl (by omega) (wanted_none rfl) (v := Value.bool true) (fun wr hwr => by simp only [execOp, (F24.eval 41 (by omega)).trans (show _ = Value.bool true from by simp [upd, e0, e1, e7, e9]), (F24.eval 54 (by omega)).trans (show _ = Value.bool true from by simp [upd, e0, e1, e7, e9])]; simp [go_sem, Act.eval]) fun F25 => ?_
                refine ⟨fun _ => HCC, ?_⟩
                refine hK _ _ ?_
                clear F0 F1 F2 F3 F4 F5 F6 F7 F8 F9 F10 F11 F12 F13 F14 F15 F16 F17 F18 F19 F20 F21 F22 F23 F24 F25 e0 e1 e7 e9 HCC
                simp only [Act.put, List.setIfInBounds_toArray, List.set_cons_succ, List.set_cons_zero]
                generalize hY : (({ wr with drawn := wr.drawn + 1 } : World)) = Y
                have hY2 : Y = w.drewN (q + 1) := by rw [← hY, HWQ.out]; rfl
                have HY : Hid _ := hY2
                clear hY hY2 HWQ cj
                try clear hm
                go_wp2
                go_roundw
                case rel => exact ⟨k + 1, q + 1, by omega, by go_num, by rw [HS.out], HY.out⟩
                case measure => simp [intOf]; omega
              · rw [ha] at hs ⊢
                rw [hl] at hp0n
                obtain ⟨b2, o2, hao, e2⟩ := FromI.at (k := p0) HX.out (by omega)
                cases hao
                have cp : wr.cell? ⟨b1, o1 + p0, none⟩ = some (.int .i64 (at0 zs p0)) := by rw [HWQ.out]; exact e2
                clear e2 ha
                by_cases hzz : at0 zs p0 < at0 zs p
                · rw [askStep_yes hm hzz] at hs
                  have HS : Hid _ := hs
                  clear hs
                  generalize at0 zs p = z at *
                  generalize at0 zs p0 = zp at *
                  go_wp2_with fail
                  rename_i K hK
                  try rw [show ∀ a : Act, a.put none undef = a from fun _ => rfl]
                  refine wp_region_mix (fun wq => ∀ p : Addr, wq.cell? p = wr.cell? p) (fun i => i == 99) 99 (by kernel_rfl) rfl (by kernel_rfl) (by kernel_rfl) (by kernel_rfl) ?_
                  refine withFrP (N := 58) rfl ?_
                  intro f0 F0 hff
                  have e0 : f0 0 = Value.int .i64 (m : Int) := hff 0
                  have e1 : f0 1 = Value.slice (some ⟨b1, o1, none⟩) n c := hff 1
                  have e7 : f0 7 = Value.int .i64 (p0 : Int) := hff 7
                  have e9 : f0 9 = Value.int .i64 (p : Int) := hff 9
                  clear hff
                  have HCC : ∀ p : Addr, (({ wr with drawn := wr.drawn + 1 } : World)).cell? p = wr.cell? p := fun _ => rfl
                  refine lyp F0 rfl HCC rfl (by omega) (wanted_none rfl) (v := Value.int .i64 (p : Int)) (fun wr hwr => by simp only [execOp, (F0.eval 9 (by omega)).trans (show _ = Value.int .i64 (p : Int) from by simp [upd, e0, e1, e7, e9])]; first | rfl | simp [go_sem]) fun F1 => ?_
                  refine lyp F1 rfl HCC rfl (by omega) (wanted_none rfl) (v := Value.int .i64 (m : Int)) (fun wr hwr => by simp only [execOp, (F1.eval 0 (by omega)).trans (show _ = Value.int .i64 (m : Int) from by simp [upd, e0, e1, e7, e9])]; first | rfl | simp [go_sem]) fun F2 => ?_
                  refine lyp F2 rfl HCC rfl (by omega) (wanted_none rfl) (v := Value.bool true) (fun wr hwr => by simp only [execOp, (F2.eval 31 (by omega)).trans (show _ = Value.int .i64 (p : Int) from by simp [upd, e0, e1, e7, e9]), (F2.eval 32 (by omega)).trans (show _ = Value.int .i64 (m : Int) from by simp [upd, e0, e1, e7, e9])]; simp [go_sem, Act.eval, hm]) fun F3 => ?_
                  refine lyp F3 rfl HCC rfl (by omega) (wanted_none rfl) (v := Value.bool true) (fun wr hwr => by simp only [execOp, (F3.eval 33 (by omega)).trans (show _ = Value.bool true from by simp [upd, e0, e1, e7, e9])]; first | rfl | simp [go_sem]) fun F4 => ?_
                  refine lyp F4 rfl HCC rfl (by omega) (want_yes F4 rfl (e := 34) rfl (by omega) (show _ = Value.bool true from by simp [upd, e0, e1, e7, e9])) (v := Value.slice (some ⟨b1, o1, none⟩) n c) (fun wr hwr => by simp only [execOp, (F4.eval 1 (by omega)).trans (show _ = Value.slice (some ⟨b1, o1, none⟩) n c from by simp [upd, e0, e1, e7, e9])]; first | rfl | simp [go_sem]) fun F5 => ?_
                  refine lyp F5 rfl HCC rfl (by omega) (want_yes F5 rfl (e := 34) rfl (by omega) (show _ = Value.bool true from by simp [upd, e0, e1, e7, e9])) (v := Value.int .i64 (p : Int)) (fun wr hwr => by simp only [execOp, (F5.eval 9 (by omega)).trans (show _ = Value.int .i64 (p : Int) from by simp [upd, e0, e1, e7, e9])]; first | rfl | simp [go_sem]) fun F6 => ?_
                  refine lyp F6 rfl HCC rfl (by omega) (want_yes F6 rfl (e := 34) rfl (by omega) (show _ = Value.bool true from by simp [upd, e0, e1, e7, e9])) (v := Value.pointer (some ⟨b1, o1 + p, none⟩)) (fun wr hwr => by simp only [execOp, (F6.eval 35 (by omega)).trans (show _ = Value.slice (some ⟨b1, o1, none⟩) n c from by simp [upd, e0, e1, e7, e9]), (F6.eval 36 (by omega)).trans (show _ = Value.int .i64 (p : Int) from by simp [upd, e0, e1, e7, e9])]; simp [go_sem, hp2]) fun F7 => ?_
                  refine lyp F7 rfl HCC rfl (by omega) (want_yes F7 rfl (e := 34) rfl (by omega) (show _ = Value.bool true from by simp [upd, e0, e1, e7, e9])) (v := Value.int .i64 z) (fun wr hwr => by simp only [execOp, (F7.eval 37 (by omega)).trans (show _ = Value.pointer (some ⟨b1, o1 + p, none⟩) from by simp [upd, e0, e1, e7, e9])]; simp [go_sem, hwr _, cj]) fun F8 => ?_
                  refine lyp F8 rfl HCC rfl (by omega) (want_yes F8 rfl (e := 34) rfl (by omega) (show _ = Value.bool true from by simp [upd, e0, e1, e7, e9])) (v := Value.bool true) (fun wr hwr => by simp only [execOp, (F8.eval 38 (by omega)).trans (show _ = Value.int .i64 z from by simp [upd, e0, e1, e7, e9])]; simp [go_sem, Act.eval, hz]) fun F9 => ?_
                  refine lyp F9 rfl HCC rfl (by omega) (wanted_none rfl) (v := Value.bool true) (fun wr hwr => by simp only [execOp, (F9.eval 34 (by omega)).trans (show _ = Value.bool true from by simp [upd, e0, e1, e7, e9]), (F9.eval 39 (by omega)).trans (show _ = Value.bool true from by simp [upd, e0, e1, e7, e9])]; simp [go_sem, Act.eval]) fun F10 => ?_
                  refine lyp F10 rfl HCC rfl (by omega) (wanted_none rfl) (v := Value.bool true) (fun wr hwr => by simp only [execOp, (F10.eval 40 (by omega)).trans (show _ = Value.bool true from by simp [upd, e0, e1, e7, e9])]; first | rfl | simp [go_sem]) fun F11 => ?_
                  refine lyp F11 rfl HCC rfl (by omega) (want_yes F11 rfl (e := 41) rfl (by omega) (show _ = Value.bool true from by simp [upd, e0, e1, e7, e9])) (v := Value.int .i64 (p0 : Int)) (fun wr hwr => by simp only [execOp, (F11.eval 7 (by omega)).trans (show _ = Value.int .i64 (p0 : Int) from by simp [upd, e0, e1, e7, e9])]; first | rfl | simp [go_sem]) fun F12 => ?_
                  refine lyp F12 rfl HCC rfl (by omega) (want_yes F12 rfl (e := 41) rfl (by omega) (show _ = Value.bool true from by simp [upd, e0, e1, e7, e9])) (v := Value.bool false) (fun wr hwr => by simp only [execOp, (F12.eval 42 (by omega)).trans (show _ = Value.int .i64 (p0 : Int) from by simp [upd, e0, e1, e7, e9])]; simp [go_sem, Act.eval]) fun F13 => ?_
                  refine lyp F13 rfl HCC rfl (by omega) (want_yes F13 rfl (e := 41) rfl (by omega) (show _ = Value.bool true from by simp [upd, e0, e1, e7, e9])) (v := Value.bool false) (fun wr hwr => by simp only [execOp, (F13.eval 43 (by omega)).trans (show _ = Value.bool false from by simp [upd, e0, e1, e7, e9])]; first | rfl | simp [go_sem]) fun F14 => ?_
                  refine lyp F14 rfl HCC rfl (by omega) (want_yes F14 rfl (e := 44) rfl (by omega) (show _ = Value.bool false from by simp [upd, e0, e1, e7, e9])) (v := Value.slice (some ⟨b1, o1, none⟩) n c) (fun wr hwr => by simp only [execOp, (F14.eval 1 (by omega)).trans (show _ = Value.slice (some ⟨b1, o1, none⟩) n c from by simp [upd, e0, e1, e7, e9])]; first | rfl | simp [go_sem]) fun F15 => ?_
                  refine lyp F15 rfl HCC rfl (by omega) (want_yes F15 rfl (e := 44) rfl (by omega) (show _ = Value.bool false from by simp [upd, e0, e1, e7, e9])) (v := Value.int .i64 (p : Int)) (fun wr hwr => by simp only [execOp, (F15.eval 9 (by omega)).trans (show _ = Value.int .i64 (p : Int) from by simp [upd, e0, e1, e7, e9])]; first | rfl | simp [go_sem]) fun F16 => ?_
                  refine lyp F16 rfl HCC rfl (by omega) (want_yes F16 rfl (e := 44) rfl (by omega) (show _ = Value.bool false from by simp [upd, e0, e1, e7, e9])) (v := Value.pointer (some ⟨b1, o1 + p, none⟩)) (fun wr hwr => by simp only [execOp, (F16.eval 45 (by omega)).trans (show _ = Value.slice (some ⟨b1, o1, none⟩) n c from by simp [upd, e0, e1, e7, e9]), (F16.eval 46 (by omega)).trans (show _ = Value.int .i64 (p : Int) from by simp [upd, e0, e1, e7, e9])]; simp [go_sem, hp2]) fun F17 => ?_
                  refine lyp F17 rfl HCC rfl (by omega) (want_yes F17 rfl (e := 44) rfl (by omega) (show _ = Value.bool false from by simp [upd, e0, e1, e7, e9])) (v := Value.int .i64 z) (fun wr hwr => by simp only [execOp, (F17.eval 47 (by omega)).trans (show _ = Value.pointer (some ⟨b1, o1 + p, none⟩) from by simp [upd, e0, e1, e7, e9])]; simp [go_sem, hwr _, cj]) fun F18 => ?_
                  refine lyp F18 rfl HCC rfl (by omega) (want_yes F18 rfl (e := 44) rfl (by omega) (show _ = Value.bool false from by simp [upd, e0, e1, e7, e9])) (v := Value.slice (some ⟨b1, o1, none⟩) n c) (fun wr hwr => by simp only [execOp, (F18.eval 1 (by omega)).trans (show _ = Value.slice (some ⟨b1, o1, none⟩) n c from by simp [upd, e0, e1, e7, e9])]; first | rfl | simp [go_sem]) fun F19 => ?_
                  refine lyp F19 rfl HCC rfl (by omega) (want_yes F19 rfl (e := 44) rfl (by omega) (show _ = Value.bool false from by simp [upd, e0, e1, e7, e9])) (v := Value.int .i64 (p0 : Int)) (fun wr hwr => by simp only [execOp, (F19.eval 7 (by omega)).trans (show _ = Value.int .i64 (p0 : Int) from by simp [upd, e0, e1, e7, e9])]; first | rfl | simp [go_sem]) fun F20 => ?_
                  refine lyp F20 rfl HCC rfl (by omega) (want_yes F20 rfl (e := 44) rfl (by omega) (show _ = Value.bool false from by simp [upd, e0, e1, e7, e9])) (v := Value.pointer (some ⟨b1, o1 + p0, none⟩)) (fun wr hwr => by simp only [execOp, (F20.eval 49 (by omega)).trans (show _ = Value.slice (some ⟨b1, o1, none⟩) n c from by simp [upd, e0, e1, e7, e9]), (F20.eval 50 (by omega)).trans (show _ = Value.int .i64 (p0 : Int) from by simp [upd, e0, e1, e7, e9])]; simp [go_sem, hp0n]) fun F21 => ?_
                  refine lyp F21 rfl HCC rfl (by omega) (want_yes F21 rfl (e := 44) rfl (by omega) (show _ = Value.bool false from by simp [upd, e0, e1, e7, e9])) (v := Value.int .i64 zp) (fun wr hwr => by simp only [execOp, (F21.eval 51 (by omega)).trans (show _ = Value.pointer (some ⟨b1, o1 + p0, none⟩) from by simp [upd, e0, e1, e7, e9])]; simp [go_sem, hwr _, cp]) fun F22 => ?_
                  refine lyp F22 rfl HCC rfl (by omega) (want_yes F22 rfl (e := 44) rfl (by omega) (show _ = Value.bool false from by simp [upd, e0, e1, e7, e9])) (v := Value.bool true) (fun wr hwr => by simp only [execOp, (F22.eval 48 (by omega)).trans (show _ = Value.int .i64 z from by simp [upd, e0, e1, e7, e9]), (F22.eval 52 (by omega)).trans (show _ = Value.int .i64 zp from by simp [upd, e0, e1, e7, e9])]; simp [go_sem, Act.eval, hzz]) fun F23 => ?_
                  refine lyp F23 rfl HCC rfl (by omega) (want_yes F23 rfl (e := 41) rfl (by omega) (show _ = Value.bool true from by simp [upd, e0, e1, e7, e9])) (v := Value.bool true) (fun wr hwr => by simp only [execOp, (F23.eval 44 (by omega)).trans (show _ = Value.bool false from by simp [upd, e0, e1, e7, e9]), (F23.eval 53 (by omega)).trans (show _ = Value.bool true from by simp [upd, e0, e1, e7, e9])]; simp [go_sem, Act.eval]) fun F24 => ?_
                  refine lyp F24 rfl HCC rfl (by omega) (wanted_none rfl) (v := Value.bool true) (fun wr hwr => by simp only [execOp, (F24.eval 41 (by omega)).trans (show _ = Value.bool true from by simp [upd, e0, e1, e7, e9]), (F24.eval 54 (by omega)).trans (show _ = Value.bool true from by simp [upd, e0, e1, e7, e9])]; simp [go_sem, Act.eval]) fun F25 => ?_
                  refine ⟨fun _ => HCC, ?_⟩
                  refine hK _ _ ?_
                  clear F0 F1 F2 F3 F4 F5 F6 F7 F8 F9 F10 F11 F12 F13 F14 F15 F16 F17 F18 F19 F20 F21 F22 F23 F24 F25 e0 e1 e7 e9 HCC
                  simp only [Act.put, List.setIfInBounds_toArray, List.set_cons_succ, List.set_cons_zero]
                  generalize hY : (({ wr with drawn := wr.drawn + 1 } : World)) = Y
                  have hY2 : Y = w.drewN (q + 1) := by rw [← hY, HWQ.out]; rfl
                  have HY : Hid _ := hY2
                  clear hY hY2 HWQ cj cp
                  try clear hm
                  go_wp2
                  go_roundw
                  case rel => exact ⟨k + 1, q + 1, by omega, by go_num, by rw [HS.out], HY.out⟩
                  case measure => simp [intOf]; omega
                · rw [askStep_le hzz] at hs
                  have HS : Hid _ := hs
                  clear hs
                  generalize at0 zs p = z at *
                  generalize at0 zs p0 = zp at *
                  replace hzz : z ≤ zp := by omega
                  go_wp2_with fail
                  rename_i K hK
                  try rw [show ∀ a : Act, a.put none undef = a from fun _ => rfl]
                  refine wp_region_mix (fun wq => ∀ p : Addr, wq.cell? p = wr.cell? p) (fun i => i == 99) 99 (by kernel_rfl) rfl (by kernel_rfl) (by kernel_rfl) (by kernel_rfl) ?_
                  refine withFrP (N := 58) rfl ?_
                  intro f0 F0 hff
                  have e0 : f0 0 = Value.int .i64 (m : Int) := hff 0
                  have e1 : f0 1 = Value.slice (some ⟨b1, o1, none⟩) n c := hff 1
                  have e7 : f0 7 = Value.int .i64 (p0 : Int) := hff 7
                  have e9 : f0 9 = Value.int .i64 (p : Int) := hff 9
                  clear hff
                  have HCC : ∀ p : Addr, (({ wr with drawn := wr.drawn + 1 } : World)).cell? p = wr.cell? p := fun _ => rfl
                  refine lyp F0 rfl HCC rfl (by omega) (wanted_none rfl) (v := Value.int .i64 (p : Int)) (fun wr hwr => by simp only [execOp, (F0.eval 9 (by omega)).trans (show _ = Value.int .i64 (p : Int) from by simp [upd, e0, e1, e7, e9])]; first | rfl | simp [go_sem]) fun F1 => ?_
                  refine lyp F1 rfl HCC rfl (by omega) (wanted_none rfl) (v := Value.int .i64 (m : Int)) (fun wr hwr => by simp only [execOp, (F1.eval 0 (by omega)).trans (show _ = Value.int .i64 (m : Int) from by simp [upd, e0, e1, e7, e9])]; first | rfl | simp [go_sem]) fun F2 => ?_
                  refine lyp F2 rfl HCC rfl (by omega) (wanted_none rfl) (v := Value.bool true) (fun wr hwr => by simp only [execOp, (F2.eval 31 (by omega)).trans (show _ = Value.int .i64 (p : Int) from by simp [upd, e0, e1, e7, e9]), (F2.eval 32 (by omega)).trans (show _ = Value.int .i64 (m : Int) from by simp [upd, e0, e1, e7, e9])]; simp [go_sem, Act.eval, hm]) fun F3 => ?_
                  refine lyp F3 rfl HCC rfl (by omega) (wanted_none rfl) (v := Value.bool true) (fun wr hwr => by simp only [execOp, (F3.eval 33 (by omega)).trans (show _ = Value.bool true from by simp [upd, e0, e1, e7, e9])]; first | rfl | simp [go_sem]) fun F4 => ?_
                  refine lyp F4 rfl HCC rfl (by omega) (want_yes F4 rfl (e := 34) rfl (by omega) (show _ = Value.bool true from by simp [upd, e0, e1, e7, e9])) (v := Value.slice (some ⟨b1, o1, none⟩) n c) (fun wr hwr => by simp only [execOp, (F4.eval 1 (by omega)).trans (show _ = Value.slice (some ⟨b1, o1, none⟩) n c from by simp [upd, e0, e1, e7, e9])]; first | rfl | simp [go_sem]) fun F5 => ?_
                  refine lyp F5 rfl HCC rfl (by omega) (want_yes F5 rfl (e := 34) rfl (by omega) (show _ = Value.bool true from by simp [upd, e0, e1, e7, e9])) (v := Value.int .i64 (p : Int)) (fun wr hwr => by simp only [execOp, (F5.eval 9 (by omega)).trans (show _ = Value.int .i64 (p : Int) from by simp [upd, e0, e1, e7, e9])]; first | rfl | simp [go_sem]) fun F6 => ?_
                  refine lyp F6 rfl HCC rfl (by omega) (want_yes F6 rfl (e := 34) rfl (by omega) (show _ = Value.bool true from by simp [upd, e0, e1, e7, e9])) (v := Value.pointer (some ⟨b1, o1 + p, none⟩)) (fun wr hwr => by simp only [execOp, (F6.eval 35 (by omega)).trans (show _ = Value.slice (some ⟨b1, o1, none⟩) n c from by simp [upd, e0, e1, e7, e9]), (F6.eval 36 (by omega)).trans (show _ = Value.int .i64 (p : Int) from by simp [upd, e0, e1, e7, e9])]; simp [go_sem, hp2]) fun F7 => ?_
                  refine lyp F7 rfl HCC rfl (by omega) (want_yes F7 rfl (e := 34) rfl (by omega) (show _ = Value.bool true from by simp [upd, e0, e1, e7, e9])) (v := Value.int .i64 z) (fun wr hwr => by simp only [execOp, (F7.eval 37 (by omega)).trans (show _ = Value.pointer (some ⟨b1, o1 + p, none⟩) from by simp [upd, e0, e1, e7, e9])]; simp [go_sem, hwr _, cj]) fun F8 => ?_
                  refine lyp F8 rfl HCC rfl (by omega) (want_yes F8 rfl (e := 34) rfl (by omega) (show _ = Value.bool true from by simp [upd, e0, e1, e7, e9])) (v := Value.bool true) (fun wr hwr => by simp only [execOp, (F8.eval 38 (by omega)).trans (show _ = Value.int .i64 z from by simp [upd, e0, e1, e7, e9])]; simp [go_sem, Act.eval, hz]) fun F9 => ?_
                  refine lyp F9 rfl HCC rfl (by omega) (wanted_none rfl) (v := Value.bool true) (fun wr hwr => by simp only [execOp, (F9.eval 34 (by omega)).trans (show _ = Value.bool true from by simp [upd, e0, e1, e7, e9]), (F9.eval 39 (by omega)).trans (show _ = Value.bool true from by simp [upd, e0, e1, e7, e9])]; simp [go_sem, Act.eval]) fun F10 => ?_
                  refine lyp F10 rfl HCC rfl (by omega) (wanted_none rfl) (v := Value.bool true) (fun wr hwr => by simp only [execOp, (F10.eval 40 (by omega)).trans (show _ = Value.bool true from by simp [upd, e0, e1, e7, e9])]; first | rfl | simp [go_sem]) fun F11 => ?_
                  refine lyp F11 rfl HCC rfl (by omega) (want_yes F11 rfl (e := 41) rfl (by omega) (show _ = Value.bool true from by simp [upd, e0, e1, e7, e9])) (v := Value.int .i64 (p0 : Int)) (fun wr hwr => by simp only [execOp, (F11.eval 7 (by omega)).trans (show _ = Value.int .i64 (p0 : Int) from by simp [upd, e0, e1, e7, e9])]; first | rfl | simp [go_sem]) fun F12 => ?_
                  refine lyp F12 rfl HCC rfl (by omega) (want_yes F12 rfl (e := 41) rfl (by omega) (show _ = Value.bool true from by simp [upd, e0, e1, e7, e9])) (v := Value.bool false) (fun wr hwr => by simp only [execOp, (F12.eval 42 (by omega)).trans (show _ = Value.int .i64 (p0 : Int) from by simp [upd, e0, e1, e7, e9])]; simp [go_sem, Act.eval]) fun F13 => ?_
                  refine lyp F13 rfl HCC rfl (by omega) (want_yes F13 rfl (e := 41) rfl (by omega) (show _ = Value.bool true from by simp [upd, e0, e1, e7, e9])) (v := Value.bool false) (fun wr hwr => by simp only [execOp, (F13.eval 43 (by omega)).trans (show _ = Value.bool false from by simp [upd, e0, e1, e7, e9])]; first | rfl | simp [go_sem]) fun F14 => ?_
                  refine lyp F14 rfl HCC rfl (by omega) (want_yes F14 rfl (e := 44) rfl (by omega) (show _ = Value.bool false from by simp [upd, e0, e1, e7, e9])) (v := Value.slice (some ⟨b1, o1, none⟩) n c) (fun wr hwr => by simp only [execOp, (F14.eval 1 (by omega)).trans (show _ = Value.slice (some ⟨b1, o1, none⟩) n c from by simp [upd, e0, e1, e7, e9])]; first | rfl | simp [go_sem]) fun F15 => ?_
                  refine lyp F15 rfl HCC rfl (by omega) (want_yes F15 rfl (e := 44) rfl (by omega) (show _ = Value.bool false from by simp [upd, e0, e1, e7, e9])) (v := Value.int .i64 (p : Int)) (fun wr hwr => by simp only [execOp, (F15.eval 9 (by omega)).trans (show _ = Value.int .i64 (p : Int) from by simp [upd, e0, e1, e7, e9])]; first | rfl | simp [go_sem]) fun F16 => ?_
                  refine lyp F16 rfl HCC rfl (by omega) (want_yes F16 rfl (e := 44) rfl (by omega) (show _ = Value.bool false from by simp [upd, e0, e1, e7, e9])) (v := Value.pointer (some ⟨b1, o1 + p, none⟩)) (fun wr hwr => by simp only [execOp, (F16.eval 45 (by omega)).trans (show _ = Value.slice (some ⟨b1, o1, none⟩) n c from by simp [upd, e0, e1, e7, e9]), (F16.eval 46 (by omega)).trans (show _ = Value.int .i64 (p : Int) from by simp [upd, e0, e1, e7, e9])]; simp [go_sem, hp2]) fun F17 => ?_
                  refine lyp F17 rfl HCC rfl (by omega) (want_yes F17 rfl (e := 44) rfl (by omega) (show _ = Value.bool false from by simp [upd, e0, e1, e7, e9])) (v := Value.int .i64 z) (fun wr hwr => by simp only [execOp, (F17.eval 47 (by omega)).trans (show _ = Value.pointer (some ⟨b1, o1 + p, none⟩) from by simp [upd, e0, e1, e7, e9])]; simp [go_sem, hwr _, cj]) fun F18 => ?_
                  refine lyp F18 rfl HCC rfl (by omega) (want_yes F18 rfl (e := 44) rfl (by omega) (show _ = Value.bool false from by simp [upd, e0, e1, e7, e9])) (v := Value.slice (some ⟨b1, o1, none⟩) n c) (fun wr hwr => by simp only [execOp, (F18.eval 1 (by omega)).trans (show _ = Value.slice (some ⟨b1, o1, none⟩) n c from by simp [upd, e0, e1, e7, e9])]; first | rfl | simp [go_sem]) fun F19 => ?_
                  refine lyp F19 rfl HCC rfl (by omega) (want_yes F19 rfl (e := 44) rfl (by omega) (show _ = Value.bool false from by simp [upd, e0, e1, e7, e9])) (v := Value.int .i64 (p0 : Int)) (fun wr hwr => by simp only [execOp, (F19.eval 7 (by omega)).trans (show _ = Value.int .i64 (p0 : Int) from by simp [upd, e0, e1, e7, e9])]; first | rfl | simp [go_sem]) fun F20 => ?_
                  refine lyp F20 rfl HCC rfl (by omega) (want_yes F20 rfl (e := 44) rfl (by omega) (show _ = Value.bool false from by simp [upd, e0, e1, e7, e9])) (v := Value.pointer (some ⟨b1, o1 + p0, none⟩)) (fun wr hwr => by simp only [execOp, (F20.eval 49 (by omega)).trans (show _ = Value.slice (some ⟨b1, o1, none⟩) n c from by simp [upd, e0, e1, e7, e9]), (F20.eval 50 (by omega)).trans (show _ = Value.int .i64 (p0 : Int) from by simp [upd, e0, e1, e7, e9])]; simp [go_sem, hp0n]) fun F21 => ?_
                  refine lyp F21 rfl HCC rfl (by omega) (want_yes F21 rfl (e := 44) rfl (by omega) (show _ = Value.bool false from by simp [upd, e0, e1, e7, e9])) (v := Value.int .i64 zp) (fun wr hwr => by simp only [execOp, (F21.eval 51 (by omega)).trans (show _ = Value.pointer (some ⟨b1, o1 + p0, none⟩) from by simp [upd, e0, e1, e7, e9])]; simp [go_sem, hwr _, cp]) fun F22 => ?_
                  refine lyp F22 rfl HCC rfl (by omega) (want_yes F22 rfl (e := 44) rfl (by omega) (show _ = Value.bool false from by simp [upd, e0, e1, e7, e9])) (v := Value.bool false) (fun wr hwr => by simp only [execOp, (F22.eval 48 (by omega)).trans (show _ = Value.int .i64 z from by simp [upd, e0, e1, e7, e9]), (F22.eval 52 (by omega)).trans (show _ = Value.int .i64 zp from by simp [upd, e0, e1, e7, e9])]; simp [go_sem, Act.eval, hzz]) fun F23 => ?_
                  refine lyp F23 rfl HCC rfl (by omega) (want_yes F23 rfl (e := 41) rfl (by omega) (show _ = Value.bool true from by simp [upd, e0, e1, e7, e9])) (v := Value.bool false) (fun wr hwr => by simp only [execOp, (F23.eval 44 (by omega)).trans (show _ = Value.bool false from by simp [upd, e0, e1, e7, e9]), (F23.eval 53 (by omega)).trans (show _ = Value.bool false from by simp [upd, e0, e1, e7, e9])]; simp [go_sem, Act.eval]) fun F24 => ?_
                  refine lyp F24 rfl HCC rfl (by omega) (wanted_none rfl) (v := Value.bool false) (fun wr hwr => by simp only [execOp, (F24.eval 41 (by omega)).trans (show _ = Value.bool true from by simp [upd, e0, e1, e7, e9]), (F24.eval 54 (by omega)).trans (show _ = Value.bool false from by simp [upd, e0, e1, e7, e9])]; simp [go_sem, Act.eval]) fun F25 => ?_
                  refine ⟨fun _ => HCC, ?_⟩
                  refine hK _ _ ?_
                  clear F0 F1 F2 F3 F4 F5 F6 F7 F8 F9 F10 F11 F12 F13 F14 F15 F16 F17 F18 F19 F20 F21 F22 F23 F24 F25 e0 e1 e7 e9 HCC
                  simp only [Act.put, List.setIfInBounds_toArray, List.set_cons_succ, List.set_cons_zero]
                  generalize hY : (({ wr with drawn := wr.drawn + 1 } : World)) = Y
                  have hY2 : Y = w.drewN (q + 1) := by rw [← hY, HWQ.out]; rfl
                  have HY : Hid _ := hY2
                  clear hY hY2 HWQ cj cp
                  try clear hm
                  go_wp2
                  go_roundw
                  case rel => exact ⟨k + 1, q + 1, by omega, by go_num, by rw [HS.out], HY.out⟩
                  case measure => simp [intOf]; omega
            · have hs2 : askTo (m : Int) zs (k + 1) = askTo (m : Int) zs k := by
                rw [hs]
                apply askStep_le
                rcases hai with ⟨ha, _⟩ | ⟨p0, _, ha, _, hp00, _⟩ <;> rw [ha] <;> simp only <;> omega
              have HS : Hid _ := hs2
              clear hs hs2 hai
              generalize askTo (m : Int) zs k = acc at HS
              generalize at0 zs p = z at *
              replace hz : z ≤ 0 := by omega
              go_wp2_with fail
              rename_i K hK
              try rw [show ∀ a : Act, a.put none undef = a from fun _ => rfl]
              refine wp_region_mix (fun wq => ∀ p : Addr, wq.cell? p = wr.cell? p) (fun i => i == 99) 99 (by kernel_rfl) rfl (by kernel_rfl) (by kernel_rfl) (by kernel_rfl) ?_
              refine withFrP (N := 58) rfl ?_
              intro f0 F0 hff
              have e0 : f0 0 = Value.int .i64 (m : Int) := hff 0
              have e1 : f0 1 = Value.slice (some ⟨b1, o1, none⟩) n c := hff 1
              have e7 : f0 7 = Value.int .i64 acc.1 := hff 7
              have e9 : f0 9 = Value.int .i64 (p : Int) := hff 9
              clear hff
              have HCC : ∀ p : Addr, (({ wr with drawn := wr.drawn + 1 } : World)).cell? p = wr.cell? p := fun _ => rfl
              refine lyp F0 rfl HCC rfl (by omega) (wanted_none rfl) (v := Value.int .i64 (p : Int)) (fun wr hwr => by simp only [execOp, (F0.eval 9 (by omega)).trans (show _ = Value.int .i64 (p : Int) from by simp [upd, e0, e1, e7, e9])]; first | rfl | simp [go_sem]) fun F1 => ?_
              refine lyp F1 rfl HCC rfl (by omega) (wanted_none rfl) (v := Value.int .i64 (m : Int)) (fun wr hwr => by simp only [execOp, (F1.eval 0 (by omega)).trans (show _ = Value.int .i64 (m : Int) from by simp [upd, e0, e1, e7, e9])]; first | rfl | simp [go_sem]) fun F2 => ?_
              refine lyp F2 rfl HCC rfl (by omega) (wanted_none rfl) (v := Value.bool true) (fun wr hwr => by simp only [execOp, (F2.eval 31 (by omega)).trans (show _ = Value.int .i64 (p : Int) from by simp [upd, e0, e1, e7, e9]), (F2.eval 32 (by omega)).trans (show _ = Value.int .i64 (m : Int) from by simp [upd, e0, e1, e7, e9])]; simp [go_sem, Act.eval, hm]) fun F3 => ?_
              refine lyp F3 rfl HCC rfl (by omega) (wanted_none rfl) (v := Value.bool true) (fun wr hwr => by simp only [execOp, (F3.eval 33 (by omega)).trans (show _ = Value.bool true from by simp [upd, e0, e1, e7, e9])]; first | rfl | simp [go_sem]) fun F4 => ?_
              refine lyp F4 rfl HCC rfl (by omega) (want_yes F4 rfl (e := 34) rfl (by omega) (show _ = Value.bool true from by simp [upd, e0, e1, e7, e9])) (v := Value.slice (some ⟨b1, o1, none⟩) n c) (fun wr hwr => by simp only [execOp, (F4.eval 1 (by omega)).trans (show _ = Value.slice (some ⟨b1, o1, none⟩) n c from by simp [upd, e0, e1, e7, e9])]; first | rfl | simp [go_sem]) fun F5 => ?_
              refine lyp F5 rfl HCC rfl (by omega) (want_yes F5 rfl (e := 34) rfl (by omega) (show _ = Value.bool true from by simp [upd, e0, e1, e7, e9])) (v := Value.int .i64 (p : Int)) (fun wr hwr => by simp only [execOp, (F5.eval 9 (by omega)).trans (show _ = Value.int .i64 (p : Int) from by simp [upd, e0, e1, e7, e9])]; first | rfl | simp [go_sem]) fun F6 => ?_
              refine lyp F6 rfl HCC rfl (by omega) (want_yes F6 rfl (e := 34) rfl (by omega) (show _ = Value.bool true from by simp [upd, e0, e1, e7, e9])) (v := Value.pointer (some ⟨b1, o1 + p, none⟩)) (fun wr hwr => by simp only [execOp, (F6.eval 35 (by omega)).trans (show _ = Value.slice (some ⟨b1, o1, none⟩) n c from by simp [upd, e0, e1, e7, e9]), (F6.eval 36 (by omega)).trans (show _ = Value.int .i64 (p : Int) from by simp [upd, e0, e1, e7, e9])]; simp [go_sem, hp2]) fun F7 => ?_
              refine lyp F7 rfl HCC rfl (by omega) (want_yes F7 rfl (e := 34) rfl (by omega) (show _ = Value.bool true from by simp [upd, e0, e1, e7, e9])) (v := Value.int .i64 z) (fun wr hwr => by simp only [execOp, (F7.eval 37 (by omega)).trans (show _ = Value.pointer (some ⟨b1, o1 + p, none⟩) from by simp [upd, e0, e1, e7, e9])]; simp [go_sem, hwr _, cj]) fun F8 => ?_
              refine lyp F8 rfl HCC rfl (by omega) (want_yes F8 rfl (e := 34) rfl (by omega) (show _ = Value.bool true from by simp [upd, e0, e1, e7, e9])) (v := Value.bool false) (fun wr hwr => by simp only [execOp, (F8.eval 38 (by omega)).trans (show _ = Value.int .i64 z from by simp [upd, e0, e1, e7, e9])]; simp [go_sem, Act.eval, hz]) fun F9 => ?_
              refine lyp F9 rfl HCC rfl (by omega) (wanted_none rfl) (v := Value.bool false) (fun wr hwr => by simp only [execOp, (F9.eval 34 (by omega)).trans (show _ = Value.bool true from by simp [upd, e0, e1, e7, e9]), (F9.eval 39 (by omega)).trans (show _ = Value.bool false from by simp [upd, e0, e1, e7, e9])]; simp [go_sem, Act.eval]) fun F10 => ?_
              refine lyp F10 rfl HCC rfl (by omega) (wanted_none rfl) (v := Value.bool false) (fun wr hwr => by simp only [execOp, (F10.eval 40 (by omega)).trans (show _ = Value.bool false from by simp [upd, e0, e1, e7, e9])]; first | rfl | simp [go_sem]) fun F11 => ?_
              refine lnp F11 rfl HCC rfl (by omega) (want_no F11 rfl (e := 41) rfl (by omega) (show _ = Value.bool false from by simp [upd, e0, e1, e7, e9]) (by decide)) fun F12 => ?_
              refine lnp F12 rfl HCC rfl (by omega) (want_no F12 rfl (e := 41) rfl (by omega) (show _ = Value.bool false from by simp [upd, e0, e1, e7, e9]) (by decide)) fun F13 => ?_
              refine lnp F13 rfl HCC rfl (by omega) (want_no F13 rfl (e := 41) rfl (by omega) (show _ = Value.bool false from by simp [upd, e0, e1, e7, e9]) (by decide)) fun F14 => ?_
              refine lnp F14 rfl HCC rfl (by omega) (want_not F14 rfl (e := 44) rfl (by omega) (show _ = undef from by simp [upd, e0, e1, e7, e9])) fun F15 => ?_
              refine lnp F15 rfl HCC rfl (by omega) (want_not F15 rfl (e := 44) rfl (by omega) (show _ = undef from by simp [upd, e0, e1, e7, e9])) fun F16 => ?_
              refine lnp F16 rfl HCC rfl (by omega) (want_not F16 rfl (e := 44) rfl (by omega) (show _ = undef from by simp [upd, e0, e1, e7, e9])) fun F17 => ?_
              refine lnp F17 rfl HCC rfl (by omega) (want_not F17 rfl (e := 44) rfl (by omega) (show _ = undef from by simp [upd, e0, e1, e7, e9])) fun F18 => ?_
              refine lnp F18 rfl HCC rfl (by omega) (want_not F18 rfl (e := 44) rfl (by omega) (show _ = undef from by simp [upd, e0, e1, e7, e9])) fun F19 => ?_
              refine lnp F19 rfl HCC rfl (by omega) (want_not F19 rfl (e := 44) rfl (by omega) (show _ = undef from by simp [upd, e0, e1, e7, e9])) fun F20 => ?_
              refine lnp F20 rfl HCC rfl (by omega) (want_not F20 rfl (e := 44) rfl (by omega) (show _ = undef from by simp [upd, e0, e1, e7, e9])) fun F21 => ?_
              refine lnp F21 rfl HCC rfl (by omega) (want_not F21 rfl (e := 44) rfl (by omega) (show _ = undef from by simp [upd, e0, e1, e7, e9])) fun F22 => ?_
              refine lnp F22 rfl HCC rfl (by omega) (want_not F22 rfl (e := 44) rfl (by omega) (show _ = undef from by simp [upd, e0, e1, e7, e9])) fun F23 => ?_
              refine lnp F23 rfl HCC rfl (by omega) (want_no F23 rfl (e := 41) rfl (by omega) (show _ = Value.bool false from by simp [upd, e0, e1, e7, e9]) (by decide)) fun F24 => ?_
              refine lyp F24 rfl HCC rfl (by omega) (wanted_none rfl) (v := Value.bool false) (fun wr hwr => by simp only [execOp, (F24.eval 41 (by omega)).trans (show _ = Value.bool false from by simp [upd, e0, e1, e7, e9])]; simp [go_sem, Act.eval]) fun F25 => ?_
              refine ⟨fun _ => HCC, ?_⟩
              refine hK _ _ ?_
              clear F0 F1 F2 F3 F4 F5 F6 F7 F8 F9 F10 F11 F12 F13 F14 F15 F16 F17 F18 F19 F20 F21 F22 F23 F24 F25 e0 e1 e7 e9 HCC
              simp only [Act.put, List.setIfInBounds_toArray, List.set_cons_succ, List.set_cons_zero]
              generalize hY : (({ wr with drawn := wr.drawn + 1 } : World)) = Y
              have hY2 : Y = w.drewN (q + 1) := by rw [← hY, HWQ.out]; rfl
              have HY : Hid _ := hY2
              clear hY hY2 HWQ cj
              try clear hm
              go_wp2
              go_roundw
              case rel => exact ⟨k + 1, q + 1, by omega, by go_num, by rw [HS.out], HY.out⟩
              case measure => simp [intOf]; omega
        · obtain rfl : k = n := by omega
          subst hwq
          go_wp2
          go_ret
          exact ⟨rfl, _, rfl⟩
    · have hfr : fromOf (m : Int) n = 0 := by unfold fromOf; rw [if_neg (fun h => h2 h.2)]
      rw [hfr] at hpr
      simp only [Int.natCast_zero, Int.zero_add] at hpr
      have HPR : Hid _ := hpr
      clear hfr hpr
      go_enter Try.func27, Try.ntmps27
      go_wp2
      go_loopw [7, 8] (fun bv i wr => ∃ k q : Nat, k ≤ n ∧ i = .int .i64 k ∧ bv = .int .i64 (askTo (m : Int) zs k).1 ∧ wr = w.drewN q) (fun _ i _ => n - (intOf i).toNat)
      case atStart => exact ⟨0, 0, Nat.zero_le _, rfl, rfl, rfl⟩
      case round =>
        obtain ⟨k, q, hk, rfl, rfl, hwq⟩ := hrel
        by_cases hlt : k < n
        · have hp := HPR.out k
          have hp2 := HPL.out k (by omega)
          have hs := HST.out k
          have hni : (n : Int) ≠ 0 := by omega
          have hai := ask_is (m : Int) zs k (by omega)
          generalize placeOf (m : Int) n k = p at hp hp2 hs
          obtain ⟨b1, o1, hao, e1⟩ := FromI.at (k := p) HX.out (by omega)
          subst hao
          have cj : wr.cell? ⟨b1, o1 + p, none⟩ = some (.int .i64 (at0 zs p)) := by rw [hwq]; exact e1
          have HWQ : Hid _ := hwq
          clear hwq e1
          by_cases hm : (p : Int) = (m : Int)
          · rw [askStep_me hm] at hs
            have HS : Hid _ := hs
            clear hs hai
            generalize askTo (m : Int) zs k = acc at HS
            generalize at0 zs p = z at *
            have HM : Hid _ := hm
            clear hm
            go_wp2_with fail
            have hm := HM.out
            rename_i K hK
            try rw [show ∀ a : Act, a.put none undef = a from fun _ => rfl]
            refine wp_region_mix (fun wq => ∀ p : Addr, wq.cell? p = wr.cell? p) (fun i => i == 99) 99 (by kernel_rfl) rfl (by kernel_rfl) (by kernel_rfl) (by kernel_rfl) ?_
            refine withFrP (N := 58) rfl ?_
            intro f0 F0 hff
            have e0 : f0 0 = Value.int .i64 (m : Int) := hff 0
            have e1 : f0 1 = Value.slice (some ⟨b1, o1, none⟩) n c := hff 1
            have e7 : f0 7 = Value.int .i64 acc.1 := hff 7
            have e9 : f0 9 = Value.int .i64 (p : Int) := hff 9
            clear hff
            have HCC : ∀ p : Addr, (({ wr with drawn := wr.drawn + 1 } : World)).cell? p = wr.cell? p := fun _ => rfl
            refine lyp F0 rfl HCC rfl (by omega) (wanted_none rfl) (v := Value.int .i64 (p : Int)) (fun wr hwr => by simp only [execOp, (F0.eval 9 (by omega)).trans (show _ = Value.int .i64 (p : Int) from by simp [upd, e0, e1, e7, e9])]; first | rfl | simp [go_sem]) fun F1 => ?_
            refine lyp F1 rfl HCC rfl (by omega) (wanted_none rfl) (v := Value.int .i64 (m : Int)) (fun wr hwr => by simp only [execOp, (F1.eval 0 (by omega)).trans (show _ = Value.int .i64 (m : Int) from by simp [upd, e0, e1, e7, e9])]; first | rfl | simp [go_sem]) fun F2 => ?_
            refine lyp F2 rfl HCC rfl (by omega) (wanted_none rfl) (v := Value.bool false) (fun wr hwr => by simp only [execOp, (F2.eval 31 (by omega)).trans (show _ = Value.int .i64 (p : Int) from by simp [upd, e0, e1, e7, e9]), (F2.eval 32 (by omega)).trans (show _ = Value.int .i64 (m : Int) from by simp [upd, e0, e1, e7, e9])]; simp [go_sem, Act.eval, hm]) fun F3 => ?_
            refine lyp F3 rfl HCC rfl (by omega) (wanted_none rfl) (v := Value.bool false) (fun wr hwr => by simp only [execOp, (F3.eval 33 (by omega)).trans (show _ = Value.bool false from by simp [upd, e0, e1, e7, e9])]; first | rfl | simp [go_sem]) fun F4 => ?_
            refine lnp F4 rfl HCC rfl (by omega) (want_no F4 rfl (e := 34) rfl (by omega) (show _ = Value.bool false from by simp [upd, e0, e1, e7, e9]) (by decide)) fun F5 => ?_
            refine lnp F5 rfl HCC rfl (by omega) (want_no F5 rfl (e := 34) rfl (by omega) (show _ = Value.bool false from by simp [upd, e0, e1, e7, e9]) (by decide)) fun F6 => ?_
            refine lnp F6 rfl HCC rfl (by omega) (want_no F6 rfl (e := 34) rfl (by omega) (show _ = Value.bool false from by simp [upd, e0, e1, e7, e9]) (by decide)) fun F7 => ?_
            refine lnp F7 rfl HCC rfl (by omega) (want_no F7 rfl (e := 34) rfl (by omega) (show _ = Value.bool false from by simp [upd, e0, e1, e7, e9]) (by decide)) fun F8 => ?_
            refine lnp F8 rfl HCC rfl (by omega) (want_no F8 rfl (e := 34) rfl (by omega) (show _ = Value.bool false from by simp [upd, e0, e1, e7, e9]) (by decide)) fun F9 => ?_
            refine lyp F9 rfl HCC rfl (by omega) (wanted_none rfl) (v := Value.bool false) (fun wr hwr => by simp only [execOp, (F9.eval 34 (by omega)).trans (show _ = Value.bool false from by simp [upd, e0, e1, e7, e9])]; simp [go_sem, Act.eval]) fun F10 => ?_
            refine lyp F10 rfl HCC rfl (by omega) (wanted_none rfl) (v := Value.bool false) (fun wr hwr => by simp only [execOp, (F10.eval 40 (by omega)).trans (show _ = Value.bool false from by simp [upd, e0, e1, e7, e9])]; first | rfl | simp [go_sem]) fun F11 => ?_
            refine lnp F11 rfl HCC rfl (by omega) (want_no F11 rfl (e := 41) rfl (by omega) (show _ = Value.bool false from by simp [upd, e0, e1, e7, e9]) (by decide)) fun F12 => ?_
            refine lnp F12 rfl HCC rfl (by omega) (want_no F12 rfl (e := 41) rfl (by omega) (show _ = Value.bool false from by simp [upd, e0, e1, e7, e9]) (by decide)) fun F13 => ?_
            refine lnp F13 rfl HCC rfl (by omega) (want_no F13 rfl (e := 41) rfl (by omega) (show _ = Value.bool false from by simp [upd, e0, e1, e7, e9]) (by decide)) fun F14 => ?_
            refine lnp F14 rfl HCC rfl (by omega) (want_not F14 rfl (e := 44) rfl (by omega) (show _ = undef from by simp [upd, e0, e1, e7, e9])) fun F15 => ?_
            refine lnp F15 rfl HCC rfl (by omega) (want_not F15 rfl (e := 44) rfl (by omega) (show _ = undef from by simp [upd, e0, e1, e7, e9])) fun F16 => ?_
            refine lnp F16 rfl HCC rfl (by omega) (want_not F16 rfl (e := 44) rfl (by omega) (show _ = undef from by simp [upd, e0, e1, e7, e9])) fun F17 => ?_
            refine lnp F17 rfl HCC rfl (by omega) (want_not F17 rfl (e := 44) rfl (by omega) (show _ = undef from by simp [upd, e0, e1, e7, e9])) fun F18 => ?_
            refine lnp F18 rfl HCC rfl (by omega) (want_not F18 rfl (e := 44) rfl (by omega) (show _ = undef from by simp [upd, e0, e1, e7, e9])) fun F19 => ?_
            refine lnp F19 rfl HCC rfl (by omega) (want_not F19 rfl (e := 44) rfl (by omega) (show _ = undef from by simp [upd, e0, e1, e7, e9])) fun F20 => ?_
            refine lnp F20 rfl HCC rfl (by omega) (want_not F20 rfl (e := 44) rfl (by omega) (show _ = undef from by simp [upd, e0, e1, e7, e9])) fun F21 => ?_
            refine lnp F21 rfl HCC rfl (by omega) (want_not F21 rfl (e := 44) rfl (by omega) (show _ = undef from by simp [upd, e0, e1, e7, e9])) fun F22 => ?_
            refine lnp F22 rfl HCC rfl (by omega) (want_not F22 rfl (e := 44) rfl (by omega) (show _ = undef from by simp [upd, e0, e1, e7, e9])) fun F23 => ?_
            refine lnp F23 rfl HCC rfl (by omega) (want_no F23 rfl (e := 41) rfl (by omega) (show _ = Value.bool false from by simp [upd, e0, e1, e7, e9]) (by decide)) fun F24 => ?_
            refine lyp F24 rfl HCC rfl (by omega) (wanted_none rfl) (v := Value.bool false) (fun wr hwr => by simp only [execOp, (F24.eval 41 (by omega)).trans (show _ = Value.bool false from by simp [upd, e0, e1, e7, e9])]; simp [go_sem, Act.eval]) fun F25 => ?_
            refine ⟨fun _ => HCC, ?_⟩
            refine hK _ _ ?_
            clear F0 F1 F2 F3 F4 F5 F6 F7 F8 F9 F10 F11 F12 F13 F14 F15 F16 F17 F18 F19 F20 F21 F22 F23 F24 F25 e0 e1 e7 e9 HCC
            simp only [Act.put, List.setIfInBounds_toArray, List.set_cons_succ, List.set_cons_zero]
            generalize hY : (({ wr with drawn := wr.drawn + 1 } : World)) = Y
            have hY2 : Y = w.drewN (q + 1) := by rw [← hY, HWQ.out]; rfl
            have HY : Hid _ := hY2
            clear hY hY2 HWQ cj
            try clear hm
            go_wp2
            go_roundw
            case rel => exact ⟨k + 1, q + 1, by omega, by go_num, by rw [HS.out], HY.out⟩
            case measure => simp [intOf]; omega
          · by_cases hz : 0 < at0 zs p
            · rcases hai with ⟨ha, _⟩ | ⟨p0, hp0n, ha, _, hp00, _⟩
              · rw [ha] at hs ⊢
                rw [askStep_yes hm hz] at hs
                have HS : Hid _ := hs
                clear hs ha
                generalize at0 zs p = z at *
                go_wp2_with fail
                rename_i K hK
                try rw [show ∀ a : Act, a.put none undef = a from fun _ => rfl]
                refine wp_region_mix (fun wq => ∀ p : Addr, wq.cell? p = wr.cell? p) (fun i => i == 99) 99 (by kernel_rfl) rfl (by kernel_rfl) (by kernel_rfl) (by kernel_rfl) ?_
                refine withFrP (N := 58) rfl ?_
                intro f0 F0 hff
                have e0 : f0 0 = Value.int .i64 (m : Int) := hff 0
                have e1 : f0 1 = Value.slice (some ⟨b1, o1, none⟩) n c := hff 1
                have e7 : f0 7 = Value.int .i64 (-1) := hff 7
                have e9 : f0 9 = Value.int .i64 (p : Int) := hff 9
                clear hff
                have HCC : ∀ p : Addr, (({ wr with drawn := wr.drawn + 1 } : World)).cell? p = wr.cell? p := fun _ => rfl
                refine lyp F0 rfl HCC rfl (by omega) (wanted_none rfl) (v := Value.int .i64 (p : Int)) (fun wr hwr => by simp only [execOp, (F0.eval 9 (by omega)).trans (show _ = Value.int .i64 (p : Int) from by simp [upd, e0, e1, e7, e9])]; first | rfl | simp [go_sem]) fun F1 => ?_
                refine lyp F1 rfl HCC rfl (by omega) (wanted_none rfl) (v := Value.int .i64 (m : Int)) (fun wr hwr => by simp only [execOp, (F1.eval 0 (by omega)).trans (show _ = Value.int .i64 (m : Int) from by simp [upd, e0, e1, e7, e9])]; first | rfl | simp [go_sem]) fun F2 => ?_
                refine lyp F2 rfl HCC rfl (by omega) (wanted_none rfl) (v := Value.bool true) (fun wr hwr => by simp only [execOp, (F2.eval 31 (by omega)).trans (show _ = Value.int .i64 (p : Int) from by simp [upd, e0, e1, e7, e9]), (F2.eval 32 (by omega)).trans (show _ = Value.int .i64 (m : Int) from by simp [upd, e0, e1, e7, e9])]; simp [go_sem, Act.eval, hm]) fun F3 => ?_
                refine lyp F3 rfl HCC rfl (by omega) (wanted_none rfl) (v := Value.bool true) (fun wr hwr => by simp only [execOp, (F3.eval 33 (by omega)).trans (show _ = Value.bool true from by simp [upd, e0, e1, e7, e9])]; first | rfl | simp [go_sem]) fun F4 => ?_
                refine lyp F4 rfl HCC rfl (by omega) (want_yes F4 rfl (e := 34) rfl (by omega) (show _ = Value.bool true from by simp [upd, e0, e1, e7, e9])) (v := Value.slice (some ⟨b1, o1, none⟩) n c) (fun wr hwr => by simp only [execOp, (F4.eval 1 (by omega)).trans (show _ = Value.slice (some ⟨b1, o1, none⟩) n c from by simp [upd, e0, e1, e7, e9])]; first | rfl | simp [go_sem]) fun F5 => ?_
                refine lyp F5 rfl HCC rfl (by omega) (want_yes F5 rfl (e := 34) rfl (by omega) (show _ = Value.bool true from by simp [upd, e0, e1, e7, e9])) (v := Value.int .i64 (p : Int)) (fun wr hwr => by simp only [execOp, (F5.eval 9 (by omega)).trans (show _ = Value.int .i64 (p : Int) from by simp [upd, e0, e1, e7, e9])]; first | rfl | simp [go_sem]) fun F6 => ?_
                refine lyp F6 rfl HCC rfl (by omega) (want_yes F6 rfl (e := 34) rfl (by omega) (show _ = Value.bool true from by simp [upd, e0, e1, e7, e9])) (v := Value.pointer (some ⟨b1, o1 + p, none⟩)) (fun wr hwr => by simp only [execOp, (F6.eval 35 (by omega)).trans (show _ = Value.slice (some ⟨b1, o1, none⟩) n c from by simp [upd, e0, e1, e7, e9]), (F6.eval 36 (by omega)).trans (show _ = Value.int .i64 (p : Int) from by simp [upd, e0, e1, e7, e9])]; simp [go_sem, hp2]) fun F7 => ?_
                refine lyp F7 rfl HCC rfl (by omega) (want_yes F7 rfl (e := 34) rfl (by omega) (show _ = Value.bool true from by simp [upd, e0, e1, e7, e9])) (v := Value.int .i64 z) (fun wr hwr => by simp only [execOp, (F7.eval 37 (by omega)).trans (show _ = Value.pointer (some ⟨b1, o1 + p, none⟩) from by simp [upd, e0, e1, e7, e9])]; simp [go_sem, hwr _, cj]) fun F8 => ?_
                refine lyp F8 rfl HCC rfl (by omega) (want_yes F8 rfl (e := 34) rfl (by omega) (show _ = Value.bool true from by simp [upd, e0, e1, e7, e9])) (v := Value.bool true) (fun wr hwr => by simp only [execOp, (F8.eval 38 (by omega)).trans (show _ = Value.int .i64 z from by simp [upd, e0, e1, e7, e9])]; simp [go_sem, Act.eval, hz]) fun F9 => ?_
                refine lyp F9 rfl HCC rfl (by omega) (wanted_none rfl) (v := Value.bool true) (fun wr hwr => by simp only [execOp, (F9.eval 34 (by omega)).trans (show _ = Value.bool true from by simp [upd, e0, e1, e7, e9]), (F9.eval 39 (by omega)).trans (show _ = Value.bool true from by simp [upd, e0, e1, e7, e9])]; simp [go_sem, Act.eval]) fun F10 => ?_
                refine lyp F10 rfl HCC rfl (by omega) (wanted_none rfl) (v := Value.bool true) (fun wr hwr => by simp only [execOp, (F10.eval 40 (by omega)).trans (show _ = Value.bool true from by simp [upd, e0, e1, e7, e9])]; first | rfl | simp [go_sem]) fun F11 => ?_
                refine lyp F11 rfl HCC rfl (by omega) (want_yes F11 rfl (e := 41) rfl (by omega) (show _ = Value.bool true from by simp [upd, e0, e1, e7, e9])) (v := Value.int .i64 (-1)) (fun wr hwr => by simp only [execOp, (F11.eval 7 (by omega)).trans (show _ = Value.int .i64 (-1) from by simp [upd, e0, e1, e7, e9])]; first | rfl | simp [go_sem]) fun F12 => ?_
                refine lyp F12 rfl HCC rfl (by omega) (want_yes F12 rfl (e := 41) rfl (by omega) (show _ = Value.bool true from by simp [upd, e0, e1, e7, e9])) (v := Value.bool true) (fun wr hwr => by simp only [execOp, (F12.eval 42 (by omega)).trans (show _ = Value.int .i64 (-1) from by simp [upd, e0, e1, e7, e9])]; simp [go_sem, Act.eval]) fun F13 => ?_
                refine lyp F13 rfl HCC rfl (by omega) (want_yes F13 rfl (e := 41) rfl (by omega) (show _ = Value.bool true from by simp [upd, e0, e1, e7, e9])) (v := Value.bool true) (fun wr hwr => by simp only [execOp, (F13.eval 43 (by omega)).trans (show _ = Value.bool true from by simp [upd, e0, e1, e7, e9])]; first | rfl | simp [go_sem]) fun F14 => ?_
                refine lnp F14 rfl HCC rfl (by omega) (want_no F14 rfl (e := 44) rfl (by omega) (show _ = Value.bool true from by simp [upd, e0, e1, e7, e9]) (by decide)) fun F15 => ?_
                refine lnp F15 rfl HCC rfl (by omega) (want_no F15 rfl (e := 44) rfl (by omega) (show _ = Value.bool true from by simp [upd, e0, e1, e7, e9]) (by decide)) fun F16 => ?_
                refine lnp F16 rfl HCC rfl (by omega) (want_no F16 rfl (e := 44) rfl (by omega) (show _ = Value.bool true from by simp [upd, e0, e1, e7, e9]) (by decide)) fun F17 => ?_
                refine lnp F17 rfl HCC rfl (by omega) (want_no F17 rfl (e := 44) rfl (by omega) (show _ = Value.bool true from by simp [upd, e0, e1, e7, e9]) (by decide)) fun F18 => ?_
                refine lnp F18 rfl HCC rfl (by omega) (want_no F18 rfl (e := 44) rfl (by omega) (show _ = Value.bool true from by simp [upd, e0, e1, e7, e9]) (by decide)) fun F19 => ?_
                refine lnp F19 rfl HCC rfl (by omega) (want_no F19 rfl (e := 44) rfl (by omega) (show _ = Value.bool true from by simp [upd, e0, e1, e7, e9]) (by decide)) fun F20 => ?_
                refine lnp F20 rfl HCC rfl (by omega) (want_no F20 rfl (e := 44) rfl (by omega) (show _ = Value.bool true from by simp [upd, e0, e1, e7, e9]) (by decide)) fun F21 => ?_
                refine lnp F21 rfl HCC rfl (by omega) (want_no F21 rfl (e := 44) rfl (by omega) (show _ = Value.bool true from by simp [upd, e0, e1, e7, e9]) (by decide)) fun F22 => ?_
                refine lnp F22 rfl HCC rfl (by omega) (want_no F22 rfl (e := 44) rfl (by omega) (show _ = Value.bool true from by simp [upd, e0, e1, e7, e9]) (by decide)) fun F23 => ?_
                refine lyp F23 rfl HCC rfl (by omega) (want_yes F23 rfl (e := 41) rfl (by omega) (show _ = Value.bool true from by simp [upd, e0, e1, e7, e9])) (v := Value.bool true) (fun wr hwr => by simp only [execOp, (F23.eval 44 (by omega)).trans (show _ = Value.bool true from by simp [upd, e0, e1, e7, e9])]; simp [go_sem, Act.eval]) fun F24 => ?_
                refine lyp F24 rfl HCC rfl (by omega) (wanted_none rfl) (v := Value.bool true) (fun wr hwr => by simp only [execOp, (F24.eval 41 (by omega)).trans (show _ = Value.bool true from by simp [upd, e0, e1, e7, e9]), (F24.eval 54 (by omega)).trans (show _ = Value.bool true from by simp [upd, e0, e1, e7, e9])]; simp [go_sem, Act.eval]) fun F25 => ?_
                refine ⟨fun _ => HCC, ?_⟩
                refine hK _ _ ?_
                clear F0 F1 F2 F3 F4 F5 F6 F7 F8 F9 F10 F11 F12 F13 F14 F15 F16 F17 F18 F19 F20 F21 F22 F23 F24 F25 e0 e1 e7 e9 HCC
                simp only [Act.put, List.setIfInBounds_toArray, List.set_cons_succ, List.set_cons_zero]
                generalize hY : (({ wr with drawn := wr.drawn + 1 } : World)) = Y
                have hY2 : Y = w.drewN (q + 1) := by rw [← hY, HWQ.out]; rfl
                have HY : Hid _ := hY2
                clear hY hY2 HWQ cj
                try clear hm
                go_wp2
                go_roundw
                case rel => exact ⟨k + 1, q + 1, by omega, by go_num, by rw [HS.out], HY.out⟩
                case measure => simp [intOf]; omega
              · rw [ha] at hs ⊢
                rw [hl] at hp0n
                obtain ⟨b2, o2, hao, e2⟩ := FromI.at (k := p0) HX.out (by omega)
                cases hao
                have cp : wr.cell? ⟨b1, o1 + p0, none⟩ = some (.int .i64 (at0 zs p0)) := by rw [HWQ.out]; exact e2
                clear e2 ha
                by_cases hzz : at0 zs p0 < at0 zs p
                · rw [askStep_yes hm hzz] at hs
                  have HS : Hid _ := hs
                  clear hs
                  generalize at0 zs p = z at *
                  generalize at0 zs p0 = zp at *
                  go_wp2_with fail
                  rename_i K hK
                  try rw [show ∀ a : Act, a.put none undef = a from fun _ => rfl]
                  refine wp_region_mix (fun wq => ∀ p : Addr, wq.cell? p = wr.cell? p) (fun i => i == 99) 99 (by kernel_rfl) rfl (by kernel_rfl) (by kernel_rfl) (by kernel_rfl) ?_
                  refine withFrP (N := 58) rfl ?_
                  intro f0 F0 hff
                  have e0 : f0 0 = Value.int .i64 (m : Int) := hff 0
                  have e1 : f0 1 = Value.slice (some ⟨b1, o1, none⟩) n c := hff 1
                  have e7 : f0 7 = Value.int .i64 (p0 : Int) := hff 7
                  have e9 : f0 9 = Value.int .i64 (p : Int) := hff 9
                  clear hff
                  have HCC : ∀ p : Addr, (({ wr with drawn := wr.drawn + 1 } : World)).cell? p = wr.cell? p := fun _ => rfl
                  refine lyp F0 rfl HCC rfl (by omega) (wanted_none rfl) (v := Value.int .i64 (p : Int)) (fun wr hwr => by simp only [execOp, (F0.eval 9 (by omega)).trans (show _ = Value.int .i64 (p : Int) from by simp [upd, e0, e1, e7, e9])]; first | rfl | simp [go_sem]) fun F1 => ?_
                  refine lyp F1 rfl HCC rfl (by omega) (wanted_none rfl) (v := Value.int .i64 (m : Int)) (fun wr hwr => by simp only [execOp, (F1.eval 0 (by omega)).trans (show _ = Value.int .i64 (m : Int) from by simp [upd, e0, e1, e7, e9])]; first | rfl | simp [go_sem]) fun F2 => ?_
                  refine lyp F2 rfl HCC rfl (by omega) (wanted_none rfl) (v := Value.bool true) (fun wr hwr => by simp only [execOp, (F2.eval 31 (by omega)).trans (show _ = Value.int .i64 (p : Int) from by simp [upd, e0, e1, e7, e9]), (F2.eval 32 (by omega)).trans (show _ = Value.int .i64 (m : Int) from by simp [upd, e0, e1, e7, e9])]; simp [go_sem, Act.eval, hm]) fun F3 => ?_
                  refine lyp F3 rfl HCC rfl (by omega) (wanted_none rfl) (v := Value.bool true) (fun wr hwr => by simp only [execOp, (F3.eval 33 (by omega)).trans (show _ = Value.bool true from by simp [upd, e0, e1, e7, e9])]; first | rfl | simp [go_sem]) fun F4 => ?_
                  refine lyp F4 rfl HCC rfl (by omega) (want_yes F4 rfl (e := 34) rfl (by omega) (show _ = Value.bool true from by simp [upd, e0, e1, e7, e9])) (v := Value.slice (some ⟨b1, o1, none⟩) n c) (fun wr hwr => by simp only [execOp, (F4.eval 1 (by omega)).trans (show _ = Value.slice (some ⟨b1, o1, none⟩) n c from by simp [upd, e0, e1, e7, e9])]; first | rfl | simp [go_sem]) fun F5 => ?_
                  refine lyp F5 rfl HCC rfl (by omega) (want_yes F5 rfl (e := 34) rfl (by omega) (show _ = Value.bool true from by simp [upd, e0, e1, e7, e9])) (v := Value.int .i64 (p : Int)) (fun wr hwr => by simp only [execOp, (F5.eval 9 (by omega)).trans (show _ = Value.int .i64 (p : Int) from by simp [upd, e0, e1, e7, e9])]; first | rfl | simp [go_sem]) fun F6 => ?_
                  refine lyp F6 rfl HCC rfl (by omega) (want_yes F6 rfl (e := 34) rfl (by omega) (show _ = Value.bool true from by simp [upd, e0, e1, e7, e9])) (v := Value.pointer (some ⟨b1, o1 + p, none⟩)) (fun wr hwr => by simp only [execOp, (F6.eval 35 (by omega)).trans (show _ = Value.slice (some ⟨b1, o1, none⟩) n c from by simp [upd, e0, e1, e7, e9]), (F6.eval 36 (by omega)).trans (show _ = Value.int .i64 (p : Int) from by simp [upd, e0, e1, e7, e9])]; simp [go_sem, hp2]) fun F7 => ?_
                  refine lyp F7 rfl HCC rfl (by omega) (want_yes F7 rfl (e := 34) rfl (by omega) (show _ = Value.bool true from by simp [upd, e0, e1, e7, e9])) (v := Value.int .i64 z) (fun wr hwr => by simp only [execOp, (F7.eval 37 (by omega)).trans (show _ = Value.pointer (some ⟨b1, o1 + p, none⟩) from by simp [upd, e0, e1, e7, e9])]; simp [go_sem, hwr _, cj]) fun F8 => ?_
                  refine lyp F8 rfl HCC rfl (by omega) (want_yes F8 rfl (e := 34) rfl (by omega) (show _ = Value.bool true from by simp [upd, e0, e1, e7, e9])) (v := Value.bool true) (fun wr hwr => by simp only [execOp, (F8.eval 38 (by omega)).trans (show _ = Value.int .i64 z from by simp [upd, e0, e1, e7, e9])]; simp [go_sem, Act.eval, hz]) fun F9 => ?_
                  refine lyp F9 rfl HCC rfl (by omega) (wanted_none rfl) (v := Value.bool true) (fun wr hwr => by simp only [execOp, (F9.eval 34 (by omega)).trans (show _ = Value.bool true from by simp [upd, e0, e1, e7, e9]), (F9.eval 39 (by omega)).trans (show _ = Value.bool true from by simp [upd, e0, e1, e7, e9])]; simp [go_sem, Act.eval]) fun F10 => ?_
                  refine lyp F10 rfl HCC rfl (by omega) (wanted_none rfl) (v := Value.bool true) (fun wr hwr => by simp only [execOp, (F10.eval 40 (by omega)).trans (show _ = Value.bool true from by simp [upd, e0, e1, e7, e9])]; first | rfl | simp [go_sem]) fun F11 => ?_
                  refine lyp F11 rfl HCC rfl (by omega) (want_yes F11 rfl (e := 41) rfl (by omega) (show _ = Value.bool true from by simp [upd, e0, e1, e7, e9])) (v := Value.int .i64 (p0 : Int)) (fun wr hwr => by simp only [execOp, (F11.eval 7 (by omega)).trans (show _ = Value.int .i64 (p0 : Int) from by simp [upd, e0, e1, e7, e9])]; first | rfl | simp [go_sem]) fun F12 => ?_
                  refine lyp F12 rfl HCC rfl (by omega) (want_yes F12 rfl (e := 41) rfl (by omega) (show _ = Value.bool true from by simp [upd, e0, e1, e7, e9])) (v := Value.bool false) (fun wr hwr => by simp only [execOp, (F12.eval 42 (by omega)).trans (show _ = Value.int .i64 (p0 : Int) from by simp [upd, e0, e1, e7, e9])]; simp [go_sem, Act.eval]) fun F13 => ?_
                  refine lyp F13 rfl HCC rfl (by omega) (want_yes F13 rfl (e := 41) rfl (by omega) (show _ = Value.bool true from by simp [upd, e0, e1, e7, e9])) (v := Value.bool false) (fun wr hwr => by simp only [execOp, (F13.eval 43 (by omega)).trans (show _ = Value.bool false from by simp [upd, e0, e1, e7, e9])]; first | rfl | simp [go_sem]) fun F14 => ?_
                  refine lyp F14 rfl HCC rfl (by omega) (want_yes F14 rfl (e := 44) rfl (by omega) (show _ = Value.bool false from by simp [upd, e0, e1, e7, e9])) (v := Value.slice (some ⟨b1, o1, none⟩) n c) (fun wr hwr => by simp only [execOp, (F14.eval 1 (by omega)).trans (show _ = Value.slice (some ⟨b1, o1, none⟩) n c from by simp [upd, e0, e1, e7, e9])]; first | rfl | simp [go_sem]) fun F15 => ?_
                  refine lyp F15 rfl HCC rfl (by omega) (want_yes F15 rfl (e := 44) rfl (by omega) (show _ = Value.bool false from by simp [upd, e0, e1, e7, e9])) (v := Value.int .i64 (p : Int)) (fun wr hwr => by simp only [execOp, (F15.eval 9 (by omega)).trans (show _ = Value.int .i64 (p : Int) from by simp [upd, e0, e1, e7, e9])]; first | rfl | simp [go_sem]) fun F16 => ?_
                  refine lyp F16 rfl HCC rfl (by omega) (want_yes F16 rfl (e := 44) rfl (by omega) (show _ = Value.bool false from by simp [upd, e0, e1, e7, e9])) (v := Value.pointer (some ⟨b1, o1 + p, none⟩)) (fun wr hwr => by simp only [execOp, (F16.eval 45 (by omega)).trans (show _ = Value.slice (some ⟨b1, o1, none⟩) n c from by simp [upd, e0, e1, e7, e9]), (F16.eval 46 (by omega)).trans (show _ = Value.int .i64 (p : Int) from by simp [upd, e0, e1, e7, e9])]; simp [go_sem, hp2]) fun F17 => ?_
                  refine lyp F17 rfl HCC rfl (by omega) (want_yes F17 rfl (e := 44) rfl (by omega) (show _ = Value.bool false from by simp [upd, e0, e1, e7, e9])) (v := Value.int .i64 z) (fun wr hwr => by simp only [execOp, (F17.eval 47 (by omega)).trans (show _ = Value.pointer (some ⟨b1, o1 + p, none⟩) from by simp [upd, e0, e1, e7, e9])]; simp [go_sem, hwr _, cj]) fun F18 => ?_
                  refine lyp F18 rfl HCC rfl (by omega) (want_yes F18 rfl (e := 44) rfl (by omega) (show _ = Value.bool false from by simp [upd, e0, e1, e7, e9])) (v := Value.slice (some ⟨b1, o1, none⟩) n c) (fun wr hwr => by simp only [execOp, (F18.eval 1 (by omega)).trans (show _ = Value.slice (some ⟨b1, o1, none⟩) n c from by simp [upd, e0, e1, e7, e9])]; first | rfl | simp [go_sem]) fun F19 => ?_
                  refine lyp F19 rfl HCC rfl (by omega) (want_yes F19 rfl (e := 44) rfl (by omega) (show _ = Value.bool false from by simp [upd, e0, e1, e7, e9])) (v := Value.int .i64 (p0 : Int)) (fun wr hwr => by simp only [execOp, (F19.eval 7 (by omega)).trans (show _ = Value.int .i64 (p0 : Int) from by simp [upd, e0, e1, e7, e9])]; first | rfl | simp [go_sem]) fun F20 => ?_
                  refine lyp F20 rfl HCC rfl (by omega) (want_yes F20 rfl (e := 44) rfl (by omega) (show _ = Value.bool false from by simp [upd, e0, e1, e7, e9])) (v := Value.pointer (some ⟨b1, o1 + p0, none⟩)) (fun wr hwr => by simp only [execOp, (F20.eval 49 (by omega)).trans (show _ = Value.slice (some ⟨b1, o1, none⟩) n c from by simp [upd, e0, e1, e7, e9]), (F20.eval 50 (by omega)).trans (show _ = Value.int .i64 (p0 : Int) from by simp [upd, e0, e1, e7, e9])]; simp [go_sem, hp0n]) fun F21 => ?_
                  refine lyp F21 rfl HCC rfl (by omega) (want_yes F21 rfl (e := 44) rfl (by omega) (show _ = Value.bool false from by simp [upd, e0, e1, e7, e9])) (v := Value.int .i64 zp) (fun wr hwr => by simp only [execOp, (F21.eval 51 (by omega)).trans (show _ = Value.pointer (some ⟨b1, o1 + p0, none⟩) from by simp [upd, e0, e1, e7, e9])]; simp [go_sem, hwr _, cp]) fun F22 => ?_
                  refine lyp F22 rfl HCC rfl (by omega) (want_yes F22 rfl (e := 44) rfl (by omega) (show _ = Value.bool false from by simp [upd, e0, e1, e7, e9])) (v := Value.bool true) (fun wr hwr => by simp only [execOp, (F22.eval 48 (by omega)).trans (show _ = Value.int .i64 z from by simp [upd, e0, e1, e7, e9]), (F22.eval 52 (by omega)).trans (show _ = Value.int .i64 zp from by simp [upd, e0, e1, e7, e9])]; simp [go_sem, Act.eval, hzz]) fun F23 => ?_
                  refine lyp F23 rfl HCC rfl (by omega) (want_yes F23 rfl (e := 41) rfl (by omega) (show _ = Value.bool true from by simp [upd, e0, e1, e7, e9])) (v := Value.bool true) (fun wr hwr => by simp only [execOp, (F23.eval 44 (by omega)).trans (show _ = Value.bool false from by simp [upd, e0, e1, e7, e9]), (F23.eval 53 (by omega)).trans (show _ = Value.bool true from by simp [upd, e0, e1, e7, e9])]; simp [go_sem, Act.eval]) fun F24 => ?_
                  refine lyp F24 rfl HCC rfl (by omega) (wanted_none rfl) (v := Value.bool true) (fun wr hwr => by simp only [execOp, (F24.eval 41 (by omega)).trans (show _ = Value.bool true from by simp [upd, e0, e1, e7, e9]), (F24.eval 54 (by omega)).trans (show _ = Value.bool true from by simp [upd, e0, e1, e7, e9])]; simp [go_sem, Act.eval]) fun F25 => ?_
                  refine ⟨fun _ => HCC, ?_⟩
                  refine hK _ _ ?_
                  clear F0 F1 F2 F3 F4 F5 F6 F7 F8 F9 F10 F11 F12 F13 F14 F15 F16 F17 F18 F19 F20 F21 F22 F23 F24 F25 e0 e1 e7 e9 HCC
                  simp only [Act.put, List.setIfInBounds_toArray, List.set_cons_succ, List.set_cons_zero]
                  generalize hY : (({ wr with drawn := wr.drawn + 1 } : World)) = Y
                  have hY2 : Y = w.drewN (q + 1) := by rw [← hY, HWQ.out]; rfl
                  have HY : Hid _ := hY2
                  clear hY hY2 HWQ cj cp
                  try clear hm
                  go_wp2
                  go_roundw
                  case rel => exact ⟨k + 1, q + 1, by omega, by go_num, by rw [HS.out], HY.out⟩
                  case measure => simp [intOf]; omega
                · rw [askStep_le hzz] at hs
                  have HS : Hid _ := hs
                  clear hs
                  generalize at0 zs p = z at *
                  generalize at0 zs p0 = zp at *
                  replace hzz : z ≤ zp := by omega
                  go_wp2_with fail
                  rename_i K hK
                  try rw [show ∀ a : Act, a.put none undef = a from fun _ => rfl]
                  refine wp_region_mix (fun wq => ∀ p : Addr, wq.cell? p = wr.cell? p) (fun i => i == 99) 99 (by kernel_rfl) rfl (by kernel_rfl) (by kernel_rfl) (by kernel_rfl) ?_
                  refine withFrP (N := 58) rfl ?_
                  intro f0 F0 hff
                  have e0 : f0 0 = Value.int .i64 (m : Int) := hff 0
                  have e1 : f0 1 = Value.slice (some ⟨b1, o1, none⟩) n c := hff 1
                  have e7 : f0 7 = Value.int .i64 (p0 : Int) := hff 7
                  have e9 : f0 9 = Value.int .i64 (p : Int) := hff 9
                  clear hff
                  have HCC : ∀ p : Addr, (({ wr with drawn := wr.drawn + 1 } : World)).cell? p = wr.cell? p := fun _ => rfl
                  refine lyp F0 rfl HCC rfl (by omega) (wanted_none rfl) (v := Value.int .i64 (p : Int)) (fun wr hwr => by simp only [execOp, (F0.eval 9 (by omega)).trans (show _ = Value.int .i64 (p : Int) from by simp [upd, e0, e1, e7, e9])]; first | rfl | simp [go_sem]) fun F1 => ?_
                  refine lyp F1 rfl HCC rfl (by omega) (wanted_none rfl) (v := Value.int .i64 (m : Int)) (fun wr hwr => by simp only [execOp, (F1.eval 0 (by omega)).trans (show _ = Value.int .i64 (m : Int) from by simp [upd, e0, e1, e7, e9])]; first | rfl | simp [go_sem]) fun F2 => ?_
                  refine lyp F2 rfl HCC rfl (by omega) (wanted_none rfl) (v := Value.bool true) (fun wr hwr => by simp only [execOp, (F2.eval 31 (by omega)).trans (show _ = Value.int .i64 (p : Int) from by simp [upd, e0, e1, e7, e9]), (F2.eval 32 (by omega)).trans (show _ = Value.int .i64 (m : Int) from by simp [upd, e0, e1, e7, e9])]; simp [go_sem, Act.eval, hm]) fun F3 => ?_
                  refine lyp F3 rfl HCC rfl (by omega) (wanted_none rfl) (v := Value.bool true) (fun wr hwr => by simp only [execOp, (F3.eval 33 (by omega)).trans (show _ = Value.bool true from by simp [upd, e0, e1, e7, e9])]; first | rfl | simp [go_sem]) fun F4 => ?_
                  refine lyp F4 rfl HCC rfl (by omega) (want_yes F4 rfl (e := 34) rfl (by omega) (show _ = Value.bool true from by simp [upd, e0, e1, e7, e9])) (v := Value.slice (some ⟨b1, o1, none⟩) n c) (fun wr hwr => by simp only [execOp, (F4.eval 1 (by omega)).trans (show _ = Value.slice (some ⟨b1, o1, none⟩) n c from by simp [upd, e0, e1, e7, e9])]; first | rfl | simp [go_sem]) fun F5 => ?_
                  refine lyp F5 rfl HCC rfl (by omega) (want_yes F5 rfl (e := 34) rfl (by omega) (show _ = Value.bool true from by simp [upd, e0, e1, e7, e9])) (v := Value.int .i64 (p : Int)) (fun wr hwr => by simp only [execOp, (F5.eval 9 (by omega)).trans (show _ = Value.int .i64 (p : Int) from by simp [upd, e0, e1, e7, e9])]; first | rfl | simp [go_sem]) fun F6 => ?_
                  refine lyp F6 rfl HCC rfl (by omega) (want_yes F6 rfl (e := 34) rfl (by omega) (show _ = Value.bool true from by simp [upd, e0, e1, e7, e9])) (v := Value.pointer (some ⟨b1, o1 + p, none⟩)) (fun wr hwr => by simp only [execOp, (F6.eval 35 (by omega)).trans (show _ = Value.slice (some ⟨b1, o1, none⟩) n c from by simp [upd, e0, e1, e7, e9]), (F6.eval 36 (by omega)).trans (show _ = Value.int .i64 (p : Int) from by simp [upd, e0, e1, e7, e9])]; simp [go_sem, hp2]) fun F7 => ?_
                  refine lyp F7 rfl HCC rfl (by omega) (want_yes F7 rfl (e := 34) rfl (by omega) (show _ = Value.bool true from by simp [upd, e0, e1, e7, e9])) (v := Value.int .i64 z) (fun wr hwr => by simp only [execOp, (F7.eval 37 (by omega)).trans (show _ = Value.pointer (some ⟨b1, o1 + p, none⟩) from by simp [upd, e0, e1, e7, e9])]; simp [go_sem, hwr _, cj]) fun F8 => ?_
                  refine lyp F8 rfl HCC rfl (by omega) (want_yes F8 rfl (e := 34) rfl (by omega) (show _ = Value.bool true from by simp [upd, e0, e1, e7, e9])) (v := Value.bool true) (fun wr hwr => by simp only [execOp, (F8.eval 38 (by omega)).trans (show _ = Value.int .i64 z from by simp [upd, e0, e1, e7, e9])]; simp [go_sem, Act.eval, hz]) fun F9 => ?_
                  refine lyp F9 rfl HCC rfl (by omega) (wanted_none rfl) (v := Value.bool true) (fun wr hwr => by simp only [execOp, (F9.eval 34 (by omega)).trans (show _ = Value.bool true from by simp [upd, e0, e1, e7, e9]), (F9.eval 39 (by omega)).trans (show _ = Value.bool true from by simp [upd, e0, e1, e7, e9])]; simp [go_sem, Act.eval]) fun F10 => ?_
                  refine lyp F10 rfl HCC rfl (by omega) (wanted_none rfl) (v := Value.bool true) (fun wr hwr => by simp only [execOp, (F10.eval 40 (by omega)).trans (show _ = Value.bool true from by simp [upd, e0, e1, e7, e9])]; first | rfl | simp [go_sem]) fun F11 => ?_
                  refine lyp F11 rfl HCC rfl (by omega) (want_yes F11 rfl (e := 41) rfl (by omega) (show _ = Value.bool true from by simp [upd, e0, e1, e7, e9])) (v := Value.int .i64 (p0 : Int)) (fun wr hwr => by simp only [execOp, (F11.eval 7 (by omega)).trans (show _ = Value.int .i64 (p0 : Int) from by simp [upd, e0, e1, e7, e9])]; first | rfl | simp [go_sem]) fun F12 => ?_
                  refine lyp F12 rfl HCC rfl (by omega) (want_yes F12 rfl (e := 41) rfl (by omega) (show _ = Value.bool true from by simp [upd, e0, e1, e7, e9])) (v := Value.bool false) (fun wr hwr => by simp only [execOp, (F12.eval 42 (by omega)).trans (show _ = Value.int .i64 (p0 : Int) from by simp [upd, e0, e1, e7, e9])]; simp [go_sem, Act.eval]) fun F13 => ?_
                  refine lyp F13 rfl HCC rfl (by omega) (want_yes F13 rfl (e := 41) rfl (by omega) (show _ = Value.bool true from by simp [upd, e0, e1, e7, e9])) (v := Value.bool false) (fun wr hwr => by simp only [execOp, (F13.eval 43 (by omega)).trans (show _ = Value.bool false from by simp [upd, e0, e1, e7, e9])]; first | rfl | simp [go_sem]) fun F14 => ?_
                  refine lyp F14 rfl HCC rfl (by omega) (want_yes F14 rfl (e := 44) rfl (by omega) (show _ = Value.bool false from by simp [upd, e0, e1, e7, e9])) (v := Value.slice (some ⟨b1, o1, none⟩) n c) (fun wr hwr => by simp only [execOp, (F14.eval 1 (by omega)).trans (show _ = Value.slice (some ⟨b1, o1, none⟩) n c from by simp [upd, e0, e1, e7, e9])]; first | rfl | simp [go_sem]) fun F15 => ?_
                  refine lyp F15 rfl HCC rfl (by omega) (want_yes F15 rfl (e := 44) rfl (by omega) (show _ = Value.bool false from by simp [upd, e0, e1, e7, e9])) (v := Value.int .i64 (p : Int)) (fun wr hwr => by simp only [execOp, (F15.eval 9 (by omega)).trans (show _ = Value.int .i64 (p : Int) from by simp [upd, e0, e1, e7, e9])]; first | rfl | simp [go_sem]) fun F16 => ?_
                  refine lyp F16 rfl HCC rfl (by omega) (want_yes F16 rfl (e := 44) rfl (by omega) (show _ = Value.bool false from by simp [upd, e0, e1, e7, e9])) (v := Value.pointer (some ⟨b1, o1 + p, none⟩)) (fun wr hwr => by simp only [execOp, (F16.eval 45 (by omega)).trans (show _ = Value.slice (some ⟨b1, o1, none⟩) n c from by simp [upd, e0, e1, e7, e9]), (F16.eval 46 (by omega)).trans (show _ = Value.int .i64 (p : Int) from by simp [upd, e0, e1, e7, e9])]; simp [go_sem, hp2]) fun F17 => ?_
                  refine lyp F17 rfl HCC rfl (by omega) (want_yes F17 rfl (e := 44) rfl (by omega) (show _ = Value.bool false from by simp [upd, e0, e1, e7, e9])) (v := Value.int .i64 z) (fun wr hwr => by simp only [execOp, (F17.eval 47 (by omega)).trans (show _ = Value.pointer (some ⟨b1, o1 + p, none⟩) from by simp [upd, e0, e1, e7, e9])]; simp [go_sem, hwr _, cj]) fun F18 => ?_
                  refine lyp F18 rfl HCC rfl (by omega) (want_yes F18 rfl (e := 44) rfl (by omega) (show _ = Value.bool false from by simp [upd, e0, e1, e7, e9])) (v := Value.slice (some ⟨b1, o1, none⟩) n c) (fun wr hwr => by simp only [execOp, (F18.eval 1 (by omega)).trans (show _ = Value.slice (some ⟨b1, o1, none⟩) n c from by simp [upd, e0, e1, e7, e9])]; first | rfl | simp [go_sem]) fun F19 => ?_
                  refine lyp F19 rfl HCC rfl (by omega) (want_yes F19 rfl (e := 44) rfl (by omega) (show _ = Value.bool false from by simp [upd, e0, e1, e7, e9])) (v := Value.int .i64 (p0 : Int)) (fun wr hwr => by simp only [execOp, (F19.eval 7 (by omega)).trans (show _ = Value.int .i64 (p0 : Int) from by simp [upd, e0, e1, e7, e9])]; first | rfl | simp [go_sem]) fun F20 => ?_
                  refine lyp F20 rfl HCC rfl (by omega) (want_yes F20 rfl (e := 44) rfl (by omega) (show _ = Value.bool false from by simp [upd, e0, e1, e7, e9])) (v := Value.pointer (some ⟨b1, o1 + p0, none⟩)) (fun wr hwr => by simp only [execOp, (F20.eval 49 (by omega)).trans (show _ = Value.slice (some ⟨b1, o1, none⟩) n c from by simp [upd, e0, e1, e7, e9]), (F20.eval 50 (by omega)).trans (show _ = Value.int .i64 (p0 : Int) from by simp [upd, e0, e1, e7, e9])]; simp [go_sem, hp0n]) fun F21 => ?_
                  refine lyp F21 rfl HCC rfl (by omega) (want_yes F21 rfl (e := 44) rfl (by omega) (show _ = Value.bool false from by simp [upd, e0, e1, e7, e9])) (v := Value.int .i64 zp) (fun wr hwr => by simp only [execOp, (F21.eval 51 (by omega)).trans (show _ = Value.pointer (some ⟨b1, o1 + p0, none⟩) from by simp [upd, e0, e1, e7, e9])]; simp [go_sem, hwr _, cp]) fun F22 => ?_
                  refine lyp F22 rfl HCC rfl (by omega) (want_yes F22 rfl (e := 44) rfl (by omega) (show _ = Value.bool false from by simp [upd, e0, e1, e7, e9])) (v := Value.bool false) (fun wr hwr => by simp only [execOp, (F22.eval 48 (by omega)).trans (show _ = Value.int .i64 z from by simp [upd, e0, e1, e7, e9]), (F22.eval 52 (by omega)).trans (show _ = Value.int .i64 zp from by simp [upd, e0, e1, e7, e9])]; simp [go_sem, Act.eval, hzz]) fun F23 => ?_
                  refine lyp F23 rfl HCC rfl (by omega) (want_yes F23 rfl (e := 41) rfl (by omega) (show _ = Value.bool true from by simp [upd, e0, e1, e7, e9])) (v := Value.bool false) (fun wr hwr => by simp only [execOp, (F23.eval 44 (by omega)).trans (show _ = Value.bool false from by simp [upd, e0, e1, e7, e9]), (F23.eval 53 (by omega)).trans (show _ = Value.bool false from by simp [upd, e0, e1, e7, e9])]; simp [go_sem, Act.eval]) fun F24 => ?_
                  refine lyp F24 rfl HCC rfl (by omega) (wanted_none rfl) (v := Value.bool false) (fun wr hwr => by simp only [execOp, (F24.eval 41 (by omega)).trans (show _ = Value.bool true from by simp [upd, e0, e1, e7, e9]), (F24.eval 54 (by omega)).trans (show _ = Value.bool false from by simp [upd, e0, e1, e7, e9])]; simp [go_sem, Act.eval]) fun F25 => ?_
                  refine ⟨fun _ => HCC, ?_⟩
                  refine hK _ _ ?_
                  clear F0 F1 F2 F3 F4 F5 F6 F7 F8 F9 F10 F11 F12 F13 F14 F15 F16 F17 F18 F19 F20 F21 F22 F23 F24 F25 e0 e1 e7 e9 HCC
                  simp only [Act.put, List.setIfInBounds_toArray, List.set_cons_succ, List.set_cons_zero]
                  generalize hY : (({ wr with drawn := wr.drawn + 1 } : World)) = Y
                  have hY2 : Y = w.drewN (q + 1) := by rw [← hY, HWQ.out]; rfl
                  have HY : Hid _ := hY2
                  clear hY hY2 HWQ cj cp
                  try clear hm
                  go_wp2
                  go_roundw
                  case rel => exact ⟨k + 1, q + 1, by omega, by go_num, by rw [HS.out], HY.out⟩
                  case measure => simp [intOf]; omega
            · have hs2 : askTo (m : Int) zs (k + 1) = askTo (m : Int) zs k := by
                rw [hs]
                apply askStep_le
                rcases hai with ⟨ha, _⟩ | ⟨p0, _, ha, _, hp00, _⟩ <;> rw [ha] <;> simp only <;> omega
              have HS : Hid _ := hs2
              clear hs hs2 hai
              generalize askTo (m : Int) zs k = acc at HS
              generalize at0 zs p = z at *
              replace hz : z ≤ 0 := by omega
              go_wp2_with fail
              rename_i K hK
              try rw [show ∀ a : Act, a.put none undef = a from fun _ => rfl]
              refine wp_region_mix (fun wq => ∀ p : Addr, wq.cell? p = wr.cell? p) (fun i => i == 99) 99 (by kernel_rfl) rfl (by kernel_rfl) (by kernel_rfl) (by kernel_rfl) ?_
              refine withFrP (N := 58) rfl ?_
              intro f0 F0 hff
              have e0 : f0 0 = Value.int .i64 (m : Int) := hff 0
              have e1 : f0 1 = Value.slice (some ⟨b1, o1, none⟩) n c := hff 1
              have e7 : f0 7 = Value.int .i64 acc.1 := hff 7
              have e9 : f0 9 = Value.int .i64 (p : Int) := hff 9
              clear hff
              have HCC : ∀ p : Addr, (({ wr with drawn := wr.drawn + 1 } : World)).cell? p = wr.cell? p := fun _ => rfl
              refine lyp F0 rfl HCC rfl (by omega) (wanted_none rfl) (v := Value.int .i64 (p : Int)) (fun wr hwr => by simp only [execOp, (F0.eval 9 (by omega)).trans (show _ = Value.int .i64 (p : Int) from by simp [upd, e0, e1, e7, e9])]; first | rfl | simp [go_sem]) fun F1 => ?_
              refine lyp F1 rfl HCC rfl (by omega) (wanted_none rfl) (v := Value.int .i64 (m : Int)) (fun wr hwr => by simp only [execOp, (F1.eval 0 (by omega)).trans (show _ = Value.int .i64 (m : Int) from by simp [upd, e0, e1, e7, e9])]; first | rfl | simp [go_sem]) fun F2 => ?_
              refine lyp F2 rfl HCC rfl (by omega) (wanted_none rfl) (v := Value.bool true) (fun wr hwr => by simp only [execOp, (F2.eval 31 (by omega)).trans (show _ = Value.int .i64 (p : Int) from by simp [upd, e0, e1, e7, e9]), (F2.eval 32 (by omega)).trans (show _ = Value.int .i64 (m : Int) from by simp [upd, e0, e1, e7, e9])]; simp [go_sem, Act.eval, hm]) fun F3 => ?_
              refine lyp F3 rfl HCC rfl (by omega) (wanted_none rfl) (v := Value.bool true) (fun wr hwr => by simp only [execOp, (F3.eval 33 (by omega)).trans (show _ = Value.bool true from by simp [upd, e0, e1, e7, e9])]; first | rfl | simp [go_sem]) fun F4 => ?_
              refine lyp F4 rfl HCC rfl (by omega) (want_yes F4 rfl (e := 34) rfl (by omega) (show _ = Value.bool true from by simp [upd, e0, e1, e7, e9])) (v := Value.slice (some ⟨b1, o1, none⟩) n c) (fun wr hwr => by simp only [execOp, (F4.eval 1 (by omega)).trans (show _ = Value.slice (some ⟨b1, o1, none⟩) n c from by simp [upd, e0, e1, e7, e9])]; first | rfl | simp [go_sem]) fun F5 => ?_
              refine lyp F5 rfl HCC rfl (by omega) (want_yes F5 rfl (e := 34) rfl (by omega) (show _ = Value.bool true from by simp [upd, e0, e1, e7, e9])) (v := Value.int .i64 (p : Int)) (fun wr hwr => by simp only [execOp, (F5.eval 9 (by omega)).trans (show _ = Value.int .i64 (p : Int) from by simp [upd, e0, e1, e7, e9])]; first | rfl | simp [go_sem]) fun F6 => ?_
              refine lyp F6 rfl HCC rfl (by omega) (want_yes F6 rfl (e := 34) rfl (by omega) (show _ = Value.bool true from by simp [upd, e0, e1, e7, e9])) (v := Value.pointer (some ⟨b1, o1 + p, none⟩)) (fun wr hwr => by simp only [execOp, (F6.eval 35 (by omega)).trans (show _ = Value.slice (some ⟨b1, o1, none⟩) n c from by simp [upd, e0, e1, e7, e9]), (F6.eval 36 (by omega)).trans (show _ = Value.int .i64 (p : Int) from by simp [upd, e0, e1, e7, e9])]; simp [go_sem, hp2]) fun F7 => ?_
              refine lyp F7 rfl HCC rfl (by omega) (want_yes F7 rfl (e := 34) rfl (by omega) (show _ = Value.bool true from by simp [upd, e0, e1, e7, e9])) (v := Value.int .i64 z) (fun wr hwr => by simp only [execOp, (F7.eval 37 (by omega)).trans (show _ = Value.pointer (some ⟨b1, o1 + p, none⟩) from by simp [upd, e0, e1, e7, e9])]; simp [go_sem, hwr _, cj]) fun F8 => ?_
              refine lyp F8 rfl HCC rfl (by omega) (want_yes F8 rfl (e := 34) rfl (by omega) (show _ = Value.bool true from by simp [upd, e0, e1, e7, e9])) (v := Value.bool false) (fun wr hwr => by simp only [execOp, (F8.eval 38 (by omega)).trans (show _ = Value.int .i64 z from by simp [upd, e0, e1, e7, e9])]; simp [go_sem, Act.eval, hz]) fun F9 => ?_
              refine lyp F9 rfl HCC rfl (by omega) (wanted_none rfl) (v := Value.bool false) (fun wr hwr => by simp only [execOp, (F9.eval 34 (by omega)).trans (show _ = Value.bool true from by simp [upd, e0, e1, e7, e9]), (F9.eval 39 (by omega)).trans (show _ = Value.bool false from by simp [upd, e0, e1, e7, e9])]; simp [go_sem, Act.eval]) fun F10 => ?_
              refine lyp F10 rfl HCC rfl (by omega) (wanted_none rfl) (v := Value.bool false) (fun wr hwr => by simp only [execOp, (F10.eval 40 (by omega)).trans (show _ = Value.bool false from by simp [upd, e0, e1, e7, e9])]; first | rfl | simp [go_sem]) fun F11 => ?_
              refine lnp F11 rfl HCC rfl (by omega) (want_no F11 rfl (e := 41) rfl (by omega) (show _ = Value.bool false from by simp [upd, e0, e1, e7, e9]) (by decide)) fun F12 => ?_
              refine lnp F12 rfl HCC rfl (by omega) (want_no F12 rfl (e := 41) rfl (by omega) (show _ = Value.bool false from by simp [upd, e0, e1, e7, e9]) (by decide)) fun F13 => ?_
              refine lnp F13 rfl HCC rfl (by omega) (want_no F13 rfl (e := 41) rfl (by omega) (show _ = Value.bool false from by simp [upd, e0, e1, e7, e9]) (by decide)) fun F14 => ?_
              refine lnp F14 rfl HCC rfl (by omega) (want_not F14 rfl (e := 44) rfl (by omega) (show _ = undef from by simp [upd, e0, e1, e7, e9])) fun F15 => ?_
              refine lnp F15 rfl HCC rfl (by omega) (want_not F15 rfl (e := 44) rfl (by omega) (show _ = undef from by simp [upd, e0, e1, e7, e9])) fun F16 => ?_
              refine lnp F16 rfl HCC rfl (by omega) (want_not F16 rfl (e := 44) rfl (by omega) (show _ = undef from by simp [upd, e0, e1, e7, e9])) fun F17 => ?_
              refine lnp F17 rfl HCC rfl (by omega) (want_not F17 rfl (e := 44) rfl (by omega) (show _ = undef from by simp [upd, e0, e1, e7, e9])) fun F18 => ?_
              refine lnp F18 rfl HCC rfl (by omega) (want_not F18 rfl (e := 44) rfl (by omega) (show _ = undef from by simp [upd, e0, e1, e7, e9])) fun F19 => ?_
              refine lnp F19 rfl HCC rfl (by omega) (want_not F19 rfl (e := 44) rfl (by omega) (show _ = undef from by simp [upd, e0, e1, e7, e9])) fun F20 => ?_
              refine lnp F20 rfl HCC rfl (by omega) (want_not F20 rfl (e := 44) rfl (by omega) (show _ = undef from by simp [upd, e0, e1, e7, e9])) fun F21 => ?_
              refine lnp F21 rfl HCC rfl (by omega) (want_not F21 rfl (e := 44) rfl (by omega) (show _ = undef from by simp [upd, e0, e1, e7, e9])) fun F22 => ?_
              refine lnp F22 rfl HCC rfl (by omega) (want_not F22 rfl (e := 44) rfl (by omega) (show _ = undef from by simp [upd, e0, e1, e7, e9])) fun F23 => ?_
              refine lnp F23 rfl HCC rfl (by omega) (want_no F23 rfl (e := 41) rfl (by omega) (show _ = Value.bool false from by simp [upd, e0, e1, e7, e9]) (by decide)) fun F24 => ?_
              refine lyp F24 rfl HCC rfl (by omega) (wanted_none rfl) (v := Value.bool false) (fun wr hwr => by simp only [execOp, (F24.eval 41 (by omega)).trans (show _ = Value.bool false from by simp [upd, e0, e1, e7, e9])]; simp [go_sem, Act.eval]) fun F25 => ?_
              refine ⟨fun _ => HCC, ?_⟩
              refine hK _ _ ?_
              clear F0 F1 F2 F3 F4 F5 F6 F7 F8 F9 F10 F11 F12 F13 F14 F15 F16 F17 F18 F19 F20 F21 F22 F23 F24 F25 e0 e1 e7 e9 HCC
              simp only [Act.put, List.setIfInBounds_toArray, List.set_cons_succ, List.set_cons_zero]
              generalize hY : (({ wr with drawn := wr.drawn + 1 } : World)) = Y
              have hY2 : Y = w.drewN (q + 1) := by rw [← hY, HWQ.out]; rfl
              have HY : Hid _ := hY2
              clear hY hY2 HWQ cj
              try clear hm
              go_wp2
              go_roundw
              case rel => exact ⟨k + 1, q + 1, by omega, by go_num, by rw [HS.out], HY.out⟩
              case measure => simp [intOf]; omega
        · obtain rfl : k = n := by omega
          subst hwq
          go_wp2
          go_ret
          exact ⟨rfl, _, rfl⟩
  · have hfr : fromOf me n = 0 := by unfold fromOf; rw [if_neg (fun h => h1 h.1)]
    rw [hfr] at hpr
    simp only [Int.natCast_zero, Int.zero_add] at hpr
    have HPR : Hid _ := hpr
    clear hfr hpr
    go_enter Try.func27, Try.ntmps27
    go_wp2
    go_loopw [7, 8] (fun bv i wr => ∃ k q : Nat, k ≤ n ∧ i = .int .i64 k ∧ bv = .int .i64 (askTo me zs k).1 ∧ wr = w.drewN q) (fun _ i _ => n - (intOf i).toNat)
    case atStart => exact ⟨0, 0, Nat.zero_le _, rfl, rfl, rfl⟩
    case round =>
      obtain ⟨k, q, hk, rfl, rfl, hwq⟩ := hrel
      by_cases hlt : k < n
      · have hp := HPR.out k
        have hp2 := HPL.out k (by omega)
        have hs := HST.out k
        have hni : (n : Int) ≠ 0 := by omega
        have hai := ask_is me zs k (by omega)
        generalize placeOf me n k = p at hp hp2 hs
        obtain ⟨b1, o1, hao, e1⟩ := FromI.at (k := p) HX.out (by omega)
        subst hao
        have cj : wr.cell? ⟨b1, o1 + p, none⟩ = some (.int .i64 (at0 zs p)) := by rw [hwq]; exact e1
        have HWQ : Hid _ := hwq
        clear hwq e1
        by_cases hm : (p : Int) = me
        · exact absurd hm (by omega)
        · by_cases hz : 0 < at0 zs p
          · rcases hai with ⟨ha, _⟩ | ⟨p0, hp0n, ha, _, hp00, _⟩
            · rw [ha] at hs ⊢
              rw [askStep_yes hm hz] at hs
              have HS : Hid _ := hs
              clear hs ha
              generalize at0 zs p = z at *
              go_wp2_with fail
              rename_i K hK
              try rw [show ∀ a : Act, a.put none undef = a from fun _ => rfl]
              refine wp_region_mix (fun wq => ∀ p : Addr, wq.cell? p = wr.cell? p) (fun i => i == 99) 99 (by kernel_rfl) rfl (by kernel_rfl) (by kernel_rfl) (by kernel_rfl) ?_
              refine withFrP (N := 58) rfl ?_
              intro f0 F0 hff
              have e0 : f0 0 = Value.int .i64 me := hff 0
              have e1 : f0 1 = Value.slice (some ⟨b1, o1, none⟩) n c := hff 1
              have e7 : f0 7 = Value.int .i64 (-1) := hff 7
              have e9 : f0 9 = Value.int .i64 (p : Int) := hff 9
              clear hff
              have HCC : ∀ p : Addr, (({ wr with drawn := wr.drawn + 1 } : World)).cell? p = wr.cell? p := fun _ => rfl
              refine lyp F0 rfl HCC rfl (by omega) (wanted_none rfl) (v := Value.int .i64 (p : Int)) (fun wr hwr => by simp only [execOp, (F0.eval 9 (by omega)).trans (show _ = Value.int .i64 (p : Int) from by simp [upd, e0, e1, e7, e9])]; first | rfl | simp [go_sem]) fun F1 => ?_
              refine lyp F1 rfl HCC rfl (by omega) (wanted_none rfl) (v := Value.int .i64 me) (fun wr hwr => by simp only [execOp, (F1.eval 0 (by omega)).trans (show _ = Value.int .i64 me from by simp [upd, e0, e1, e7, e9])]; first | rfl | simp [go_sem]) fun F2 => ?_
              refine lyp F2 rfl HCC rfl (by omega) (wanted_none rfl) (v := Value.bool true) (fun wr hwr => by simp only [execOp, (F2.eval 31 (by omega)).trans (show _ = Value.int .i64 (p : Int) from by simp [upd, e0, e1, e7, e9]), (F2.eval 32 (by omega)).trans (show _ = Value.int .i64 me from by simp [upd, e0, e1, e7, e9])]; simp [go_sem, Act.eval, hm]) fun F3 => ?_
              refine lyp F3 rfl HCC rfl (by omega) (wanted_none rfl) (v := Value.bool true) (fun wr hwr => by simp only [execOp, (F3.eval 33 (by omega)).trans (show _ = Value.bool true from by simp [upd, e0, e1, e7, e9])]; first | rfl | simp [go_sem]) fun F4 => ?_
              refine lyp F4 rfl HCC rfl (by omega) (want_yes F4 rfl (e := 34) rfl (by omega) (show _ = Value.bool true from by simp [upd, e0, e1, e7, e9])) (v := Value.slice (some ⟨b1, o1, none⟩) n c) (fun wr hwr => by simp only [execOp, (F4.eval 1 (by omega)).trans (show _ = Value.slice (some ⟨b1, o1, none⟩) n c from by simp [upd, e0, e1, e7, e9])]; first | rfl | simp [go_sem]) fun F5 => ?_
              refine lyp F5 rfl HCC rfl (by omega) (want_yes F5 rfl (e := 34) rfl (by omega) (show _ = Value.bool true from by simp [upd, e0, e1, e7, e9])) (v := Value.int .i64 (p : Int)) (fun wr hwr => by simp only [execOp, (F5.eval 9 (by omega)).trans (show _ = Value.int .i64 (p : Int) from by simp [upd, e0, e1, e7, e9])]; first | rfl | simp [go_sem]) fun F6 => ?_
              refine lyp F6 rfl HCC rfl (by omega) (want_yes F6 rfl (e := 34) rfl (by omega) (show _ = Value.bool true from by simp [upd, e0, e1, e7, e9])) (v := Value.pointer (some ⟨b1, o1 + p, none⟩)) (fun wr hwr => by simp only [execOp, (F6.eval 35 (by omega)).trans (show _ = Value.slice (some ⟨b1, o1, none⟩) n c from by simp [upd, e0, e1, e7, e9]), (F6.eval 36 (by omega)).trans (show _ = Value.int .i64 (p : Int) from by simp [upd, e0, e1, e7, e9])]; simp [go_sem, hp2]) fun F7 => ?_
              refine lyp F7 rfl HCC rfl (by omega) (want_yes F7 rfl (e := 34) rfl (by omega) (show _ = Value.bool true from by simp [upd, e0, e1, e7, e9])) (v := Value.int .i64 z) (fun wr hwr => by simp only [execOp, (F7.eval 37 (by omega)).trans (show _ = Value.pointer (some ⟨b1, o1 + p, none⟩) from by simp [upd, e0, e1, e7, e9])]; simp [go_sem, hwr _, cj]) fun F8 => ?_
              refine lyp F8 rfl HCC rfl (by omega) (want_yes F8 rfl (e := 34) rfl (by omega) (show _ = Value.bool true from by simp [upd, e0, e1, e7, e9])) (v := Value.bool true) (fun wr hwr => by simp only [execOp, (F8.eval 38 (by omega)).trans (show _ = Value.int .i64 z from by simp [upd, e0, e1, e7, e9])]; simp [go_sem, Act.eval, hz]) fun F9 => ?_
              refine lyp F9 rfl HCC rfl (by omega) (wanted_none rfl) (v := Value.bool true) (fun wr hwr => by simp only [execOp, (F9.eval 34 (by omega)).trans (show _ = Value.bool true from by simp [upd, e0, e1, e7, e9]), (F9.eval 39 (by omega)).trans (show _ = Value.bool true from by simp [upd, e0, e1, e7, e9])]; simp [go_sem, Act.eval]) fun F10 => ?_
              refine lyp F10 rfl HCC rfl (by omega) (wanted_none rfl) (v := Value.bool true) (fun wr hwr => by simp only [execOp, (F10.eval 40 (by omega)).trans (show _ = Value.bool true from by simp [upd, e0, e1, e7, e9])]; first | rfl | simp [go_sem]) fun F11 => ?_
              refine lyp F11 rfl HCC rfl (by omega) (want_yes F11 rfl (e := 41) rfl (by omega) (show _ = Value.bool true from by simp [upd, e0, e1, e7, e9])) (v := Value.int .i64 (-1)) (fun wr hwr => by simp only [execOp, (F11.eval 7 (by omega)).trans (show _ = Value.int .i64 (-1) from by simp [upd, e0, e1, e7, e9])]; first | rfl | simp [go_sem]) fun F12 => ?_
              refine lyp F12 rfl HCC rfl (by omega) (want_yes F12 rfl (e := 41) rfl (by omega) (show _ = Value.bool true from by simp [upd, e0, e1, e7, e9])) (v := Value.bool true) (fun wr hwr => by simp only [execOp, (F12.eval 42 (by omega)).trans (show _ = Value.int .i64 (-1) from by simp [upd, e0, e1, e7, e9])]; simp [go_sem, Act.eval]) fun F13 => ?_
              refine lyp F13 rfl HCC rfl (by omega) (want_yes F13 rfl (e := 41) rfl (by omega) (show _ = Value.bool true from by simp [upd, e0, e1, e7, e9])) (v := Value.bool true) (fun wr hwr => by simp only [execOp, (F13.eval 43 (by omega)).trans (show _ = Value.bool true from by simp [upd, e0, e1, e7, e9])]; first | rfl | simp [go_sem]) fun F14 => ?_
              refine lnp F14 rfl HCC rfl (by omega) (want_no F14 rfl (e := 44) rfl (by omega) (show _ = Value.bool true from by simp [upd, e0, e1, e7, e9]) (by decide)) fun F15 => ?_
              refine lnp F15 rfl HCC rfl (by omega) (want_no F15 rfl (e := 44) rfl (by omega) (show _ = Value.bool true from by simp [upd, e0, e1, e7, e9]) (by decide)) fun F16 => ?_
              refine lnp F16 rfl HCC rfl (by omega) (want_no F16 rfl (e := 44) rfl (by omega) (show _ = Value.bool true from by simp [upd, e0, e1, e7, e9]) (by decide)) fun F17 => ?_
              refine lnp F17 rfl HCC rfl (by omega) (want_no F17 rfl (e := 44) rfl (by omega) (show _ = Value.bool true from by simp [upd, e0, e1, e7, e9]) (by decide)) fun F18 => ?_
              refine lnp F18 rfl HCC rfl (by omega) (want_no F18 rfl (e := 44) rfl (by omega) (show _ = Value.bool true from by simp [upd, e0, e1, e7, e9]) (by decide)) fun F19 => ?_
              refine lnp F19 rfl HCC rfl (by omega) (want_no F19 rfl (e := 44) rfl (by omega) (show _ = Value.bool true from by simp [upd, e0, e1, e7, e9]) (by decide)) fun F20 => ?_
              refine lnp F20 rfl HCC rfl (by omega) (want_no F20 rfl (e := 44) rfl (by omega) (show _ = Value.bool true from by simp [upd, e0, e1, e7, e9]) (by decide)) fun F21 => ?_
              refine lnp F21 rfl HCC rfl (by omega) (want_no F21 rfl (e := 44) rfl (by omega) (show _ = Value.bool true from by simp [upd, e0, e1, e7, e9]) (by decide)) fun F22 => ?_
              refine lnp F22 rfl HCC rfl (by omega) (want_no F22 rfl (e := 44) rfl (by omega) (show _ = Value.bool true from by simp [upd, e0, e1, e7, e9]) (by decide)) fun F23 => ?_
              refine lyp F23 rfl HCC rfl (by omega) (want_yes F23 rfl (e := 41) rfl (by omega) (show _ = Value.bool true from by simp [upd, e0, e1, e7, e9])) (v := Value.bool true) (fun wr hwr => by simp only [execOp, (F23.eval 44 (by omega)).trans (show _ = Value.bool true from by simp [upd, e0, e1, e7, e9])]; simp [go_sem, Act.eval]) fun F24 => ?_
              refine lyp F24 rfl HCC rfl (by omega) (wanted_none rfl) (v := Value.bool true) (fun wr hwr => by simp only [execOp, (F24.eval 41 (by omega)).trans (show _ = Value.bool true from by simp [upd, e0, e1, e7, e9]), (F24.eval 54 (by omega)).trans (show _ = Value.bool true from by simp [upd, e0, e1, e7, e9])]; simp [go_sem, Act.eval]) fun F25 => ?_
              refine ⟨fun _ => HCC, ?_⟩
              refine hK _ _ ?_
              clear F0 F1 F2 F3 F4 F5 F6 F7 F8 F9 F10 F11 F12 F13 F14 F15 F16 F17 F18 F19 F20 F21 F22 F23 F24 F25 e0 e1 e7 e9 HCC
              simp only [Act.put, List.setIfInBounds_toArray, List.set_cons_succ, List.set_cons_zero]
              generalize hY : (({ wr with drawn := wr.drawn + 1 } : World)) = Y
              have hY2 : Y = w.drewN (q + 1) := by rw [← hY, HWQ.out]; rfl
              have HY : Hid _ := hY2
              clear hY hY2 HWQ cj
              try clear hm
              go_wp2
              go_roundw
              case rel => exact ⟨k + 1, q + 1, by omega, by go_num, by rw [HS.out], HY.out⟩
              case measure => simp [intOf]; omega
            · rw [ha] at hs ⊢
              rw [hl] at hp0n
              obtain ⟨b2, o2, hao, e2⟩ := FromI.at (k := p0) HX.out (by omega)
              cases hao
              have cp : wr.cell? ⟨b1, o1 + p0, none⟩ = some (.int .i64 (at0 zs p0)) := by rw [HWQ.out]; exact e2
              clear e2 ha
              by_cases hzz : at0 zs p0 < at0 zs p
              · rw [askStep_yes hm hzz] at hs
                have HS : Hid _ := hs
                clear hs
                generalize at0 zs p = z at *
                generalize at0 zs p0 = zp at *
                go_wp2_with fail
                rename_i K hK
                try rw [show ∀ a : Act, a.put none undef = a from fun _ => rfl]
                refine wp_region_mix (fun wq => ∀ p : Addr, wq.cell? p = wr.cell? p) (fun i => i == 99) 99 (by kernel_rfl) rfl (by kernel_rfl) (by kernel_rfl) (by kernel_rfl) ?_
                refine withFrP (N := 58) rfl ?_
                intro f0 F0 hff
                have e0 : f0 0 = Value.int .i64 me := hff 0
                have e1 : f0 1 = Value.slice (some ⟨b1, o1, none⟩) n c := hff 1
                have e7 : f0 7 = Value.int .i64 (p0 : Int) := hff 7
                have e9 : f0 9 = Value.int .i64 (p : Int) := hff 9
                clear hff
                have HCC : ∀ p : Addr, (({ wr with drawn := wr.drawn + 1 } : World)).cell? p = wr.cell? p := fun _ => rfl
                refine lyp F0 rfl HCC rfl (by omega) (wanted_none rfl) (v := Value.int .i64 (p : Int)) (fun wr hwr => by simp only [execOp, (F0.eval 9 (by omega)).trans (show _ = Value.int .i64 (p : Int) from by simp [upd, e0, e1, e7, e9])]; first | rfl | simp [go_sem]) fun F1 => ?_
                refine lyp F1 rfl HCC rfl (by omega) (wanted_none rfl) (v := Value.int .i64 me) (fun wr hwr => by simp only [execOp, (F1.eval 0 (by omega)).trans (show _ = Value.int .i64 me from by simp [upd, e0, e1, e7, e9])]; first | rfl | simp [go_sem]) fun F2 => ?_
                refine lyp F2 rfl HCC rfl (by omega) (wanted_none rfl) (v := Value.bool true) (fun wr hwr => by simp only [execOp, (F2.eval 31 (by omega)).trans (show _ = Value.int .i64 (p : Int) from by simp [upd, e0, e1, e7, e9]), (F2.eval 32 (by omega)).trans (show _ = Value.int .i64 me from by simp [upd, e0, e1, e7, e9])]; simp [go_sem, Act.eval, hm]) fun F3 => ?_
                refine lyp F3 rfl HCC rfl (by omega) (wanted_none rfl) (v := Value.bool true) (fun wr hwr => by simp only [execOp, (F3.eval 33 (by omega)).trans (show _ = Value.bool true from by simp [upd, e0, e1, e7, e9])]; first | rfl | simp [go_sem]) fun F4 => ?_
                refine lyp F4 rfl HCC rfl (by omega) (want_yes F4 rfl (e := 34) rfl (by omega) (show _ = Value.bool true from by simp [upd, e0, e1, e7, e9])) (v := Value.slice (some ⟨b1, o1, none⟩) n c) (fun wr hwr => by simp only [execOp, (F4.eval 1 (by omega)).trans (show _ = Value.slice (some ⟨b1, o1, none⟩) n c from by simp [upd, e0, e1, e7, e9])]; first | rfl | simp [go_sem]) fun F5 => ?_
                refine lyp F5 rfl HCC rfl (by omega) (want_yes F5 rfl (e := 34) rfl (by omega) (show _ = Value.bool true from by simp [upd, e0, e1, e7, e9])) (v := Value.int .i64 (p : Int)) (fun wr hwr => by simp only [execOp, (F5.eval 9 (by omega)).trans (show _ = Value.int .i64 (p : Int) from by simp [upd, e0, e1, e7, e9])]; first | rfl | simp [go_sem]) fun F6 => ?_
                refine lyp F6 rfl HCC rfl (by omega) (want_yes F6 rfl (e := 34) rfl (by omega) (show _ = Value.bool true from by simp [upd, e0, e1, e7, e9])) (v := Value.pointer (some ⟨b1, o1 + p, none⟩)) (fun wr hwr => by simp only [execOp, (F6.eval 35 (by omega)).trans (show _ = Value.slice (some ⟨b1, o1, none⟩) n c from by simp [upd, e0, e1, e7, e9]), (F6.eval 36 (by omega)).trans (show _ = Value.int .i64 (p : Int) from by simp [upd, e0, e1, e7, e9])]; simp [go_sem, hp2]) fun F7 => ?_
                refine lyp F7 rfl HCC rfl (by omega) (want_yes F7 rfl (e := 34) rfl (by omega) (show _ = Value.bool true from by simp [upd, e0, e1, e7, e9])) (v := Value.int .i64 z) (fun wr hwr => by simp only [execOp, (F7.eval 37 (by omega)).trans (show _ = Value.pointer (some ⟨b1, o1 + p, none⟩) from by simp [upd, e0, e1, e7, e9])]; simp [go_sem, hwr _, cj]) fun F8 => ?_
                refine lyp F8 rfl HCC rfl (by omega) (want_yes F8 rfl (e := 34) rfl (by omega) (show _ = Value.bool true from by simp [upd, e0, e1, e7, e9])) (v := Value.bool true) (fun wr hwr => by simp only [execOp, (F8.eval 38 (by omega)).trans (show _ = Value.int .i64 z from by simp [upd, e0, e1, e7, e9])]; simp [go_sem, Act.eval, hz]) fun F9 => ?_
                refine lyp F9 rfl HCC rfl (by omega) (wanted_none rfl) (v := Value.bool true) (fun wr hwr => by simp only [execOp, (F9.eval 34 (by omega)).trans (show _ = Value.bool true from by simp [upd, e0, e1, e7, e9]), (F9.eval 39 (by omega)).trans (show _ = Value.bool true from by simp [upd, e0, e1, e7, e9])]; simp [go_sem, Act.eval]) fun F10 => ?_
                refine lyp F10 rfl HCC rfl (by omega) (wanted_none rfl) (v := Value.bool true) (fun wr hwr => by simp only [execOp, (F10.eval 40 (by omega)).trans (show _ = Value.bool true from by simp [upd, e0, e1, e7, e9])]; first | rfl | simp [go_sem]) fun F11 => ?_
                refine lyp F11 rfl HCC rfl (by omega) (want_yes F11 rfl (e := 41) rfl (by omega) (show _ = Value.bool true from by simp [upd, e0, e1, e7, e9])) (v := Value.int .i64 (p0 : Int)) (fun wr hwr => by simp only [execOp, (F11.eval 7 (by omega)).trans (show _ = Value.int .i64 (p0 : Int) from by simp [upd, e0, e1, e7, e9])]; first | rfl | simp [go_sem]) fun F12 => ?_
                refine lyp F12 rfl HCC rfl (by omega) (want_yes F12 rfl (e := 41) rfl (by omega) (show _ = Value.bool true from by simp [upd, e0, e1, e7, e9])) (v := Value.bool false) (fun wr hwr => by simp only [execOp, (F12.eval 42 (by omega)).trans (show _ = Value.int .i64 (p0 : Int) from by simp [upd, e0, e1, e7, e9])]; simp [go_sem, Act.eval]) fun F13 => ?_
                refine lyp F13 rfl HCC rfl (by omega) (want_yes F13 rfl (e := 41) rfl (by omega) (show _ = Value.bool true from by simp [upd, e0, e1, e7, e9])) (v := Value.bool false) (fun wr hwr => by simp only [execOp, (F13.eval 43 (by omega)).trans (show _ = Value.bool false from by simp [upd, e0, e1, e7, e9])]; first | rfl | simp [go_sem]) fun F14 => ?_
                refine lyp F14 rfl HCC rfl (by omega) (want_yes F14 rfl (e := 44) rfl (by omega) (show _ = Value.bool false from by simp [upd, e0, e1, e7, e9])) (v := Value.slice (some ⟨b1, o1, none⟩) n c) (fun wr hwr => by simp only [execOp, (F14.eval 1 (by omega)).trans (show _ = Value.slice (some ⟨b1, o1, none⟩) n c from by simp [upd, e0, e1, e7, e9])]; first | rfl | simp [go_sem]) fun F15 => ?_
                refine lyp F15 rfl HCC rfl (by omega) (want_yes F15 rfl (e := 44) rfl (by omega) (show _ = Value.bool false from by simp [upd, e0, e1, e7, e9])) (v := Value.int .i64 (p : Int)) (fun wr hwr => by simp only [execOp, (F15.eval 9 (by omega)).trans (show _ = Value.int .i64 (p : Int) from by simp [upd, e0, e1, e7, e9])]; first | rfl | simp [go_sem]) fun F16 => ?_
                refine lyp F16 rfl HCC rfl (by omega) (want_yes F16 rfl (e := 44) rfl (by omega) (show _ = Value.bool false from by simp [upd, e0, e1, e7, e9])) (v := Value.pointer (some ⟨b1, o1 + p, none⟩)) (fun wr hwr => by simp only [execOp, (F16.eval 45 (by omega)).trans (show _ = Value.slice (some ⟨b1, o1, none⟩) n c from by simp [upd, e0, e1, e7, e9]), (F16.eval 46 (by omega)).trans (show _ = Value.int .i64 (p : Int) from by simp [upd, e0, e1, e7, e9])]; simp [go_sem, hp2]) fun F17 => ?_
                refine lyp F17 rfl HCC rfl (by omega) (want_yes F17 rfl (e := 44) rfl (by omega) (show _ = Value.bool false from by simp [upd, e0, e1, e7, e9])) (v := Value.int .i64 z) (fun wr hwr => by simp only [execOp, (F17.eval 47 (by omega)).trans (show _ = Value.pointer (some ⟨b1, o1 + p, none⟩) from by simp [upd, e0, e1, e7, e9])]; simp [go_sem, hwr _, cj]) fun F18 => ?_
                refine lyp F18 rfl HCC rfl (by omega) (want_yes F18 rfl (e := 44) rfl (by omega) (show _ = Value.bool false from by simp [upd, e0, e1, e7, e9])) (v := Value.slice (some ⟨b1, o1, none⟩) n c) (fun wr hwr => by simp only [execOp, (F18.eval 1 (by omega)).trans (show _ = Value.slice (some ⟨b1, o1, none⟩) n c from by simp [upd, e0, e1, e7, e9])]; first | rfl | simp [go_sem]) fun F19 => ?_
                refine lyp F19 rfl HCC rfl (by omega) (want_yes F19 rfl (e := 44) rfl (by omega) (show _ = Value.bool false from by simp [upd, e0, e1, e7, e9])) (v := Value.int .i64 (p0 : Int)) (fun wr hwr => by simp only [execOp, (F19.eval 7 (by omega)).trans (show _ = Value.int .i64 (p0 : Int) from by simp [upd, e0, e1, e7, e9])]; first | rfl | simp [go_sem]) fun F20 => ?_
                refine lyp F20 rfl HCC rfl (by omega) (want_yes F20 rfl (e := 44) rfl (by omega) (show _ = Value.bool false from by simp [upd, e0, e1, e7, e9])) (v := Value.pointer (some ⟨b1, o1 + p0, none⟩)) (fun wr hwr => by simp only [execOp, (F20.eval 49 (by omega)).trans (show _ = Value.slice (some ⟨b1, o1, none⟩) n c from by simp [upd, e0, e1, e7, e9]), (F20.eval 50 (by omega)).trans (show _ = Value.int .i64 (p0 : Int) from by simp [upd, e0, e1, e7, e9])]; simp [go_sem, hp0n]) fun F21 => ?_
                refine lyp F21 rfl HCC rfl (by omega) (want_yes F21 rfl (e := 44) rfl (by omega) (show _ = Value.bool false from by simp [upd, e0, e1, e7, e9])) (v := Value.int .i64 zp) (fun wr hwr => by simp only [execOp, (F21.eval 51 (by omega)).trans (show _ = Value.pointer (some ⟨b1, o1 + p0, none⟩) from by simp [upd, e0, e1, e7, e9])]; simp [go_sem, hwr _, cp]) fun F22 => ?_
                refine lyp F22 rfl HCC rfl (by omega) (want_yes F22 rfl (e := 44) rfl (by omega) (show _ = Value.bool false from by simp [upd, e0, e1, e7, e9])) (v := Value.bool true) (fun wr hwr => by simp only [execOp, (F22.eval 48 (by omega)).trans (show _ = Value.int .i64 z from by simp [upd, e0, e1, e7, e9]), (F22.eval 52 (by omega)).trans (show _ = Value.int .i64 zp from by simp [upd, e0, e1, e7, e9])]; simp [go_sem, Act.eval, hzz]) fun F23 => ?_
                refine lyp F23 rfl HCC rfl (by omega) (want_yes F23 rfl (e := 41) rfl (by omega) (show _ = Value.bool true from by simp [upd, e0, e1, e7, e9])) (v := Value.bool true) (fun wr hwr => by simp only [execOp, (F23.eval 44 (by omega)).trans (show _ = Value.bool false from by simp [upd, e0, e1, e7, e9]), (F23.eval 53 (by omega)).trans (show _ = Value.bool true from by simp [upd, e0, e1, e7, e9])]; simp [go_sem, Act.eval]) fun F24 => ?_
                refine lyp F24 rfl HCC rfl (by omega) (wanted_none rfl) (v := Value.bool true) (fun wr hwr => by simp only [execOp, (F24.eval 41 (by omega)).trans (show _ = Value.bool true from by simp [upd, e0, e1, e7, e9]), (F24.eval 54 (by omega)).trans (show _ = Value.bool true from by simp [upd, e0, e1, e7, e9])]; simp [go_sem, Act.eval]) fun F25 => ?_
                refine ⟨fun _ => HCC, ?_⟩
                refine hK _ _ ?_
                clear F0 F1 F2 F3 F4 F5 F6 F7 F8 F9 F10 F11 F12 F13 F14 F15 F16 F17 F18 F19 F20 F21 F22 F23 F24 F25 e0 e1 e7 e9 HCC
                simp only [Act.put, List.setIfInBounds_toArray, List.set_cons_succ, List.set_cons_zero]
                generalize hY : (({ wr with drawn := wr.drawn + 1 } : World)) = Y
                have hY2 : Y = w.drewN (q + 1) := by rw [← hY, HWQ.out]; rfl
                have HY : Hid _ := hY2
                clear hY hY2 HWQ cj cp
                try clear hm
                go_wp2
                go_roundw
                case rel => exact ⟨k + 1, q + 1, by omega, by go_num, by rw [HS.out], HY.out⟩
                case measure => simp [intOf]; omega
              · rw [askStep_le hzz] at hs
                have HS : Hid _ := hs
                clear hs
                generalize at0 zs p = z at *
                generalize at0 zs p0 = zp at *
                replace hzz : z ≤ zp := by omega
                go_wp2_with fail
                rename_i K hK
                try rw [show ∀ a : Act, a.put none undef = a from fun _ => rfl]
                refine wp_region_mix (fun wq => ∀ p : Addr, wq.cell? p = wr.cell? p) (fun i => i == 99) 99 (by kernel_rfl) rfl (by kernel_rfl) (by kernel_rfl) (by kernel_rfl) ?_
                refine withFrP (N := 58) rfl ?_
                intro f0 F0 hff
                have e0 : f0 0 = Value.int .i64 me := hff 0
                have e1 : f0 1 = Value.slice (some ⟨b1, o1, none⟩) n c := hff 1
                have e7 : f0 7 = Value.int .i64 (p0 : Int) := hff 7
                have e9 : f0 9 = Value.int .i64 (p : Int) := hff 9
                clear hff
                have HCC : ∀ p : Addr, (({ wr with drawn := wr.drawn + 1 } : World)).cell? p = wr.cell? p := fun _ => rfl
                refine lyp F0 rfl HCC rfl (by omega) (wanted_none rfl) (v := Value.int .i64 (p : Int)) (fun wr hwr => by simp only [execOp, (F0.eval 9 (by omega)).trans (show _ = Value.int .i64 (p : Int) from by simp [upd, e0, e1, e7, e9])]; first | rfl | simp [go_sem]) fun F1 => ?_
                refine lyp F1 rfl HCC rfl (by omega) (wanted_none rfl) (v := Value.int .i64 me) (fun wr hwr => by simp only [execOp, (F1.eval 0 (by omega)).trans (show _ = Value.int .i64 me from by simp [upd, e0, e1, e7, e9])]; first | rfl | simp [go_sem]) fun F2 => ?_
                refine lyp F2 rfl HCC rfl (by omega) (wanted_none rfl) (v := Value.bool true) (fun wr hwr => by simp only [execOp, (F2.eval 31 (by omega)).trans (show _ = Value.int .i64 (p : Int) from by simp [upd, e0, e1, e7, e9]), (F2.eval 32 (by omega)).trans (show _ = Value.int .i64 me from by simp [upd, e0, e1, e7, e9])]; simp [go_sem, Act.eval, hm]) fun F3 => ?_
                refine lyp F3 rfl HCC rfl (by omega) (wanted_none rfl) (v := Value.bool true) (fun wr hwr => by simp only [execOp, (F3.eval 33 (by omega)).trans (show _ = Value.bool true from by simp [upd, e0, e1, e7, e9])]; first | rfl | simp [go_sem]) fun F4 => ?_
                refine lyp F4 rfl HCC rfl (by omega) (want_yes F4 rfl (e := 34) rfl (by omega) (show _ = Value.bool true from by simp [upd, e0, e1, e7, e9])) (v := Value.slice (some ⟨b1, o1, none⟩) n c) (fun wr hwr => by simp only [execOp, (F4.eval 1 (by omega)).trans (show _ = Value.slice (some ⟨b1, o1, none⟩) n c from by simp [upd, e0, e1, e7, e9])]; first | rfl | simp [go_sem]) fun F5 => ?_
                refine lyp F5 rfl HCC rfl (by omega) (want_yes F5 rfl (e := 34) rfl (by omega) (show _ = Value.bool true from by simp [upd, e0, e1, e7, e9])) (v := Value.int .i64 (p : Int)) (fun wr hwr => by simp only [execOp, (F5.eval 9 (by omega)).trans (show _ = Value.int .i64 (p : Int) from by simp [upd, e0, e1, e7, e9])]; first | rfl | simp [go_sem]) fun F6 => ?_
                refine lyp F6 rfl HCC rfl (by omega) (want_yes F6 rfl (e := 34) rfl (by omega) (show _ = Value.bool true from by simp [upd, e0, e1, e7, e9])) (v := Value.pointer (some ⟨b1, o1 + p, none⟩)) (fun wr hwr => by simp only [execOp, (F6.eval 35 (by omega)).trans (show _ = Value.slice (some ⟨b1, o1, none⟩) n c from by simp [upd, e0, e1, e7, e9]), (F6.eval 36 (by omega)).trans (show _ = Value.int .i64 (p : Int) from by simp [upd, e0, e1, e7, e9])]; simp [go_sem, hp2]) fun F7 => ?_
                refine lyp F7 rfl HCC rfl (by omega) (want_yes F7 rfl (e := 34) rfl (by omega) (show _ = Value.bool true from by simp [upd, e0, e1, e7, e9])) (v := Value.int .i64 z) (fun wr hwr => by simp only [execOp, (F7.eval 37 (by omega)).trans (show _ = Value.pointer (some ⟨b1, o1 + p, none⟩) from by simp [upd, e0, e1, e7, e9])]; simp [go_sem, hwr _, cj]) fun F8 => ?_
                refine lyp F8 rfl HCC rfl (by omega) (want_yes F8 rfl (e := 34) rfl (by omega) (show _ = Value.bool true from by simp [upd, e0, e1, e7, e9])) (v := Value.bool true) (fun wr hwr => by simp only [execOp, (F8.eval 38 (by omega)).trans (show _ = Value.int .i64 z from by simp [upd, e0, e1, e7, e9])]; simp [go_sem, Act.eval, hz]) fun F9 => ?_
                refine lyp F9 rfl HCC rfl (by omega) (wanted_none rfl) (v := Value.bool true) (fun wr hwr => by simp only [execOp, (F9.eval 34 (by omega)).trans (show _ = Value.bool true from by simp [upd, e0, e1, e7, e9]), (F9.eval 39 (by omega)).trans (show _ = Value.bool true from by simp [upd, e0, e1, e7, e9])]; simp [go_sem, Act.eval]) fun F10 => ?_
                refine lyp F10 rfl HCC rfl (by omega) (wanted_none rfl) (v := Value.bool true) (fun wr hwr => by simp only [execOp, (F10.eval 40 (by omega)).trans (show _ = Value.bool true from by simp [upd, e0, e1, e7, e9])]; first | rfl | simp [go_sem]) fun F11 => ?_
                refine lyp F11 rfl HCC rfl (by omega) (want_yes F11 rfl (e := 41) rfl (by omega) (show _ = Value.bool true from by simp [upd, e0, e1, e7, e9])) (v := Value.int .i64 (p0 : Int)) (fun wr hwr => by simp only [execOp, (F11.eval 7 (by omega)).trans (show _ = Value.int .i64 (p0 : Int) from by simp [upd, e0, e1, e7, e9])]; first | rfl | simp [go_sem]) fun F12 => ?_
                refine lyp F12 rfl HCC rfl (by omega) (want_yes F12 rfl (e := 41) rfl (by omega) (show _ = Value.bool true from by simp [upd, e0, e1, e7, e9])) (v := Value.bool false) (fun wr hwr => by simp only [execOp, (F12.eval 42 (by omega)).trans (show _ = Value.int .i64 (p0 : Int) from by simp [upd, e0, e1, e7, e9])]; simp [go_sem, Act.eval]) fun F13 => ?_
                refine lyp F13 rfl HCC rfl (by omega) (want_yes F13 rfl (e := 41) rfl (by omega) (show _ = Value.bool true from by simp [upd, e0, e1, e7, e9])) (v := Value.bool false) (fun wr hwr => by simp only [execOp, (F13.eval 43 (by omega)).trans (show _ = Value.bool false from by simp [upd, e0, e1, e7, e9])]; first | rfl | simp [go_sem]) fun F14 => ?_
                refine lyp F14 rfl HCC rfl (by omega) (want_yes F14 rfl (e := 44) rfl (by omega) (show _ = Value.bool false from by simp [upd, e0, e1, e7, e9])) (v := Value.slice (some ⟨b1, o1, none⟩) n c) (fun wr hwr => by simp only [execOp, (F14.eval 1 (by omega)).trans (show _ = Value.slice (some ⟨b1, o1, none⟩) n c from by simp [upd, e0, e1, e7, e9])]; first | rfl | simp [go_sem]) fun F15 => ?_
                refine lyp F15 rfl HCC rfl (by omega) (want_yes F15 rfl (e := 44) rfl (by omega) (show _ = Value.bool false from by simp [upd, e0, e1, e7, e9])) (v := Value.int .i64 (p : Int)) (fun wr hwr => by simp only [execOp, (F15.eval 9 (by omega)).trans (show _ = Value.int .i64 (p : Int) from by simp [upd, e0, e1, e7, e9])]; first | rfl | simp [go_sem]) fun F16 => ?_
                refine lyp F16 rfl HCC rfl (by omega) (want_yes F16 rfl (e := 44) rfl (by omega) (show _ = Value.bool false from by simp [upd, e0, e1, e7, e9])) (v := Value.pointer (some ⟨b1, o1 + p, none⟩)) (fun wr hwr => by simp only [execOp, (F16.eval 45 (by omega)).trans (show _ = Value.slice (some ⟨b1, o1, none⟩) n c from by simp [upd, e0, e1, e7, e9]), (F16.eval 46 (by omega)).trans (show _ = Value.int .i64 (p : Int) from by simp [upd, e0, e1, e7, e9])]; simp [go_sem, hp2]) fun F17 => ?_
                refine lyp F17 rfl HCC rfl (by omega) (want_yes F17 rfl (e := 44) rfl (by omega) (show _ = Value.bool false from by simp [upd, e0, e1, e7, e9])) (v := Value.int .i64 z) (fun wr hwr => by simp only [execOp, (F17.eval 47 (by omega)).trans (show _ = Value.pointer (some ⟨b1, o1 + p, none⟩) from by simp [upd, e0, e1, e7, e9])]; simp [go_sem, hwr _, cj]) fun F18 => ?_
                refine lyp F18 rfl HCC rfl (by omega) (want_yes F18 rfl (e := 44) rfl (by omega) (show _ = Value.bool false from by simp [upd, e0, e1, e7, e9])) (v := Value.slice (some ⟨b1, o1, none⟩) n c) (fun wr hwr => by simp only [execOp, (F18.eval 1 (by omega)).trans (show _ = Value.slice (some ⟨b1, o1, none⟩) n c from by simp [upd, e0, e1, e7, e9])]; first | rfl | simp [go_sem]) fun F19 => ?_
                refine lyp F19 rfl HCC rfl (by omega) (want_yes F19 rfl (e := 44) rfl (by omega) (show _ = Value.bool false from by simp [upd, e0, e1, e7, e9])) (v := Value.int .i64 (p0 : Int)) (fun wr hwr => by simp only [execOp, (F19.eval 7 (by omega)).trans (show _ = Value.int .i64 (p0 : Int) from by simp [upd, e0, e1, e7, e9])]; first | rfl | simp [go_sem]) fun F20 => ?_
                refine lyp F20 rfl HCC rfl (by omega) (want_yes F20 rfl (e := 44) rfl (by omega) (show _ = Value.bool false from by simp [upd, e0, e1, e7, e9])) (v := Value.pointer (some ⟨b1, o1 + p0, none⟩)) (fun wr hwr => by simp only [execOp, (F20.eval 49 (by omega)).trans (show _ = Value.slice (some ⟨b1, o1, none⟩) n c from by simp [upd, e0, e1, e7, e9]), (F20.eval 50 (by omega)).trans (show _ = Value.int .i64 (p0 : Int) from by simp [upd, e0, e1, e7, e9])]; simp [go_sem, hp0n]) fun F21 => ?_
                refine lyp F21 rfl HCC rfl (by omega) (want_yes F21 rfl (e := 44) rfl (by omega) (show _ = Value.bool false from by simp [upd, e0, e1, e7, e9])) (v := Value.int .i64 zp) (fun wr hwr => by simp only [execOp, (F21.eval 51 (by omega)).trans (show _ = Value.pointer (some ⟨b1, o1 + p0, none⟩) from by simp [upd, e0, e1, e7, e9])]; simp [go_sem, hwr _, cp]) fun F22 => ?_
                refine lyp F22 rfl HCC rfl (by omega) (want_yes F22 rfl (e := 44) rfl (by omega) (show _ = Value.bool false from by simp [upd, e0, e1, e7, e9])) (v := Value.bool false) (fun wr hwr => by simp only [execOp, (F22.eval 48 (by omega)).trans (show _ = Value.int .i64 z from by simp [upd, e0, e1, e7, e9]), (F22.eval 52 (by omega)).trans (show _ = Value.int .i64 zp from by simp [upd, e0, e1, e7, e9])]; simp [go_sem, Act.eval, hzz]) fun F23 => ?_
                refine lyp F23 rfl HCC rfl (by omega) (want_yes F23 rfl (e := 41) rfl (by omega) (show _ = Value.bool true from by simp [upd, e0, e1, e7, e9])) (v := Value.bool false) (fun wr hwr => by simp only [execOp, (F23.eval 44 (by omega)).trans (show _ = Value.bool false from by simp [upd, e0, e1, e7, e9]), (F23.eval 53 (by omega)).trans (show _ = Value.bool false from by simp [upd, e0, e1, e7, e9])]; simp [go_sem, Act.eval]) fun F24 => ?_
                refine lyp F24 rfl HCC rfl (by omega) (wanted_none rfl) (v := Value.bool false) (fun wr hwr => by simp only [execOp, (F24.eval 41 (by omega)).trans (show _ = Value.bool true from by simp [upd, e0, e1, e7, e9]), (F24.eval 54 (by omega)).trans (show _ = Value.bool false from by simp [upd, e0, e1, e7, e9])]; simp [go_sem, Act.eval]) fun F25 => ?_
                refine ⟨fun _ => HCC, ?_⟩
                refine hK _ _ ?_
                clear F0 F1 F2 F3 F4 F5 F6 F7 F8 F9 F10 F11 F12 F13 F14 F15 F16 F17 F18 F19 F20 F21 F22 F23 F24 F25 e0 e1 e7 e9 HCC
                simp only [Act.put, List.setIfInBounds_toArray, List.set_cons_succ, List.set_cons_zero]
                generalize hY : (({ wr with drawn := wr.drawn + 1 } : World)) = Y
                have hY2 : Y = w.drewN (q + 1) := by rw [← hY, HWQ.out]; rfl
                have HY : Hid _ := hY2
                clear hY hY2 HWQ cj cp
                try clear hm
                go_wp2
                go_roundw
                case rel => exact ⟨k + 1, q + 1, by omega, by go_num, by rw [HS.out], HY.out⟩
                case measure => simp [intOf]; omega
          · have hs2 : askTo me zs (k + 1) = askTo me zs k := by
              rw [hs]
              apply askStep_le
              rcases hai with ⟨ha, _⟩ | ⟨p0, _, ha, _, hp00, _⟩ <;> rw [ha] <;> simp only <;> omega
            have HS : Hid _ := hs2
            clear hs hs2 hai
            generalize askTo me zs k = acc at HS
            generalize at0 zs p = z at *
            replace hz : z ≤ 0 := by omega
            go_wp2_with fail
            rename_i K hK
            try rw [show ∀ a : Act, a.put none undef = a from fun _ => rfl]
            refine wp_region_mix (fun wq => ∀ p : Addr, wq.cell? p = wr.cell? p) (fun i => i == 99) 99 (by kernel_rfl) rfl (by kernel_rfl) (by kernel_rfl) (by kernel_rfl) ?_
            refine withFrP (N := 58) rfl ?_
            intro f0 F0 hff
            have e0 : f0 0 = Value.int .i64 me := hff 0
            have e1 : f0 1 = Value.slice (some ⟨b1, o1, none⟩) n c := hff 1
            have e7 : f0 7 = Value.int .i64 acc.1 := hff 7
            have e9 : f0 9 = Value.int .i64 (p : Int) := hff 9
            clear hff
            have HCC : ∀ p : Addr, (({ wr with drawn := wr.drawn + 1 } : World)).cell? p = wr.cell? p := fun _ => rfl
            refine lyp F0 rfl HCC rfl (by omega) (wanted_none rfl) (v := Value.int .i64 (p : Int)) (fun wr hwr => by simp only [execOp, (F0.eval 9 (by omega)).trans (show _ = Value.int .i64 (p : Int) from by simp [upd, e0, e1, e7, e9])]; first | rfl | simp [go_sem]) fun F1 => ?_
            refine lyp F1 rfl HCC rfl (by omega) (wanted_none rfl) (v := Value.int .i64 me) (fun wr hwr => by simp only [execOp, (F1.eval 0 (by omega)).trans (show _ = Value.int .i64 me from by simp [upd, e0, e1, e7, e9])]; first | rfl | simp [go_sem]) fun F2 => ?_
            refine lyp F2 rfl HCC rfl (by omega) (wanted_none rfl) (v := Value.bool true) (fun wr hwr => by simp only [execOp, (F2.eval 31 (by omega)).trans (show _ = Value.int .i64 (p : Int) from by simp [upd, e0, e1, e7, e9]), (F2.eval 32 (by omega)).trans (show _ = Value.int .i64 me from by simp [upd, e0, e1, e7, e9])]; simp [go_sem, Act.eval, hm]) fun F3 => ?_
            refine lyp F3 rfl HCC rfl (by omega) (wanted_none rfl) (v := Value.bool true) (fun wr hwr => by simp only [execOp, (F3.eval 33 (by omega)).trans (show _ = Value.bool true from by simp [upd, e0, e1, e7, e9])]; first | rfl | simp [go_sem]) fun F4 => ?_
            refine lyp F4 rfl HCC rfl (by omega) (want_yes F4 rfl (e := 34) rfl (by omega) (show _ = Value.bool true from by simp [upd, e0, e1, e7, e9])) (v := Value.slice (some ⟨b1, o1, none⟩) n c) (fun wr hwr => by simp only [execOp, (F4.eval 1 (by omega)).trans (show _ = Value.slice (some ⟨b1, o1, none⟩) n c from by simp [upd, e0, e1, e7, e9])]; first | rfl | simp [go_sem]) fun F5 => ?_
            refine lyp F5 rfl HCC rfl (by omega) (want_yes F5 rfl (e := 34) rfl (by omega) (show _ = Value.bool true from by simp [upd, e0, e1, e7, e9])) (v := Value.int .i64 (p : Int)) (fun wr hwr => by simp only [execOp, (F5.eval 9 (by omega)).trans (show _ = Value.int .i64 (p : Int) from by simp [upd, e0, e1, e7, e9])]; first | rfl | simp [go_sem]) fun F6 => ?_
            refine lyp F6 rfl HCC rfl (by omega) (want_yes F6 rfl (e := 34) rfl (by omega) (show _ = Value.bool true from by simp [upd, e0, e1, e7, e9])) (v := Value.pointer (some ⟨b1, o1 + p, none⟩)) (fun wr hwr => by simp only [execOp, (F6.eval 35 (by omega)).trans (show _ = Value.slice (some ⟨b1, o1, none⟩) n c from by simp [upd, e0, e1, e7, e9]), (F6.eval 36 (by omega)).trans (show _ = Value.int .i64 (p : Int) from by simp [upd, e0, e1, e7, e9])]; simp [go_sem, hp2]) fun F7 => ?_
            refine lyp F7 rfl HCC rfl (by omega) (want_yes F7 rfl (e := 34) rfl (by omega) (show _ = Value.bool true from by simp [upd, e0, e1, e7, e9])) (v := Value.int .i64 z) (fun wr hwr => by simp only [execOp, (F7.eval 37 (by omega)).trans (show _ = Value.pointer (some ⟨b1, o1 + p, none⟩) from by simp [upd, e0, e1, e7, e9])]; simp [go_sem, hwr _, cj]) fun F8 => ?_
            refine lyp F8 rfl HCC rfl (by omega) (want_yes F8 rfl (e := 34) rfl (by omega) (show _ = Value.bool true from by simp [upd, e0, e1, e7, e9])) (v := Value.bool false) (fun wr hwr => by simp only [execOp, (F8.eval 38 (by omega)).trans (show _ = Value.int .i64 z from by simp [upd, e0, e1, e7, e9])]; simp [go_sem, Act.eval, hz]) fun F9 => ?_
            refine lyp F9 rfl HCC rfl (by omega) (wanted_none rfl) (v := Value.bool false) (fun wr hwr => by simp only [execOp, (F9.eval 34 (by omega)).trans (show _ = Value.bool true from by simp [upd, e0, e1, e7, e9]), (F9.eval 39 (by omega)).trans (show _ = Value.bool false from by simp [upd, e0, e1, e7, e9])]; simp [go_sem, Act.eval]) fun F10 => ?_
            refine lyp F10 rfl HCC rfl (by omega) (wanted_none rfl) (v := Value.bool false) (fun wr hwr => by simp only [execOp, (F10.eval 40 (by omega)).trans (show _ = Value.bool false from by simp [upd, e0, e1, e7, e9])]; first | rfl | simp [go_sem]) fun F11 => ?_
            refine lnp F11 rfl HCC rfl (by omega) (want_no F11 rfl (e := 41) rfl (by omega) (show _ = Value.bool false from by simp [upd, e0, e1, e7, e9]) (by decide)) fun F12 => ?_
            refine lnp F12 rfl HCC rfl (by omega) (want_no F12 rfl (e := 41) rfl (by omega) (show _ = Value.bool false from by simp [upd, e0, e1, e7, e9]) (by decide)) fun F13 => ?_
            refine lnp F13 rfl HCC rfl (by omega) (want_no F13 rfl (e := 41) rfl (by omega) (show _ = Value.bool false from by simp [upd, e0, e1, e7, e9]) (by decide)) fun F14 => ?_
            refine lnp F14 rfl HCC rfl (by omega) (want_not F14 rfl (e := 44) rfl (by omega) (show _ = undef from by simp [upd, e0, e1, e7, e9])) fun F15 => ?_
            refine lnp F15 rfl HCC rfl (by omega) (want_not F15 rfl (e := 44) rfl (by omega) (show _ = undef from by simp [upd, e0, e1, e7, e9])) fun F16 => ?_
            refine lnp F16 rfl HCC rfl (by omega) (want_not F16 rfl (e := 44) rfl (by omega) (show _ = undef from by simp [upd, e0, e1, e7, e9])) fun F17 => ?_
            refine lnp F17 rfl HCC rfl (by omega) (want_not F17 rfl (e := 44) rfl (by omega) (show _ = undef from by simp [upd, e0, e1, e7, e9])) fun F18 => ?_
            refine lnp F18 rfl HCC rfl (by omega) (want_not F18 rfl (e := 44) rfl (by omega) (show _ = undef from by simp [upd, e0, e1, e7, e9])) fun F19 => ?_
            refine lnp F19 rfl HCC rfl (by omega) (want_not F19 rfl (e := 44) rfl (by omega) (show _ = undef from by simp [upd, e0, e1, e7, e9])) fun F20 => ?_
            refine lnp F20 rfl HCC rfl (by omega) (want_not F20 rfl (e := 44) rfl (by omega) (show _ = undef from by simp [upd, e0, e1, e7, e9])) fun F21 => ?_
            refine lnp F21 rfl HCC rfl (by omega) (want_not F21 rfl (e := 44) rfl (by omega) (show _ = undef from by simp [upd, e0, e1, e7, e9])) fun F22 => ?_
            refine lnp F22 rfl HCC rfl (by omega) (want_not F22 rfl (e := 44) rfl (by omega) (show _ = undef from by simp [upd, e0, e1, e7, e9])) fun F23 => ?_
            refine lnp F23 rfl HCC rfl (by omega) (want_no F23 rfl (e := 41) rfl (by omega) (show _ = Value.bool false from by simp [upd, e0, e1, e7, e9]) (by decide)) fun F24 => ?_
            refine lyp F24 rfl HCC rfl (by omega) (wanted_none rfl) (v := Value.bool false) (fun wr hwr => by simp only [execOp, (F24.eval 41 (by omega)).trans (show _ = Value.bool false from by simp [upd, e0, e1, e7, e9])]; simp [go_sem, Act.eval]) fun F25 => ?_
            refine ⟨fun _ => HCC, ?_⟩
            refine hK _ _ ?_
            clear F0 F1 F2 F3 F4 F5 F6 F7 F8 F9 F10 F11 F12 F13 F14 F15 F16 F17 F18 F19 F20 F21 F22 F23 F24 F25 e0 e1 e7 e9 HCC
            simp only [Act.put, List.setIfInBounds_toArray, List.set_cons_succ, List.set_cons_zero]
            generalize hY : (({ wr with drawn := wr.drawn + 1 } : World)) = Y
            have hY2 : Y = w.drewN (q + 1) := by rw [← hY, HWQ.out]; rfl
            have HY : Hid _ := hY2
            clear hY hY2 HWQ cj
            try clear hm
            go_wp2
            go_roundw
            case rel => exact ⟨k + 1, q + 1, by omega, by go_num, by rw [HS.out], HY.out⟩
            case measure => simp [intOf]; omega
      · obtain rfl : k = n := by omega
        subst hwq
        go_wp2
        go_ret
        exact ⟨rfl, _, rfl⟩
end Go.Proofs.Ytgohjkamikpdcaa
