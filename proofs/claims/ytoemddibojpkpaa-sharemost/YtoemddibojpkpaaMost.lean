import Derived.Test.YtoemddibojpkpaaAble
import Derived.Test.YtoemddibojpkpaaMost0
import Derived.Deep.Cut
namespace Go.Proofs.Ytoemddibojpkpaa
open Go.RowKit Go.PlainAid
set_option linter.unusedVariables false
set_option linter.unusedSimpArgs false
theorem give_range (h x : Int) : (h ≤ 0 ∨ x ≤ 0) ∧ giveI h x = 0 ∨ (0 < h ∧ 0 < x) ∧ 1 ≤ giveI h x ∧ giveI h x ≤ x ∧ giveI h x ≤ h ∧ giveI h x - 1 ≤ h - giveI h x ∧ (giveI h x = x ∨ h - giveI h x ≤ giveI h x) := by
  unfold giveI
  split
  · left; omega
  · right; omega
set_option maxRecDepth 100000 in
set_option maxHeartbeats 3200000 in
theorem most_law (me h x : Int) (hme : IntKind.i64.wrap me = me) (hh : IntKind.i64.wrap h = h) (ao : Option Addr) (n c : Nat) (zs : List Int) (W : World) (hl : zs.length = n) (hx : FromI W ao zs) (hn : n * 8 ≤ 140737488355328) :
    Calls Try.prog 3 #[.int .i64 me, .slice ao n c, .int .i64 h, .int .i64 x] W fun r w' => r = .returned (.bool true) ∧ Below W.heap.size W w' := by
  have hab := able_any W
  have HX : Hid (FromI W ao zs) := hx
  have HG : Hid (∀ w, Calls Try.prog 11 #[.int .i64 h, .int .i64 x] w _) := fun w => give_any h x hh w
  have hgr := give_range h x
  rw [IntKind.wrap_i64] at hh
  generalize giveI h x = gv at HG hgr
  have HGR : Hid _ := hgr
  clear hx hgr
  go_enter Try.func3, Try.ntmps3
  go_wp2_with (first
    | (go_at_call 9; refine hab.mono ?_; rintro e w1 ⟨rfl, hb1⟩; have HB1 : Hid (Below W.heap.size W w1) := hb1; have HX1 : Hid (FromI w1 ao zs) := FromI.all HX.out hb1; clear hb1 hab)
    | fail)
  go_at_call 10
  refine (ask_any me hme w1 hl HX1.out hn).mono ?_
  rintro e w2 ⟨rfl, q, rfl⟩
  have hfd := ask_found me zs
  rw [hl] at hfd
  rcases hfd with ⟨hr, hb⟩ | ⟨p, hpn, hr, hpm, hp0, hb⟩
  · rw [hr]
    have HB : Hid _ := hb
    clear hb hr
    have hn1 : ¬ (n : Int) ≤ -1 := by omega
    go_upto_region 4 with fail
    refine wp_region_lit ?_
    refine withFrS (N := 115) rfl ?_
    intro f0 F0 hff
    have hs0 : f0 0 = Value.int .i64 me := hff 0
    have hs1 : f0 1 = Value.slice ao n c := hff 1
    have hs9 : f0 9 = Value.int .i64 (-1) := hff 9
    clear hff
    refine syp F0 rfl (by omega) (wanted_none rfl) (v := Value.int .i64 (-1)) (by simp only [execOp, (F0.eval 9 (by omega)).trans (show _ = Value.int .i64 (-1) from by simp [upd, hs0, hs1, hs9])]; first | rfl | simp [go_sem]) fun F1 => ?_
    refine syp F1 rfl (by omega) (wanted_none rfl) (v := Value.bool false) (by simp only [execOp, (F1.eval 17 (by omega)).trans (show _ = Value.int .i64 (-1) from by simp [upd, hs0, hs1, hs9])]; simp [go_sem, Act.eval]) fun F2 => ?_
    refine syp F2 rfl (by omega) (wanted_none rfl) (v := Value.bool false) (by simp only [execOp, (F2.eval 18 (by omega)).trans (show _ = Value.bool false from by simp [upd, hs0, hs1, hs9])]; first | rfl | simp [go_sem]) fun F3 => ?_
    refine syp F3 rfl (by omega) (want_yes F3 rfl (e := 19) rfl (by omega) (show _ = Value.bool false from by simp [upd, hs0, hs1, hs9])) (v := Value.int .i64 (-1)) (by simp only [execOp, (F3.eval 9 (by omega)).trans (show _ = Value.int .i64 (-1) from by simp [upd, hs0, hs1, hs9])]; first | rfl | simp [go_sem]) fun F4 => ?_
    refine syp F4 rfl (by omega) (want_yes F4 rfl (e := 19) rfl (by omega) (show _ = Value.bool false from by simp [upd, hs0, hs1, hs9])) (v := Value.slice ao n c) (by simp only [execOp, (F4.eval 1 (by omega)).trans (show _ = Value.slice ao n c from by simp [upd, hs0, hs1, hs9])]; first | rfl | simp [go_sem]) fun F5 => ?_
    refine syp F5 rfl (by omega) (want_yes F5 rfl (e := 19) rfl (by omega) (show _ = Value.bool false from by simp [upd, hs0, hs1, hs9])) (v := Value.int .i64 (n : Nat)) (by simp only [execOp, (F5.eval 21 (by omega)).trans (show _ = Value.slice ao n c from by simp [upd, hs0, hs1, hs9])]; simp [go_sem, Act.eval, resolve, invoke, builtin, Builtin.len_, Builtin.lenOf]) fun F6 => ?_
    refine syp F6 rfl (by omega) (want_yes F6 rfl (e := 19) rfl (by omega) (show _ = Value.bool false from by simp [upd, hs0, hs1, hs9])) (v := Value.bool false) (by simp only [execOp, (F6.eval 20 (by omega)).trans (show _ = Value.int .i64 (-1) from by simp [upd, hs0, hs1, hs9]), (F6.eval 22 (by omega)).trans (show _ = Value.int .i64 (n : Nat) from by simp [upd, hs0, hs1, hs9])]; simp [go_sem, Act.eval, hn1]) fun F7 => ?_
    refine syp F7 rfl (by omega) (wanted_none rfl) (v := Value.bool false) (by simp only [execOp, (F7.eval 19 (by omega)).trans (show _ = Value.bool false from by simp [upd, hs0, hs1, hs9]), (F7.eval 23 (by omega)).trans (show _ = Value.bool false from by simp [upd, hs0, hs1, hs9])]; simp [go_sem, Act.eval]) fun F8 => ?_
    refine syp F8 rfl (by omega) (wanted_none rfl) (v := Value.bool false) (by simp only [execOp, (F8.eval 24 (by omega)).trans (show _ = Value.bool false from by simp [upd, hs0, hs1, hs9])]; first | rfl | simp [go_sem]) fun F9 => ?_
    refine syp F9 rfl (by omega) (want_yes F9 rfl (e := 25) rfl (by omega) (show _ = Value.bool false from by simp [upd, hs0, hs1, hs9])) (v := Value.int .i64 (-1)) (by simp only [execOp, (F9.eval 9 (by omega)).trans (show _ = Value.int .i64 (-1) from by simp [upd, hs0, hs1, hs9])]; first | rfl | simp [go_sem]) fun F10 => ?_
    refine syp F10 rfl (by omega) (want_yes F10 rfl (e := 25) rfl (by omega) (show _ = Value.bool false from by simp [upd, hs0, hs1, hs9])) (v := Value.bool false) (by simp only [execOp, (F10.eval 26 (by omega)).trans (show _ = Value.int .i64 (-1) from by simp [upd, hs0, hs1, hs9])]; simp [go_sem, Act.eval]) fun F11 => ?_
    refine syp F11 rfl (by omega) (want_yes F11 rfl (e := 25) rfl (by omega) (show _ = Value.bool false from by simp [upd, hs0, hs1, hs9])) (v := Value.bool false) (by simp only [execOp, (F11.eval 27 (by omega)).trans (show _ = Value.bool false from by simp [upd, hs0, hs1, hs9])]; first | rfl | simp [go_sem]) fun F12 => ?_
    refine snp F12 rfl (by omega) (want_no F12 rfl (e := 28) rfl (by omega) (show _ = Value.bool false from by simp [upd, hs0, hs1, hs9]) (by decide)) fun F13 => ?_
    refine snp F13 rfl (by omega) (want_no F13 rfl (e := 28) rfl (by omega) (show _ = Value.bool false from by simp [upd, hs0, hs1, hs9]) (by decide)) fun F14 => ?_
    refine snp F14 rfl (by omega) (want_no F14 rfl (e := 28) rfl (by omega) (show _ = Value.bool false from by simp [upd, hs0, hs1, hs9]) (by decide)) fun F15 => ?_
    refine snp F15 rfl (by omega) (want_no F15 rfl (e := 28) rfl (by omega) (show _ = Value.bool false from by simp [upd, hs0, hs1, hs9]) (by decide)) fun F16 => ?_
    refine snp F16 rfl (by omega) (want_not F16 rfl (e := 32) rfl (by omega) (show _ = undef from by simp [upd, hs0, hs1, hs9])) fun F17 => ?_
    refine snp F17 rfl (by omega) (want_not F17 rfl (e := 32) rfl (by omega) (show _ = undef from by simp [upd, hs0, hs1, hs9])) fun F18 => ?_
    refine snp F18 rfl (by omega) (want_not F18 rfl (e := 32) rfl (by omega) (show _ = undef from by simp [upd, hs0, hs1, hs9])) fun F19 => ?_
    refine snp F19 rfl (by omega) (want_not F19 rfl (e := 32) rfl (by omega) (show _ = undef from by simp [upd, hs0, hs1, hs9])) fun F20 => ?_
    refine snp F20 rfl (by omega) (want_not F20 rfl (e := 32) rfl (by omega) (show _ = undef from by simp [upd, hs0, hs1, hs9])) fun F21 => ?_
    refine snp F21 rfl (by omega) (want_no F21 rfl (e := 28) rfl (by omega) (show _ = Value.bool false from by simp [upd, hs0, hs1, hs9]) (by decide)) fun F22 => ?_
    refine syp F22 rfl (by omega) (want_yes F22 rfl (e := 25) rfl (by omega) (show _ = Value.bool false from by simp [upd, hs0, hs1, hs9])) (v := Value.bool false) (by simp only [execOp, (F22.eval 28 (by omega)).trans (show _ = Value.bool false from by simp [upd, hs0, hs1, hs9])]; simp [go_sem, Act.eval]) fun F23 => ?_
    refine syp F23 rfl (by omega) (wanted_none rfl) (v := Value.bool false) (by simp only [execOp, (F23.eval 25 (by omega)).trans (show _ = Value.bool false from by simp [upd, hs0, hs1, hs9]), (F23.eval 39 (by omega)).trans (show _ = Value.bool false from by simp [upd, hs0, hs1, hs9])]; simp [go_sem, Act.eval]) fun F24 => ?_
    refine ⟨?_⟩
    clear F0 F1 F2 F3 F4 F5 F6 F7 F8 F9 F10 F11 F12 F13 F14 F15 F16 F17 F18 F19 F20 F21 F22 F23 F24 hs0 hs1 hs9 
    simp only [Act.put, List.setIfInBounds_toArray, List.set_cons_succ, List.set_cons_zero]
    go_wp2
    go_loopw [10] (fun i wr => ∃ j q : Nat, j ≤ n ∧ i = .int .i64 j ∧ wr = w1.drewN q) (fun i _ => n - (intOf i).toNat)
    case atStart => exact ⟨0, _, Nat.zero_le _, rfl, rfl⟩
    case round =>
      obtain ⟨j, q2, hj, rfl, hwq⟩ := hrel
      by_cases hlt : j < n
      · obtain ⟨b1, o1, hao, cj0⟩ := FromI.at (k := j) HX1.out (by omega)
        subst hao
        have hbd := HB.out j (by omega)
        have cj : wr.cell? ⟨b1, o1 + j, none⟩ = some (.int .i64 (at0 zs j)) := by rw [hwq]; exact cj0
        generalize at0 zs j = zj at *
        have HWQ : Hid _ := hwq
        clear hwq cj0
        by_cases hjm : (j : Int) = me
        · go_wp2_with fail
          rename_i K hK
          try rw [show ∀ a : Act, a.put none undef = a from fun _ => rfl]
          refine wp_region_mix (fun wq => ∀ p : Addr, wq.cell? p = wr.cell? p) (fun i => i == 99) 99 (by kernel_rfl) rfl (by kernel_rfl) (by kernel_rfl) (by kernel_rfl) ?_
          refine withFrP (N := 115) rfl ?_
          intro f0 F0 hff
          have e0 : f0 0 = Value.int .i64 me := hff 0
          have e1 : f0 1 = Value.slice (some ⟨b1, o1, none⟩) n c := hff 1
          have e9 : f0 9 = Value.int .i64 (-1) := hff 9
          have e10 : f0 10 = Value.int .i64 (j : Int) := hff 10
          clear hff
          have HCC : ∀ p : Addr, (({ wr with drawn := wr.drawn + 1 } : World)).cell? p = wr.cell? p := fun _ => rfl
          refine lyp F0 rfl HCC rfl (by omega) (wanted_none rfl) (v := Value.int .i64 (j : Int)) (fun wr hwr => by simp only [execOp, (F0.eval 10 (by omega)).trans (show _ = Value.int .i64 (j : Int) from by simp [upd, e0, e1, e9, e10])]; first | rfl | simp [go_sem]) fun F1 => ?_
          refine lyp F1 rfl HCC rfl (by omega) (wanted_none rfl) (v := Value.int .i64 me) (fun wr hwr => by simp only [execOp, (F1.eval 0 (by omega)).trans (show _ = Value.int .i64 me from by simp [upd, e0, e1, e9, e10])]; first | rfl | simp [go_sem]) fun F2 => ?_
          refine lyp F2 rfl HCC rfl (by omega) (wanted_none rfl) (v := Value.bool false) (fun wr hwr => by simp only [execOp, (F2.eval 47 (by omega)).trans (show _ = Value.int .i64 (j : Int) from by simp [upd, e0, e1, e9, e10]), (F2.eval 48 (by omega)).trans (show _ = Value.int .i64 me from by simp [upd, e0, e1, e9, e10])]; simp [go_sem, Act.eval, hjm]) fun F3 => ?_
          refine lyp F3 rfl HCC rfl (by omega) (wanted_none rfl) (v := Value.bool false) (fun wr hwr => by simp only [execOp, (F3.eval 49 (by omega)).trans (show _ = Value.bool false from by simp [upd, e0, e1, e9, e10])]; first | rfl | simp [go_sem]) fun F4 => ?_
          refine lnp F4 rfl HCC rfl (by omega) (want_no F4 rfl (e := 50) rfl (by omega) (show _ = Value.bool false from by simp [upd, e0, e1, e9, e10]) (by decide)) fun F5 => ?_
          refine lnp F5 rfl HCC rfl (by omega) (want_no F5 rfl (e := 50) rfl (by omega) (show _ = Value.bool false from by simp [upd, e0, e1, e9, e10]) (by decide)) fun F6 => ?_
          refine lnp F6 rfl HCC rfl (by omega) (want_no F6 rfl (e := 50) rfl (by omega) (show _ = Value.bool false from by simp [upd, e0, e1, e9, e10]) (by decide)) fun F7 => ?_
          refine lnp F7 rfl HCC rfl (by omega) (want_no F7 rfl (e := 50) rfl (by omega) (show _ = Value.bool false from by simp [upd, e0, e1, e9, e10]) (by decide)) fun F8 => ?_
          refine lnp F8 rfl HCC rfl (by omega) (want_no F8 rfl (e := 50) rfl (by omega) (show _ = Value.bool false from by simp [upd, e0, e1, e9, e10]) (by decide)) fun F9 => ?_
          refine lyp F9 rfl HCC rfl (by omega) (wanted_none rfl) (v := Value.bool false) (fun wr hwr => by simp only [execOp, (F9.eval 50 (by omega)).trans (show _ = Value.bool false from by simp [upd, e0, e1, e9, e10])]; simp [go_sem, Act.eval]) fun F10 => ?_
          refine lyp F10 rfl HCC rfl (by omega) (wanted_none rfl) (v := Value.bool false) (fun wr hwr => by simp only [execOp, (F10.eval 56 (by omega)).trans (show _ = Value.bool false from by simp [upd, e0, e1, e9, e10])]; first | rfl | simp [go_sem]) fun F11 => ?_
          refine lnp F11 rfl HCC rfl (by omega) (want_no F11 rfl (e := 57) rfl (by omega) (show _ = Value.bool false from by simp [upd, e0, e1, e9, e10]) (by decide)) fun F12 => ?_
          refine lnp F12 rfl HCC rfl (by omega) (want_no F12 rfl (e := 57) rfl (by omega) (show _ = Value.bool false from by simp [upd, e0, e1, e9, e10]) (by decide)) fun F13 => ?_
          refine lnp F13 rfl HCC rfl (by omega) (want_no F13 rfl (e := 57) rfl (by omega) (show _ = Value.bool false from by simp [upd, e0, e1, e9, e10]) (by decide)) fun F14 => ?_
          refine lnp F14 rfl HCC rfl (by omega) (want_not F14 rfl (e := 60) rfl (by omega) (show _ = undef from by simp [upd, e0, e1, e9, e10])) fun F15 => ?_
          refine lnp F15 rfl HCC rfl (by omega) (want_not F15 rfl (e := 60) rfl (by omega) (show _ = undef from by simp [upd, e0, e1, e9, e10])) fun F16 => ?_
          refine lnp F16 rfl HCC rfl (by omega) (want_not F16 rfl (e := 60) rfl (by omega) (show _ = undef from by simp [upd, e0, e1, e9, e10])) fun F17 => ?_
          refine lnp F17 rfl HCC rfl (by omega) (want_not F17 rfl (e := 60) rfl (by omega) (show _ = undef from by simp [upd, e0, e1, e9, e10])) fun F18 => ?_
          refine lnp F18 rfl HCC rfl (by omega) (want_not F18 rfl (e := 60) rfl (by omega) (show _ = undef from by simp [upd, e0, e1, e9, e10])) fun F19 => ?_
          refine lnp F19 rfl HCC rfl (by omega) (want_not F19 rfl (e := 60) rfl (by omega) (show _ = undef from by simp [upd, e0, e1, e9, e10])) fun F20 => ?_
          refine lnp F20 rfl HCC rfl (by omega) (want_not F20 rfl (e := 60) rfl (by omega) (show _ = undef from by simp [upd, e0, e1, e9, e10])) fun F21 => ?_
          refine lnp F21 rfl HCC rfl (by omega) (want_not F21 rfl (e := 60) rfl (by omega) (show _ = undef from by simp [upd, e0, e1, e9, e10])) fun F22 => ?_
          refine lnp F22 rfl HCC rfl (by omega) (want_not F22 rfl (e := 60) rfl (by omega) (show _ = undef from by simp [upd, e0, e1, e9, e10])) fun F23 => ?_
          refine lnp F23 rfl HCC rfl (by omega) (want_no F23 rfl (e := 57) rfl (by omega) (show _ = Value.bool false from by simp [upd, e0, e1, e9, e10]) (by decide)) fun F24 => ?_
          refine lyp F24 rfl HCC rfl (by omega) (wanted_none rfl) (v := Value.bool false) (fun wr hwr => by simp only [execOp, (F24.eval 57 (by omega)).trans (show _ = Value.bool false from by simp [upd, e0, e1, e9, e10])]; simp [go_sem, Act.eval]) fun F25 => ?_
          refine ⟨fun _ => HCC, ?_⟩
          refine hK _ _ ?_
          clear F0 F1 F2 F3 F4 F5 F6 F7 F8 F9 F10 F11 F12 F13 F14 F15 F16 F17 F18 F19 F20 F21 F22 F23 F24 F25 e0 e1 e9 e10 HCC
          simp only [Act.put, List.setIfInBounds_toArray, List.set_cons_succ, List.set_cons_zero]
          generalize hY : (({ wr with drawn := wr.drawn + 1 } : World)) = Y
          have hY2 : Y = w1.drewN (q2 + 1) := by rw [← hY, HWQ.out]; rfl
          have HY : Hid _ := hY2
          clear hY hY2 HWQ cj
          go_wp2
          go_roundw
          case rel => exact ⟨j + 1, q2 + 1, by omega, by go_num, HY.out⟩
          case measure => simp [intOf]; omega
        · have hz := hbd hjm
          clear hbd
          go_wp2_with fail
          rename_i K hK
          try rw [show ∀ a : Act, a.put none undef = a from fun _ => rfl]
          refine wp_region_mix (fun wq => ∀ p : Addr, wq.cell? p = wr.cell? p) (fun i => i == 99) 99 (by kernel_rfl) rfl (by kernel_rfl) (by kernel_rfl) (by kernel_rfl) ?_
          refine withFrP (N := 115) rfl ?_
          intro f0 F0 hff
          have e0 : f0 0 = Value.int .i64 me := hff 0
          have e1 : f0 1 = Value.slice (some ⟨b1, o1, none⟩) n c := hff 1
          have e9 : f0 9 = Value.int .i64 (-1) := hff 9
          have e10 : f0 10 = Value.int .i64 (j : Int) := hff 10
          clear hff
          have HCC : ∀ p : Addr, (({ wr with drawn := wr.drawn + 1 } : World)).cell? p = wr.cell? p := fun _ => rfl
          refine lyp F0 rfl HCC rfl (by omega) (wanted_none rfl) (v := Value.int .i64 (j : Int)) (fun wr hwr => by simp only [execOp, (F0.eval 10 (by omega)).trans (show _ = Value.int .i64 (j : Int) from by simp [upd, e0, e1, e9, e10])]; first | rfl | simp [go_sem]) fun F1 => ?_
          refine lyp F1 rfl HCC rfl (by omega) (wanted_none rfl) (v := Value.int .i64 me) (fun wr hwr => by simp only [execOp, (F1.eval 0 (by omega)).trans (show _ = Value.int .i64 me from by simp [upd, e0, e1, e9, e10])]; first | rfl | simp [go_sem]) fun F2 => ?_
          refine lyp F2 rfl HCC rfl (by omega) (wanted_none rfl) (v := Value.bool true) (fun wr hwr => by simp only [execOp, (F2.eval 47 (by omega)).trans (show _ = Value.int .i64 (j : Int) from by simp [upd, e0, e1, e9, e10]), (F2.eval 48 (by omega)).trans (show _ = Value.int .i64 me from by simp [upd, e0, e1, e9, e10])]; simp [go_sem, Act.eval, hjm]) fun F3 => ?_
          refine lyp F3 rfl HCC rfl (by omega) (wanted_none rfl) (v := Value.bool true) (fun wr hwr => by simp only [execOp, (F3.eval 49 (by omega)).trans (show _ = Value.bool true from by simp [upd, e0, e1, e9, e10])]; first | rfl | simp [go_sem]) fun F4 => ?_
          refine lyp F4 rfl HCC rfl (by omega) (want_yes F4 rfl (e := 50) rfl (by omega) (show _ = Value.bool true from by simp [upd, e0, e1, e9, e10])) (v := Value.slice (some ⟨b1, o1, none⟩) n c) (fun wr hwr => by simp only [execOp, (F4.eval 1 (by omega)).trans (show _ = Value.slice (some ⟨b1, o1, none⟩) n c from by simp [upd, e0, e1, e9, e10])]; first | rfl | simp [go_sem]) fun F5 => ?_
          refine lyp F5 rfl HCC rfl (by omega) (want_yes F5 rfl (e := 50) rfl (by omega) (show _ = Value.bool true from by simp [upd, e0, e1, e9, e10])) (v := Value.int .i64 (j : Int)) (fun wr hwr => by simp only [execOp, (F5.eval 10 (by omega)).trans (show _ = Value.int .i64 (j : Int) from by simp [upd, e0, e1, e9, e10])]; first | rfl | simp [go_sem]) fun F6 => ?_
          refine lyp F6 rfl HCC rfl (by omega) (want_yes F6 rfl (e := 50) rfl (by omega) (show _ = Value.bool true from by simp [upd, e0, e1, e9, e10])) (v := Value.pointer (some ⟨b1, o1 + j, none⟩)) (fun wr hwr => by simp only [execOp, (F6.eval 51 (by omega)).trans (show _ = Value.slice (some ⟨b1, o1, none⟩) n c from by simp [upd, e0, e1, e9, e10]), (F6.eval 52 (by omega)).trans (show _ = Value.int .i64 (j : Int) from by simp [upd, e0, e1, e9, e10])]; simp [go_sem, hlt]) fun F7 => ?_
          refine lyp F7 rfl HCC rfl (by omega) (want_yes F7 rfl (e := 50) rfl (by omega) (show _ = Value.bool true from by simp [upd, e0, e1, e9, e10])) (v := Value.int .i64 zj) (fun wr hwr => by simp only [execOp, (F7.eval 53 (by omega)).trans (show _ = Value.pointer (some ⟨b1, o1 + j, none⟩) from by simp [upd, e0, e1, e9, e10])]; simp [go_sem, hwr _, cj]) fun F8 => ?_
          refine lyp F8 rfl HCC rfl (by omega) (want_yes F8 rfl (e := 50) rfl (by omega) (show _ = Value.bool true from by simp [upd, e0, e1, e9, e10])) (v := Value.bool false) (fun wr hwr => by simp only [execOp, (F8.eval 54 (by omega)).trans (show _ = Value.int .i64 zj from by simp [upd, e0, e1, e9, e10])]; simp [go_sem, Act.eval, hz]) fun F9 => ?_
          refine lyp F9 rfl HCC rfl (by omega) (wanted_none rfl) (v := Value.bool false) (fun wr hwr => by simp only [execOp, (F9.eval 50 (by omega)).trans (show _ = Value.bool true from by simp [upd, e0, e1, e9, e10]), (F9.eval 55 (by omega)).trans (show _ = Value.bool false from by simp [upd, e0, e1, e9, e10])]; simp [go_sem, Act.eval]) fun F10 => ?_
          refine lyp F10 rfl HCC rfl (by omega) (wanted_none rfl) (v := Value.bool false) (fun wr hwr => by simp only [execOp, (F10.eval 56 (by omega)).trans (show _ = Value.bool false from by simp [upd, e0, e1, e9, e10])]; first | rfl | simp [go_sem]) fun F11 => ?_
          refine lnp F11 rfl HCC rfl (by omega) (want_no F11 rfl (e := 57) rfl (by omega) (show _ = Value.bool false from by simp [upd, e0, e1, e9, e10]) (by decide)) fun F12 => ?_
          refine lnp F12 rfl HCC rfl (by omega) (want_no F12 rfl (e := 57) rfl (by omega) (show _ = Value.bool false from by simp [upd, e0, e1, e9, e10]) (by decide)) fun F13 => ?_
          refine lnp F13 rfl HCC rfl (by omega) (want_no F13 rfl (e := 57) rfl (by omega) (show _ = Value.bool false from by simp [upd, e0, e1, e9, e10]) (by decide)) fun F14 => ?_
          refine lnp F14 rfl HCC rfl (by omega) (want_not F14 rfl (e := 60) rfl (by omega) (show _ = undef from by simp [upd, e0, e1, e9, e10])) fun F15 => ?_
          refine lnp F15 rfl HCC rfl (by omega) (want_not F15 rfl (e := 60) rfl (by omega) (show _ = undef from by simp [upd, e0, e1, e9, e10])) fun F16 => ?_
          refine lnp F16 rfl HCC rfl (by omega) (want_not F16 rfl (e := 60) rfl (by omega) (show _ = undef from by simp [upd, e0, e1, e9, e10])) fun F17 => ?_
          refine lnp F17 rfl HCC rfl (by omega) (want_not F17 rfl (e := 60) rfl (by omega) (show _ = undef from by simp [upd, e0, e1, e9, e10])) fun F18 => ?_
          refine lnp F18 rfl HCC rfl (by omega) (want_not F18 rfl (e := 60) rfl (by omega) (show _ = undef from by simp [upd, e0, e1, e9, e10])) fun F19 => ?_
          refine lnp F19 rfl HCC rfl (by omega) (want_not F19 rfl (e := 60) rfl (by omega) (show _ = undef from by simp [upd, e0, e1, e9, e10])) fun F20 => ?_
          refine lnp F20 rfl HCC rfl (by omega) (want_not F20 rfl (e := 60) rfl (by omega) (show _ = undef from by simp [upd, e0, e1, e9, e10])) fun F21 => ?_
          refine lnp F21 rfl HCC rfl (by omega) (want_not F21 rfl (e := 60) rfl (by omega) (show _ = undef from by simp [upd, e0, e1, e9, e10])) fun F22 => ?_
          refine lnp F22 rfl HCC rfl (by omega) (want_not F22 rfl (e := 60) rfl (by omega) (show _ = undef from by simp [upd, e0, e1, e9, e10])) fun F23 => ?_
          refine lnp F23 rfl HCC rfl (by omega) (want_no F23 rfl (e := 57) rfl (by omega) (show _ = Value.bool false from by simp [upd, e0, e1, e9, e10]) (by decide)) fun F24 => ?_
          refine lyp F24 rfl HCC rfl (by omega) (wanted_none rfl) (v := Value.bool false) (fun wr hwr => by simp only [execOp, (F24.eval 57 (by omega)).trans (show _ = Value.bool false from by simp [upd, e0, e1, e9, e10])]; simp [go_sem, Act.eval]) fun F25 => ?_
          refine ⟨fun _ => HCC, ?_⟩
          refine hK _ _ ?_
          clear F0 F1 F2 F3 F4 F5 F6 F7 F8 F9 F10 F11 F12 F13 F14 F15 F16 F17 F18 F19 F20 F21 F22 F23 F24 F25 e0 e1 e9 e10 HCC
          simp only [Act.put, List.setIfInBounds_toArray, List.set_cons_succ, List.set_cons_zero]
          generalize hY : (({ wr with drawn := wr.drawn + 1 } : World)) = Y
          have hY2 : Y = w1.drewN (q2 + 1) := by rw [← hY, HWQ.out]; rfl
          have HY : Hid _ := hY2
          clear hY hY2 HWQ cj
          go_wp2
          go_roundw
          case rel => exact ⟨j + 1, q2 + 1, by omega, by go_num, HY.out⟩
          case measure => simp [intOf]; omega
      · subst hwq
        have hg := HGR.out
        by_cases h1 : h ≤ 0
        · obtain rfl : gv = 0 := by omega
          clear hg HGR
          go_wp2_with (go_at_call 11; refine (HG.out _).mono ?_; rintro e w4 ⟨rfl, rfl⟩)
          go_ret
          exact ⟨rfl, below_drewN HB1.out _⟩
        · by_cases h2 : x ≤ 0
          · obtain rfl : gv = 0 := by omega
            clear hg HGR
            go_wp2_with (go_at_call 11; refine (HG.out _).mono ?_; rintro e w4 ⟨rfl, rfl⟩)
            go_ret
            exact ⟨rfl, below_drewN HB1.out _⟩
          · have g1 : 1 ≤ gv ∧ gv ≤ x ∧ gv ≤ h ∧ gv - 1 ≤ h - gv := by omega
            obtain ⟨g1, g2, g3, g4⟩ := g1
            by_cases h3 : gv = x
            · subst h3
              clear hg HGR
              go_wp2_with (go_at_call 11; refine (HG.out _).mono ?_; rintro e w4 ⟨rfl, rfl⟩)
              go_ret
              exact ⟨rfl, below_drewN HB1.out _⟩
            · have h4 : h - gv ≤ gv := by omega
              have h3b : (gv == x) = false := by simpa using h3
              clear hg HGR
              go_wp2_with (go_at_call 11; refine (HG.out _).mono ?_; rintro e w4 ⟨rfl, rfl⟩)
              go_ret
              exact ⟨rfl, below_drewN HB1.out _⟩
  · rw [hr]
    have HB : Hid _ := hb
    clear hb hr
    obtain ⟨b1, o1, hao, cp0⟩ := FromI.at (k := p) HX1.out (by omega)
    have cp1 : (w1.drewN q).cell? ⟨b1, o1 + p, none⟩ = some (.int .i64 (at0 zs p)) := cp0
    subst hao
    have hpmb : ((p : Int) == me) = false := by simpa using hpm
    have n1 : ¬ (p : Int) < -1 := by omega
    have n2 : ¬ n ≤ p := by omega
    have n3 : ¬ at0 zs p ≤ 0 := by omega
    have d1 : decide ((p : Int) < -1) = false := decide_eq_false n1
    have d2 : decide (n ≤ p) = false := decide_eq_false n2
    have d3 : decide (at0 zs p ≤ 0) = false := decide_eq_false n3
    go_wp2
    clear cp0 cp1 n1 n2 n3 d1 d2 d3
    go_loopw [10] (fun i wr => ∃ j q : Nat, j ≤ n ∧ i = .int .i64 j ∧ wr = w1.drewN q) (fun i _ => n - (intOf i).toNat)
    case atStart => exact ⟨0, _, Nat.zero_le _, rfl, rfl⟩
    case round =>
      obtain ⟨j, q2, hj, rfl, hwq⟩ := hrel
      by_cases hlt : j < n
      · obtain ⟨b2, o2, hao, cj0⟩ := FromI.at (k := j) HX1.out (by omega)
        cases hao
        have hbd := HB.out j (by omega)
        obtain ⟨b2, o2, hao, cp0⟩ := FromI.at (k := p) HX1.out (by omega)
        cases hao
        have cp : wr.cell? ⟨b1, o1 + p, none⟩ = some (.int .i64 (at0 zs p)) := by rw [hwq]; exact cp0
        generalize at0 zs p = zp at *
        have cj : wr.cell? ⟨b1, o1 + j, none⟩ = some (.int .i64 (at0 zs j)) := by rw [hwq]; exact cj0
        generalize at0 zs j = zj at *
        have HWQ : Hid _ := hwq
        clear hwq cj0 cp0
        by_cases hjm : (j : Int) = me
        · go_wp2_with fail
          rename_i K hK
          try rw [show ∀ a : Act, a.put none undef = a from fun _ => rfl]
          refine wp_region_mix (fun wq => ∀ p : Addr, wq.cell? p = wr.cell? p) (fun i => i == 99) 99 (by kernel_rfl) rfl (by kernel_rfl) (by kernel_rfl) (by kernel_rfl) ?_
          refine withFrP (N := 115) rfl ?_
          intro f0 F0 hff
          have e0 : f0 0 = Value.int .i64 me := hff 0
          have e1 : f0 1 = Value.slice (some ⟨b1, o1, none⟩) n c := hff 1
          have e9 : f0 9 = Value.int .i64 (p : Int) := hff 9
          have e10 : f0 10 = Value.int .i64 (j : Int) := hff 10
          clear hff
          have HCC : ∀ p : Addr, (({ wr with drawn := wr.drawn + 1 } : World)).cell? p = wr.cell? p := fun _ => rfl
          refine lyp F0 rfl HCC rfl (by omega) (wanted_none rfl) (v := Value.int .i64 (j : Int)) (fun wr hwr => by simp only [execOp, (F0.eval 10 (by omega)).trans (show _ = Value.int .i64 (j : Int) from by simp [upd, e0, e1, e9, e10])]; first | rfl | simp [go_sem]) fun F1 => ?_
          refine lyp F1 rfl HCC rfl (by omega) (wanted_none rfl) (v := Value.int .i64 me) (fun wr hwr => by simp only [execOp, (F1.eval 0 (by omega)).trans (show _ = Value.int .i64 me from by simp [upd, e0, e1, e9, e10])]; first | rfl | simp [go_sem]) fun F2 => ?_
          refine lyp F2 rfl HCC rfl (by omega) (wanted_none rfl) (v := Value.bool false) (fun wr hwr => by simp only [execOp, (F2.eval 47 (by omega)).trans (show _ = Value.int .i64 (j : Int) from by simp [upd, e0, e1, e9, e10]), (F2.eval 48 (by omega)).trans (show _ = Value.int .i64 me from by simp [upd, e0, e1, e9, e10])]; simp [go_sem, Act.eval, hjm]) fun F3 => ?_
          refine lyp F3 rfl HCC rfl (by omega) (wanted_none rfl) (v := Value.bool false) (fun wr hwr => by simp only [execOp, (F3.eval 49 (by omega)).trans (show _ = Value.bool false from by simp [upd, e0, e1, e9, e10])]; first | rfl | simp [go_sem]) fun F4 => ?_
          refine lnp F4 rfl HCC rfl (by omega) (want_no F4 rfl (e := 50) rfl (by omega) (show _ = Value.bool false from by simp [upd, e0, e1, e9, e10]) (by decide)) fun F5 => ?_
          refine lnp F5 rfl HCC rfl (by omega) (want_no F5 rfl (e := 50) rfl (by omega) (show _ = Value.bool false from by simp [upd, e0, e1, e9, e10]) (by decide)) fun F6 => ?_
          refine lnp F6 rfl HCC rfl (by omega) (want_no F6 rfl (e := 50) rfl (by omega) (show _ = Value.bool false from by simp [upd, e0, e1, e9, e10]) (by decide)) fun F7 => ?_
          refine lnp F7 rfl HCC rfl (by omega) (want_no F7 rfl (e := 50) rfl (by omega) (show _ = Value.bool false from by simp [upd, e0, e1, e9, e10]) (by decide)) fun F8 => ?_
          refine lnp F8 rfl HCC rfl (by omega) (want_no F8 rfl (e := 50) rfl (by omega) (show _ = Value.bool false from by simp [upd, e0, e1, e9, e10]) (by decide)) fun F9 => ?_
          refine lyp F9 rfl HCC rfl (by omega) (wanted_none rfl) (v := Value.bool false) (fun wr hwr => by simp only [execOp, (F9.eval 50 (by omega)).trans (show _ = Value.bool false from by simp [upd, e0, e1, e9, e10])]; simp [go_sem, Act.eval]) fun F10 => ?_
          refine lyp F10 rfl HCC rfl (by omega) (wanted_none rfl) (v := Value.bool false) (fun wr hwr => by simp only [execOp, (F10.eval 56 (by omega)).trans (show _ = Value.bool false from by simp [upd, e0, e1, e9, e10])]; first | rfl | simp [go_sem]) fun F11 => ?_
          refine lnp F11 rfl HCC rfl (by omega) (want_no F11 rfl (e := 57) rfl (by omega) (show _ = Value.bool false from by simp [upd, e0, e1, e9, e10]) (by decide)) fun F12 => ?_
          refine lnp F12 rfl HCC rfl (by omega) (want_no F12 rfl (e := 57) rfl (by omega) (show _ = Value.bool false from by simp [upd, e0, e1, e9, e10]) (by decide)) fun F13 => ?_
          refine lnp F13 rfl HCC rfl (by omega) (want_no F13 rfl (e := 57) rfl (by omega) (show _ = Value.bool false from by simp [upd, e0, e1, e9, e10]) (by decide)) fun F14 => ?_
          refine lnp F14 rfl HCC rfl (by omega) (want_not F14 rfl (e := 60) rfl (by omega) (show _ = undef from by simp [upd, e0, e1, e9, e10])) fun F15 => ?_
          refine lnp F15 rfl HCC rfl (by omega) (want_not F15 rfl (e := 60) rfl (by omega) (show _ = undef from by simp [upd, e0, e1, e9, e10])) fun F16 => ?_
          refine lnp F16 rfl HCC rfl (by omega) (want_not F16 rfl (e := 60) rfl (by omega) (show _ = undef from by simp [upd, e0, e1, e9, e10])) fun F17 => ?_
          refine lnp F17 rfl HCC rfl (by omega) (want_not F17 rfl (e := 60) rfl (by omega) (show _ = undef from by simp [upd, e0, e1, e9, e10])) fun F18 => ?_
          refine lnp F18 rfl HCC rfl (by omega) (want_not F18 rfl (e := 60) rfl (by omega) (show _ = undef from by simp [upd, e0, e1, e9, e10])) fun F19 => ?_
          refine lnp F19 rfl HCC rfl (by omega) (want_not F19 rfl (e := 60) rfl (by omega) (show _ = undef from by simp [upd, e0, e1, e9, e10])) fun F20 => ?_
          refine lnp F20 rfl HCC rfl (by omega) (want_not F20 rfl (e := 60) rfl (by omega) (show _ = undef from by simp [upd, e0, e1, e9, e10])) fun F21 => ?_
          refine lnp F21 rfl HCC rfl (by omega) (want_not F21 rfl (e := 60) rfl (by omega) (show _ = undef from by simp [upd, e0, e1, e9, e10])) fun F22 => ?_
          refine lnp F22 rfl HCC rfl (by omega) (want_not F22 rfl (e := 60) rfl (by omega) (show _ = undef from by simp [upd, e0, e1, e9, e10])) fun F23 => ?_
          refine lnp F23 rfl HCC rfl (by omega) (want_no F23 rfl (e := 57) rfl (by omega) (show _ = Value.bool false from by simp [upd, e0, e1, e9, e10]) (by decide)) fun F24 => ?_
          refine lyp F24 rfl HCC rfl (by omega) (wanted_none rfl) (v := Value.bool false) (fun wr hwr => by simp only [execOp, (F24.eval 57 (by omega)).trans (show _ = Value.bool false from by simp [upd, e0, e1, e9, e10])]; simp [go_sem, Act.eval]) fun F25 => ?_
          refine ⟨fun _ => HCC, ?_⟩
          refine hK _ _ ?_
          clear F0 F1 F2 F3 F4 F5 F6 F7 F8 F9 F10 F11 F12 F13 F14 F15 F16 F17 F18 F19 F20 F21 F22 F23 F24 F25 e0 e1 e9 e10 HCC
          simp only [Act.put, List.setIfInBounds_toArray, List.set_cons_succ, List.set_cons_zero]
          generalize hY : (({ wr with drawn := wr.drawn + 1 } : World)) = Y
          have hY2 : Y = w1.drewN (q2 + 1) := by rw [← hY, HWQ.out]; rfl
          have HY : Hid _ := hY2
          clear hY hY2 HWQ cj cp
          go_wp2
          go_roundw
          case rel => exact ⟨j + 1, q2 + 1, by omega, by go_num, HY.out⟩
          case measure => simp [intOf]; omega
        · by_cases hz : 0 < zj
          · have hzz := hbd hjm
            clear hbd
            go_wp2_with fail
            rename_i K hK
            try rw [show ∀ a : Act, a.put none undef = a from fun _ => rfl]
            refine wp_region_mix (fun wq => ∀ p : Addr, wq.cell? p = wr.cell? p) (fun i => i == 99) 99 (by kernel_rfl) rfl (by kernel_rfl) (by kernel_rfl) (by kernel_rfl) ?_
            refine withFrP (N := 115) rfl ?_
            intro f0 F0 hff
            have e0 : f0 0 = Value.int .i64 me := hff 0
            have e1 : f0 1 = Value.slice (some ⟨b1, o1, none⟩) n c := hff 1
            have e9 : f0 9 = Value.int .i64 (p : Int) := hff 9
            have e10 : f0 10 = Value.int .i64 (j : Int) := hff 10
            clear hff
            have HCC : ∀ p : Addr, (({ wr with drawn := wr.drawn + 1 } : World)).cell? p = wr.cell? p := fun _ => rfl
            refine lyp F0 rfl HCC rfl (by omega) (wanted_none rfl) (v := Value.int .i64 (j : Int)) (fun wr hwr => by simp only [execOp, (F0.eval 10 (by omega)).trans (show _ = Value.int .i64 (j : Int) from by simp [upd, e0, e1, e9, e10])]; first | rfl | simp [go_sem]) fun F1 => ?_
            refine lyp F1 rfl HCC rfl (by omega) (wanted_none rfl) (v := Value.int .i64 me) (fun wr hwr => by simp only [execOp, (F1.eval 0 (by omega)).trans (show _ = Value.int .i64 me from by simp [upd, e0, e1, e9, e10])]; first | rfl | simp [go_sem]) fun F2 => ?_
            refine lyp F2 rfl HCC rfl (by omega) (wanted_none rfl) (v := Value.bool true) (fun wr hwr => by simp only [execOp, (F2.eval 47 (by omega)).trans (show _ = Value.int .i64 (j : Int) from by simp [upd, e0, e1, e9, e10]), (F2.eval 48 (by omega)).trans (show _ = Value.int .i64 me from by simp [upd, e0, e1, e9, e10])]; simp [go_sem, Act.eval, hjm]) fun F3 => ?_
            refine lyp F3 rfl HCC rfl (by omega) (wanted_none rfl) (v := Value.bool true) (fun wr hwr => by simp only [execOp, (F3.eval 49 (by omega)).trans (show _ = Value.bool true from by simp [upd, e0, e1, e9, e10])]; first | rfl | simp [go_sem]) fun F4 => ?_
            refine lyp F4 rfl HCC rfl (by omega) (want_yes F4 rfl (e := 50) rfl (by omega) (show _ = Value.bool true from by simp [upd, e0, e1, e9, e10])) (v := Value.slice (some ⟨b1, o1, none⟩) n c) (fun wr hwr => by simp only [execOp, (F4.eval 1 (by omega)).trans (show _ = Value.slice (some ⟨b1, o1, none⟩) n c from by simp [upd, e0, e1, e9, e10])]; first | rfl | simp [go_sem]) fun F5 => ?_
            refine lyp F5 rfl HCC rfl (by omega) (want_yes F5 rfl (e := 50) rfl (by omega) (show _ = Value.bool true from by simp [upd, e0, e1, e9, e10])) (v := Value.int .i64 (j : Int)) (fun wr hwr => by simp only [execOp, (F5.eval 10 (by omega)).trans (show _ = Value.int .i64 (j : Int) from by simp [upd, e0, e1, e9, e10])]; first | rfl | simp [go_sem]) fun F6 => ?_
            refine lyp F6 rfl HCC rfl (by omega) (want_yes F6 rfl (e := 50) rfl (by omega) (show _ = Value.bool true from by simp [upd, e0, e1, e9, e10])) (v := Value.pointer (some ⟨b1, o1 + j, none⟩)) (fun wr hwr => by simp only [execOp, (F6.eval 51 (by omega)).trans (show _ = Value.slice (some ⟨b1, o1, none⟩) n c from by simp [upd, e0, e1, e9, e10]), (F6.eval 52 (by omega)).trans (show _ = Value.int .i64 (j : Int) from by simp [upd, e0, e1, e9, e10])]; simp [go_sem, hlt]) fun F7 => ?_
            refine lyp F7 rfl HCC rfl (by omega) (want_yes F7 rfl (e := 50) rfl (by omega) (show _ = Value.bool true from by simp [upd, e0, e1, e9, e10])) (v := Value.int .i64 zj) (fun wr hwr => by simp only [execOp, (F7.eval 53 (by omega)).trans (show _ = Value.pointer (some ⟨b1, o1 + j, none⟩) from by simp [upd, e0, e1, e9, e10])]; simp [go_sem, hwr _, cj]) fun F8 => ?_
            refine lyp F8 rfl HCC rfl (by omega) (want_yes F8 rfl (e := 50) rfl (by omega) (show _ = Value.bool true from by simp [upd, e0, e1, e9, e10])) (v := Value.bool true) (fun wr hwr => by simp only [execOp, (F8.eval 54 (by omega)).trans (show _ = Value.int .i64 zj from by simp [upd, e0, e1, e9, e10])]; simp [go_sem, Act.eval, hz]) fun F9 => ?_
            refine lyp F9 rfl HCC rfl (by omega) (wanted_none rfl) (v := Value.bool true) (fun wr hwr => by simp only [execOp, (F9.eval 50 (by omega)).trans (show _ = Value.bool true from by simp [upd, e0, e1, e9, e10]), (F9.eval 55 (by omega)).trans (show _ = Value.bool true from by simp [upd, e0, e1, e9, e10])]; simp [go_sem, Act.eval]) fun F10 => ?_
            refine lyp F10 rfl HCC rfl (by omega) (wanted_none rfl) (v := Value.bool true) (fun wr hwr => by simp only [execOp, (F10.eval 56 (by omega)).trans (show _ = Value.bool true from by simp [upd, e0, e1, e9, e10])]; first | rfl | simp [go_sem]) fun F11 => ?_
            refine lyp F11 rfl HCC rfl (by omega) (want_yes F11 rfl (e := 57) rfl (by omega) (show _ = Value.bool true from by simp [upd, e0, e1, e9, e10])) (v := Value.int .i64 (p : Int)) (fun wr hwr => by simp only [execOp, (F11.eval 9 (by omega)).trans (show _ = Value.int .i64 (p : Int) from by simp [upd, e0, e1, e9, e10])]; first | rfl | simp [go_sem]) fun F12 => ?_
            refine lyp F12 rfl HCC rfl (by omega) (want_yes F12 rfl (e := 57) rfl (by omega) (show _ = Value.bool true from by simp [upd, e0, e1, e9, e10])) (v := Value.bool false) (fun wr hwr => by simp only [execOp, (F12.eval 58 (by omega)).trans (show _ = Value.int .i64 (p : Int) from by simp [upd, e0, e1, e9, e10])]; simp [go_sem, Act.eval]) fun F13 => ?_
            refine lyp F13 rfl HCC rfl (by omega) (want_yes F13 rfl (e := 57) rfl (by omega) (show _ = Value.bool true from by simp [upd, e0, e1, e9, e10])) (v := Value.bool false) (fun wr hwr => by simp only [execOp, (F13.eval 59 (by omega)).trans (show _ = Value.bool false from by simp [upd, e0, e1, e9, e10])]; first | rfl | simp [go_sem]) fun F14 => ?_
            refine lyp F14 rfl HCC rfl (by omega) (want_yes F14 rfl (e := 60) rfl (by omega) (show _ = Value.bool false from by simp [upd, e0, e1, e9, e10])) (v := Value.slice (some ⟨b1, o1, none⟩) n c) (fun wr hwr => by simp only [execOp, (F14.eval 1 (by omega)).trans (show _ = Value.slice (some ⟨b1, o1, none⟩) n c from by simp [upd, e0, e1, e9, e10])]; first | rfl | simp [go_sem]) fun F15 => ?_
            refine lyp F15 rfl HCC rfl (by omega) (want_yes F15 rfl (e := 60) rfl (by omega) (show _ = Value.bool false from by simp [upd, e0, e1, e9, e10])) (v := Value.int .i64 (j : Int)) (fun wr hwr => by simp only [execOp, (F15.eval 10 (by omega)).trans (show _ = Value.int .i64 (j : Int) from by simp [upd, e0, e1, e9, e10])]; first | rfl | simp [go_sem]) fun F16 => ?_
            refine lyp F16 rfl HCC rfl (by omega) (want_yes F16 rfl (e := 60) rfl (by omega) (show _ = Value.bool false from by simp [upd, e0, e1, e9, e10])) (v := Value.pointer (some ⟨b1, o1 + j, none⟩)) (fun wr hwr => by simp only [execOp, (F16.eval 61 (by omega)).trans (show _ = Value.slice (some ⟨b1, o1, none⟩) n c from by simp [upd, e0, e1, e9, e10]), (F16.eval 62 (by omega)).trans (show _ = Value.int .i64 (j : Int) from by simp [upd, e0, e1, e9, e10])]; simp [go_sem, hlt]) fun F17 => ?_
            refine lyp F17 rfl HCC rfl (by omega) (want_yes F17 rfl (e := 60) rfl (by omega) (show _ = Value.bool false from by simp [upd, e0, e1, e9, e10])) (v := Value.int .i64 zj) (fun wr hwr => by simp only [execOp, (F17.eval 63 (by omega)).trans (show _ = Value.pointer (some ⟨b1, o1 + j, none⟩) from by simp [upd, e0, e1, e9, e10])]; simp [go_sem, hwr _, cj]) fun F18 => ?_
            refine lyp F18 rfl HCC rfl (by omega) (want_yes F18 rfl (e := 60) rfl (by omega) (show _ = Value.bool false from by simp [upd, e0, e1, e9, e10])) (v := Value.slice (some ⟨b1, o1, none⟩) n c) (fun wr hwr => by simp only [execOp, (F18.eval 1 (by omega)).trans (show _ = Value.slice (some ⟨b1, o1, none⟩) n c from by simp [upd, e0, e1, e9, e10])]; first | rfl | simp [go_sem]) fun F19 => ?_
            refine lyp F19 rfl HCC rfl (by omega) (want_yes F19 rfl (e := 60) rfl (by omega) (show _ = Value.bool false from by simp [upd, e0, e1, e9, e10])) (v := Value.int .i64 (p : Int)) (fun wr hwr => by simp only [execOp, (F19.eval 9 (by omega)).trans (show _ = Value.int .i64 (p : Int) from by simp [upd, e0, e1, e9, e10])]; first | rfl | simp [go_sem]) fun F20 => ?_
            refine lyp F20 rfl HCC rfl (by omega) (want_yes F20 rfl (e := 60) rfl (by omega) (show _ = Value.bool false from by simp [upd, e0, e1, e9, e10])) (v := Value.pointer (some ⟨b1, o1 + p, none⟩)) (fun wr hwr => by simp only [execOp, (F20.eval 65 (by omega)).trans (show _ = Value.slice (some ⟨b1, o1, none⟩) n c from by simp [upd, e0, e1, e9, e10]), (F20.eval 66 (by omega)).trans (show _ = Value.int .i64 (p : Int) from by simp [upd, e0, e1, e9, e10])]; simp [go_sem, hpn]) fun F21 => ?_
            refine lyp F21 rfl HCC rfl (by omega) (want_yes F21 rfl (e := 60) rfl (by omega) (show _ = Value.bool false from by simp [upd, e0, e1, e9, e10])) (v := Value.int .i64 zp) (fun wr hwr => by simp only [execOp, (F21.eval 67 (by omega)).trans (show _ = Value.pointer (some ⟨b1, o1 + p, none⟩) from by simp [upd, e0, e1, e9, e10])]; simp [go_sem, hwr _, cp]) fun F22 => ?_
            refine lyp F22 rfl HCC rfl (by omega) (want_yes F22 rfl (e := 60) rfl (by omega) (show _ = Value.bool false from by simp [upd, e0, e1, e9, e10])) (v := Value.bool false) (fun wr hwr => by simp only [execOp, (F22.eval 64 (by omega)).trans (show _ = Value.int .i64 zj from by simp [upd, e0, e1, e9, e10]), (F22.eval 68 (by omega)).trans (show _ = Value.int .i64 zp from by simp [upd, e0, e1, e9, e10])]; simp [go_sem, Act.eval, hzz]) fun F23 => ?_
            refine lyp F23 rfl HCC rfl (by omega) (want_yes F23 rfl (e := 57) rfl (by omega) (show _ = Value.bool true from by simp [upd, e0, e1, e9, e10])) (v := Value.bool false) (fun wr hwr => by simp only [execOp, (F23.eval 60 (by omega)).trans (show _ = Value.bool false from by simp [upd, e0, e1, e9, e10]), (F23.eval 69 (by omega)).trans (show _ = Value.bool false from by simp [upd, e0, e1, e9, e10])]; simp [go_sem, Act.eval]) fun F24 => ?_
            refine lyp F24 rfl HCC rfl (by omega) (wanted_none rfl) (v := Value.bool false) (fun wr hwr => by simp only [execOp, (F24.eval 57 (by omega)).trans (show _ = Value.bool true from by simp [upd, e0, e1, e9, e10]), (F24.eval 70 (by omega)).trans (show _ = Value.bool false from by simp [upd, e0, e1, e9, e10])]; simp [go_sem, Act.eval]) fun F25 => ?_
            refine ⟨fun _ => HCC, ?_⟩
            refine hK _ _ ?_
            clear F0 F1 F2 F3 F4 F5 F6 F7 F8 F9 F10 F11 F12 F13 F14 F15 F16 F17 F18 F19 F20 F21 F22 F23 F24 F25 e0 e1 e9 e10 HCC
            simp only [Act.put, List.setIfInBounds_toArray, List.set_cons_succ, List.set_cons_zero]
            generalize hY : (({ wr with drawn := wr.drawn + 1 } : World)) = Y
            have hY2 : Y = w1.drewN (q2 + 1) := by rw [← hY, HWQ.out]; rfl
            have HY : Hid _ := hY2
            clear hY hY2 HWQ cj cp
            go_wp2
            go_roundw
            case rel => exact ⟨j + 1, q2 + 1, by omega, by go_num, HY.out⟩
            case measure => simp [intOf]; omega
          · clear hbd
            have hz' : zj ≤ 0 := by omega
            go_wp2_with fail
            rename_i K hK
            try rw [show ∀ a : Act, a.put none undef = a from fun _ => rfl]
            refine wp_region_mix (fun wq => ∀ p : Addr, wq.cell? p = wr.cell? p) (fun i => i == 99) 99 (by kernel_rfl) rfl (by kernel_rfl) (by kernel_rfl) (by kernel_rfl) ?_
            refine withFrP (N := 115) rfl ?_
            intro f0 F0 hff
            have e0 : f0 0 = Value.int .i64 me := hff 0
            have e1 : f0 1 = Value.slice (some ⟨b1, o1, none⟩) n c := hff 1
            have e9 : f0 9 = Value.int .i64 (p : Int) := hff 9
            have e10 : f0 10 = Value.int .i64 (j : Int) := hff 10
            clear hff
            have HCC : ∀ p : Addr, (({ wr with drawn := wr.drawn + 1 } : World)).cell? p = wr.cell? p := fun _ => rfl
            refine lyp F0 rfl HCC rfl (by omega) (wanted_none rfl) (v := Value.int .i64 (j : Int)) (fun wr hwr => by simp only [execOp, (F0.eval 10 (by omega)).trans (show _ = Value.int .i64 (j : Int) from by simp [upd, e0, e1, e9, e10])]; first | rfl | simp [go_sem]) fun F1 => ?_
            refine lyp F1 rfl HCC rfl (by omega) (wanted_none rfl) (v := Value.int .i64 me) (fun wr hwr => by simp only [execOp, (F1.eval 0 (by omega)).trans (show _ = Value.int .i64 me from by simp [upd, e0, e1, e9, e10])]; first | rfl | simp [go_sem]) fun F2 => ?_
            refine lyp F2 rfl HCC rfl (by omega) (wanted_none rfl) (v := Value.bool true) (fun wr hwr => by simp only [execOp, (F2.eval 47 (by omega)).trans (show _ = Value.int .i64 (j : Int) from by simp [upd, e0, e1, e9, e10]), (F2.eval 48 (by omega)).trans (show _ = Value.int .i64 me from by simp [upd, e0, e1, e9, e10])]; simp [go_sem, Act.eval, hjm]) fun F3 => ?_
            refine lyp F3 rfl HCC rfl (by omega) (wanted_none rfl) (v := Value.bool true) (fun wr hwr => by simp only [execOp, (F3.eval 49 (by omega)).trans (show _ = Value.bool true from by simp [upd, e0, e1, e9, e10])]; first | rfl | simp [go_sem]) fun F4 => ?_
            refine lyp F4 rfl HCC rfl (by omega) (want_yes F4 rfl (e := 50) rfl (by omega) (show _ = Value.bool true from by simp [upd, e0, e1, e9, e10])) (v := Value.slice (some ⟨b1, o1, none⟩) n c) (fun wr hwr => by simp only [execOp, (F4.eval 1 (by omega)).trans (show _ = Value.slice (some ⟨b1, o1, none⟩) n c from by simp [upd, e0, e1, e9, e10])]; first | rfl | simp [go_sem]) fun F5 => ?_
            refine lyp F5 rfl HCC rfl (by omega) (want_yes F5 rfl (e := 50) rfl (by omega) (show _ = Value.bool true from by simp [upd, e0, e1, e9, e10])) (v := Value.int .i64 (j : Int)) (fun wr hwr => by simp only [execOp, (F5.eval 10 (by omega)).trans (show _ = Value.int .i64 (j : Int) from by simp [upd, e0, e1, e9, e10])]; first | rfl | simp [go_sem]) fun F6 => ?_
            refine lyp F6 rfl HCC rfl (by omega) (want_yes F6 rfl (e := 50) rfl (by omega) (show _ = Value.bool true from by simp [upd, e0, e1, e9, e10])) (v := Value.pointer (some ⟨b1, o1 + j, none⟩)) (fun wr hwr => by simp only [execOp, (F6.eval 51 (by omega)).trans (show _ = Value.slice (some ⟨b1, o1, none⟩) n c from by simp [upd, e0, e1, e9, e10]), (F6.eval 52 (by omega)).trans (show _ = Value.int .i64 (j : Int) from by simp [upd, e0, e1, e9, e10])]; simp [go_sem, hlt]) fun F7 => ?_
            refine lyp F7 rfl HCC rfl (by omega) (want_yes F7 rfl (e := 50) rfl (by omega) (show _ = Value.bool true from by simp [upd, e0, e1, e9, e10])) (v := Value.int .i64 zj) (fun wr hwr => by simp only [execOp, (F7.eval 53 (by omega)).trans (show _ = Value.pointer (some ⟨b1, o1 + j, none⟩) from by simp [upd, e0, e1, e9, e10])]; simp [go_sem, hwr _, cj]) fun F8 => ?_
            refine lyp F8 rfl HCC rfl (by omega) (want_yes F8 rfl (e := 50) rfl (by omega) (show _ = Value.bool true from by simp [upd, e0, e1, e9, e10])) (v := Value.bool false) (fun wr hwr => by simp only [execOp, (F8.eval 54 (by omega)).trans (show _ = Value.int .i64 zj from by simp [upd, e0, e1, e9, e10])]; simp [go_sem, Act.eval, hz']) fun F9 => ?_
            refine lyp F9 rfl HCC rfl (by omega) (wanted_none rfl) (v := Value.bool false) (fun wr hwr => by simp only [execOp, (F9.eval 50 (by omega)).trans (show _ = Value.bool true from by simp [upd, e0, e1, e9, e10]), (F9.eval 55 (by omega)).trans (show _ = Value.bool false from by simp [upd, e0, e1, e9, e10])]; simp [go_sem, Act.eval]) fun F10 => ?_
            refine lyp F10 rfl HCC rfl (by omega) (wanted_none rfl) (v := Value.bool false) (fun wr hwr => by simp only [execOp, (F10.eval 56 (by omega)).trans (show _ = Value.bool false from by simp [upd, e0, e1, e9, e10])]; first | rfl | simp [go_sem]) fun F11 => ?_
            refine lnp F11 rfl HCC rfl (by omega) (want_no F11 rfl (e := 57) rfl (by omega) (show _ = Value.bool false from by simp [upd, e0, e1, e9, e10]) (by decide)) fun F12 => ?_
            refine lnp F12 rfl HCC rfl (by omega) (want_no F12 rfl (e := 57) rfl (by omega) (show _ = Value.bool false from by simp [upd, e0, e1, e9, e10]) (by decide)) fun F13 => ?_
            refine lnp F13 rfl HCC rfl (by omega) (want_no F13 rfl (e := 57) rfl (by omega) (show _ = Value.bool false from by simp [upd, e0, e1, e9, e10]) (by decide)) fun F14 => ?_
            refine lnp F14 rfl HCC rfl (by omega) (want_not F14 rfl (e := 60) rfl (by omega) (show _ = undef from by simp [upd, e0, e1, e9, e10])) fun F15 => ?_
            refine lnp F15 rfl HCC rfl (by omega) (want_not F15 rfl (e := 60) rfl (by omega) (show _ = undef from by simp [upd, e0, e1, e9, e10])) fun F16 => ?_
            refine lnp F16 rfl HCC rfl (by omega) (want_not F16 rfl (e := 60) rfl (by omega) (show _ = undef from by simp [upd, e0, e1, e9, e10])) fun F17 => ?_
            refine lnp F17 rfl HCC rfl (by omega) (want_not F17 rfl (e := 60) rfl (by omega) (show _ = undef from by simp [upd, e0, e1, e9, e10])) fun F18 => ?_
            refine lnp F18 rfl HCC rfl (by omega) (want_not F18 rfl (e := 60) rfl (by omega) (show _ = undef from by simp [upd, e0, e1, e9, e10])) fun F19 => ?_
            refine lnp F19 rfl HCC rfl (by omega) (want_not F19 rfl (e := 60) rfl (by omega) (show _ = undef from by simp [upd, e0, e1, e9, e10])) fun F20 => ?_
            refine lnp F20 rfl HCC rfl (by omega) (want_not F20 rfl (e := 60) rfl (by omega) (show _ = undef from by simp [upd, e0, e1, e9, e10])) fun F21 => ?_
            refine lnp F21 rfl HCC rfl (by omega) (want_not F21 rfl (e := 60) rfl (by omega) (show _ = undef from by simp [upd, e0, e1, e9, e10])) fun F22 => ?_
            refine lnp F22 rfl HCC rfl (by omega) (want_not F22 rfl (e := 60) rfl (by omega) (show _ = undef from by simp [upd, e0, e1, e9, e10])) fun F23 => ?_
            refine lnp F23 rfl HCC rfl (by omega) (want_no F23 rfl (e := 57) rfl (by omega) (show _ = Value.bool false from by simp [upd, e0, e1, e9, e10]) (by decide)) fun F24 => ?_
            refine lyp F24 rfl HCC rfl (by omega) (wanted_none rfl) (v := Value.bool false) (fun wr hwr => by simp only [execOp, (F24.eval 57 (by omega)).trans (show _ = Value.bool false from by simp [upd, e0, e1, e9, e10])]; simp [go_sem, Act.eval]) fun F25 => ?_
            refine ⟨fun _ => HCC, ?_⟩
            refine hK _ _ ?_
            clear F0 F1 F2 F3 F4 F5 F6 F7 F8 F9 F10 F11 F12 F13 F14 F15 F16 F17 F18 F19 F20 F21 F22 F23 F24 F25 e0 e1 e9 e10 HCC
            simp only [Act.put, List.setIfInBounds_toArray, List.set_cons_succ, List.set_cons_zero]
            generalize hY : (({ wr with drawn := wr.drawn + 1 } : World)) = Y
            have hY2 : Y = w1.drewN (q2 + 1) := by rw [← hY, HWQ.out]; rfl
            have HY : Hid _ := hY2
            clear hY hY2 HWQ cj cp
            go_wp2
            go_roundw
            case rel => exact ⟨j + 1, q2 + 1, by omega, by go_num, HY.out⟩
            case measure => simp [intOf]; omega
      · subst hwq
        have hg := HGR.out
        by_cases h1 : h ≤ 0
        · obtain rfl : gv = 0 := by omega
          clear hg HGR
          go_wp2_with (go_at_call 11; refine (HG.out _).mono ?_; rintro e w4 ⟨rfl, rfl⟩)
          go_ret
          exact ⟨rfl, below_drewN HB1.out _⟩
        · by_cases h2 : x ≤ 0
          · obtain rfl : gv = 0 := by omega
            clear hg HGR
            go_wp2_with (go_at_call 11; refine (HG.out _).mono ?_; rintro e w4 ⟨rfl, rfl⟩)
            go_ret
            exact ⟨rfl, below_drewN HB1.out _⟩
          · have g1 : 1 ≤ gv ∧ gv ≤ x ∧ gv ≤ h ∧ gv - 1 ≤ h - gv := by omega
            obtain ⟨g1, g2, g3, g4⟩ := g1
            by_cases h3 : gv = x
            · subst h3
              clear hg HGR
              go_wp2_with (go_at_call 11; refine (HG.out _).mono ?_; rintro e w4 ⟨rfl, rfl⟩)
              go_ret
              exact ⟨rfl, below_drewN HB1.out _⟩
            · have h4 : h - gv ≤ gv := by omega
              have h3b : (gv == x) = false := by simpa using h3
              clear hg HGR
              go_wp2_with (go_at_call 11; refine (HG.out _).mono ?_; rintro e w4 ⟨rfl, rfl⟩)
              go_ret
              exact ⟨rfl, below_drewN HB1.out _⟩
end Go.Proofs.Ytoemddibojpkpaa
