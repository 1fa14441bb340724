import Derived.Test.YtgjibihhchojoaaR1
namespace Go.Proofs.Ytgjibihhchojoaa
open Go.RowKit Go.PlainAid
set_option linter.unusedVariables false
set_option linter.unusedSimpArgs false
set_option maxRecDepth 100000 in
set_option maxHeartbeats 1600000 in
theorem rlearn_any {B rb : Nat} {kl wl : Value} {me rep per : Int} {KL : List (List UInt8)} {WL : List ((Int × Int) × OpA)} (n : List UInt8) (w : World) (hT : RT B rb kl wl me rep per KL WL w) (hL : KL.length ≤ 100000) (hnl : ∀ x ∈ KL, x.length ≤ 140737488355328) (hl : n.length ≤ 140737488355328) (hrep : -9223372036854775808 ≤ rep ∧ rep ≤ 9223372036854775807) :
    Calls Try.prog 55 #[.pointer (some ⟨rb, 0, none⟩), .string ⟨n.toArray⟩] w fun q w' => q = .returned (.bool (rlb me rep per KL n)) ∧ RPost B rb kl wl me rep per (rln me rep per KL n) WL w w' := by
  have HG : Hid (∀ w, _) := fun w => rgood_any n w (by omega)
  have HHO : Hid (∀ w, _) := fun w => rhome_any n rep w (by omega) hrep
  have HK : Hid _ := rknows_any n w hT hL
  have HOF : Hid (∀ w' : World, RT B rb kl wl me rep per KL WL w' → _) := fun w' h => of_any (homeN n rep) w' h hL hnl hrep
  have HT : Hid _ := hT
  have c1 := hT.c1
  unfold rln
  obtain ⟨kn, hkn⟩ : ∃ kn, kn = decide (n ∈ KL) := ⟨_, rfl⟩
  rw [← hkn] at HK
  by_cases g1 : nameB n = false
  · have hc : rlb me rep per KL n = false := by unfold rlb; rw [g1]; rfl
    rw [hc, if_neg (by decide)]
    clear hc hT hL hnl hrep hkn
    go_enter Try.func55, Try.ntmps55
    go_wp2_with fail
    refine Calls.mono (HG.out _) ?_
    rintro e w' ⟨rfl, hw'⟩
    replace hw' := hw'.symm
    subst hw'
    go_wp2_with fail
    refine Calls.mono HK.out ?_
    rintro e w' ⟨rfl, hw'⟩
    replace hw' := hw'.symm
    subst hw'
    go_wp2_with fail
    refine Calls.mono (HHO.out _) ?_
    rintro e w2 ⟨rfl, hb2⟩
    have HT2 : Hid _ := HT.out.more hb2
    have HB2 : Hid _ := hb2
    clear hb2 c1
    try rw [g1]
    go_wp2_with fail
    rename_i K hK
    try rw [show ∀ a : Act, a.put none undef = a from fun _ => rfl]
    refine wp_region_mix (fun wq => Below w2.heap.size w2 wq) (fun i => i == 99) 99 (by kernel_rfl) rfl (by kernel_rfl) (by kernel_rfl) (by kernel_rfl) ?_
    refine withFrP (N := 52) rfl ?_
    intro f0 F0 hff
    have e0 : f0 0 = Value.pointer (some ⟨rb, 0, none⟩) := hff 0
    have e1 : f0 1 = Value.string ⟨n.toArray⟩ := hff 1
    have e5 : f0 5 = Value.bool false := hff 5
    have e6 : f0 6 = Value.bool kn := hff 6
    have e7 : f0 7 = Value.int .i64 (homeN n rep) := hff 7
    clear hff
    have HCC : (fun wq => Below w2.heap.size w2 wq) (({ w2 with drawn := w2.drawn + 1 } : World)) := (Below.drew (Below.refl w2.heap.size w2))
    have V0 : ∀ wr, Below w2.heap.size w2 wr → wr.cell? ⟨rb, 0, none⟩ = some (.int .i64 me) := fun wr hw => (hw.cell (p := ⟨rb, 0, none⟩) (World.block_lt_of_cell? w2 _ HT2.out.c0)).trans HT2.out.c0
    have V2 : ∀ wr, Below w2.heap.size w2 wr → wr.cell? ⟨rb, 2, none⟩ = some (.int .i64 per) := fun wr hw => (hw.cell (p := ⟨rb, 2, none⟩) (World.block_lt_of_cell? w2 _ HT2.out.c2)).trans HT2.out.c2
    refine lyp F0 rfl HCC rfl (by omega) (wanted_none rfl) (v := Value.bool false) (fun wr hwr => by simp only [execOp, (F0.eval 5 (by omega)).trans (show _ = Value.bool false from by simp [upd, e0, e1, e5, e6, e7])]; first | rfl | simp [go_sem]) fun F1 => ?_
    refine lyp F1 rfl HCC rfl (by omega) (wanted_none rfl) (v := Value.bool true) (fun wr hwr => by simp only [execOp, (F1.eval 19 (by omega)).trans (show _ = Value.bool false from by simp [upd, e0, e1, e5, e6, e7])]; simp [go_sem, Act.eval]) fun F2 => ?_
    refine lyp F2 rfl HCC rfl (by omega) (wanted_none rfl) (v := Value.bool true) (fun wr hwr => by simp only [execOp, (F2.eval 20 (by omega)).trans (show _ = Value.bool true from by simp [upd, e0, e1, e5, e6, e7])]; first | rfl | simp [go_sem]) fun F3 => ?_
    refine lnp F3 rfl HCC rfl (by omega) (want_no F3 rfl (e := 21) rfl (by omega) (show _ = Value.bool true from by simp [upd, e0, e1, e5, e6, e7]) (by decide)) fun F4 => ?_
    refine lyp F4 rfl HCC rfl (by omega) (wanted_none rfl) (v := Value.bool true) (fun wr hwr => by simp only [execOp, (F4.eval 21 (by omega)).trans (show _ = Value.bool true from by simp [upd, e0, e1, e5, e6, e7])]; simp [go_sem, Act.eval]) fun F5 => ?_
    refine lyp F5 rfl HCC rfl (by omega) (wanted_none rfl) (v := Value.bool true) (fun wr hwr => by simp only [execOp, (F5.eval 23 (by omega)).trans (show _ = Value.bool true from by simp [upd, e0, e1, e5, e6, e7])]; first | rfl | simp [go_sem]) fun F6 => ?_
    refine lnp F6 rfl HCC rfl (by omega) (want_no F6 rfl (e := 24) rfl (by omega) (show _ = Value.bool true from by simp [upd, e0, e1, e5, e6, e7]) (by decide)) fun F7 => ?_
    refine lnp F7 rfl HCC rfl (by omega) (want_no F7 rfl (e := 24) rfl (by omega) (show _ = Value.bool true from by simp [upd, e0, e1, e5, e6, e7]) (by decide)) fun F8 => ?_
    refine lnp F8 rfl HCC rfl (by omega) (want_no F8 rfl (e := 24) rfl (by omega) (show _ = Value.bool true from by simp [upd, e0, e1, e5, e6, e7]) (by decide)) fun F9 => ?_
    refine lnp F9 rfl HCC rfl (by omega) (want_no F9 rfl (e := 24) rfl (by omega) (show _ = Value.bool true from by simp [upd, e0, e1, e5, e6, e7]) (by decide)) fun F10 => ?_
    refine lnp F10 rfl HCC rfl (by omega) (want_no F10 rfl (e := 24) rfl (by omega) (show _ = Value.bool true from by simp [upd, e0, e1, e5, e6, e7]) (by decide)) fun F11 => ?_
    refine lnp F11 rfl HCC rfl (by omega) (want_no F11 rfl (e := 24) rfl (by omega) (show _ = Value.bool true from by simp [upd, e0, e1, e5, e6, e7]) (by decide)) fun F12 => ?_
    refine lyp F12 rfl HCC rfl (by omega) (wanted_none rfl) (v := Value.bool true) (fun wr hwr => by simp only [execOp, (F12.eval 24 (by omega)).trans (show _ = Value.bool true from by simp [upd, e0, e1, e5, e6, e7])]; simp [go_sem, Act.eval]) fun F13 => ?_
    refine lyp F13 rfl HCC rfl (by omega) (wanted_none rfl) (v := Value.bool true) (fun wr hwr => by simp only [execOp, (F13.eval 31 (by omega)).trans (show _ = Value.bool true from by simp [upd, e0, e1, e5, e6, e7])]; first | rfl | simp [go_sem]) fun F14 => ?_
    refine lnp F14 rfl HCC rfl (by omega) (want_no F14 rfl (e := 32) rfl (by omega) (show _ = Value.bool true from by simp [upd, e0, e1, e5, e6, e7]) (by decide)) fun F15 => ?_
    refine lnp F15 rfl HCC rfl (by omega) (want_no F15 rfl (e := 32) rfl (by omega) (show _ = Value.bool true from by simp [upd, e0, e1, e5, e6, e7]) (by decide)) fun F16 => ?_
    refine lnp F16 rfl HCC rfl (by omega) (want_no F16 rfl (e := 32) rfl (by omega) (show _ = Value.bool true from by simp [upd, e0, e1, e5, e6, e7]) (by decide)) fun F17 => ?_
    refine lnp F17 rfl HCC rfl (by omega) (want_no F17 rfl (e := 32) rfl (by omega) (show _ = Value.bool true from by simp [upd, e0, e1, e5, e6, e7]) (by decide)) fun F18 => ?_
    refine lnp F18 rfl HCC rfl (by omega) (want_no F18 rfl (e := 32) rfl (by omega) (show _ = Value.bool true from by simp [upd, e0, e1, e5, e6, e7]) (by decide)) fun F19 => ?_
    refine lnp F19 rfl HCC rfl (by omega) (want_no F19 rfl (e := 32) rfl (by omega) (show _ = Value.bool true from by simp [upd, e0, e1, e5, e6, e7]) (by decide)) fun F20 => ?_
    refine lnp F20 rfl HCC rfl (by omega) (want_no F20 rfl (e := 32) rfl (by omega) (show _ = Value.bool true from by simp [upd, e0, e1, e5, e6, e7]) (by decide)) fun F21 => ?_
    refine lnp F21 rfl HCC rfl (by omega) (want_no F21 rfl (e := 32) rfl (by omega) (show _ = Value.bool true from by simp [upd, e0, e1, e5, e6, e7]) (by decide)) fun F22 => ?_
    refine lyp F22 rfl HCC rfl (by omega) (wanted_none rfl) (v := Value.bool true) (fun wr hwr => by simp only [execOp, (F22.eval 32 (by omega)).trans (show _ = Value.bool true from by simp [upd, e0, e1, e5, e6, e7])]; simp [go_sem, Act.eval]) fun F23 => ?_
    refine ⟨fun _ => HCC, ?_⟩
    refine hK _ _ ?_
    clear F0 F1 F2 F3 F4 F5 F6 F7 F8 F9 F10 F11 F12 F13 F14 F15 F16 F17 F18 F19 F20 F21 F22 F23 e0 e1 e5 e6 e7 V0 V2
    simp only [Act.put, List.setIfInBounds_toArray, List.set_cons_succ, List.set_cons_zero]

    have HB3 : Hid (Below w.heap.size w ({ w2 with drawn := w2.drawn + 1 } : World)) := HB2.out.trans (HCC.mono HB2.out.size)
    clear HCC
    go_wp2_with fail
    go_ret
    exact ⟨rfl, RPost.same HT.out HB3.out⟩
  have g1t : nameB n = true := by simpa using g1
  by_cases g3 : n ∈ KL
  · have hc : rlb me rep per KL n = false := by unfold rlb; simp [g3]
    rw [hc, if_neg (by decide)]
    have hk1 : kn = true := by rw [hkn]; simpa using g3
    subst hk1
    clear hc hT hL hnl hrep g1 g3 hkn
    go_enter Try.func55, Try.ntmps55
    go_wp2_with fail
    refine Calls.mono (HG.out _) ?_
    rintro e w' ⟨rfl, hw'⟩
    replace hw' := hw'.symm
    subst hw'
    go_wp2_with fail
    refine Calls.mono HK.out ?_
    rintro e w' ⟨rfl, hw'⟩
    replace hw' := hw'.symm
    subst hw'
    go_wp2_with fail
    refine Calls.mono (HHO.out _) ?_
    rintro e w2 ⟨rfl, hb2⟩
    have HT2 : Hid _ := HT.out.more hb2
    have HB2 : Hid _ := hb2
    clear hb2 c1
    try rw [g1t]
    go_wp2_with fail
    rename_i K hK
    try rw [show ∀ a : Act, a.put none undef = a from fun _ => rfl]
    refine wp_region_mix (fun wq => Below w2.heap.size w2 wq) (fun i => i == 99) 99 (by kernel_rfl) rfl (by kernel_rfl) (by kernel_rfl) (by kernel_rfl) ?_
    refine withFrP (N := 52) rfl ?_
    intro f0 F0 hff
    have e0 : f0 0 = Value.pointer (some ⟨rb, 0, none⟩) := hff 0
    have e1 : f0 1 = Value.string ⟨n.toArray⟩ := hff 1
    have e5 : f0 5 = Value.bool true := hff 5
    have e6 : f0 6 = Value.bool true := hff 6
    have e7 : f0 7 = Value.int .i64 (homeN n rep) := hff 7
    clear hff
    have HCC : (fun wq => Below w2.heap.size w2 wq) (({ w2 with drawn := w2.drawn + 1 } : World)) := (Below.drew (Below.refl w2.heap.size w2))
    have V0 : ∀ wr, Below w2.heap.size w2 wr → wr.cell? ⟨rb, 0, none⟩ = some (.int .i64 me) := fun wr hw => (hw.cell (p := ⟨rb, 0, none⟩) (World.block_lt_of_cell? w2 _ HT2.out.c0)).trans HT2.out.c0
    have V2 : ∀ wr, Below w2.heap.size w2 wr → wr.cell? ⟨rb, 2, none⟩ = some (.int .i64 per) := fun wr hw => (hw.cell (p := ⟨rb, 2, none⟩) (World.block_lt_of_cell? w2 _ HT2.out.c2)).trans HT2.out.c2
    refine lyp F0 rfl HCC rfl (by omega) (wanted_none rfl) (v := Value.bool true) (fun wr hwr => by simp only [execOp, (F0.eval 5 (by omega)).trans (show _ = Value.bool true from by simp [upd, e0, e1, e5, e6, e7])]; first | rfl | simp [go_sem]) fun F1 => ?_
    refine lyp F1 rfl HCC rfl (by omega) (wanted_none rfl) (v := Value.bool false) (fun wr hwr => by simp only [execOp, (F1.eval 19 (by omega)).trans (show _ = Value.bool true from by simp [upd, e0, e1, e5, e6, e7])]; simp [go_sem, Act.eval]) fun F2 => ?_
    refine lyp F2 rfl HCC rfl (by omega) (wanted_none rfl) (v := Value.bool false) (fun wr hwr => by simp only [execOp, (F2.eval 20 (by omega)).trans (show _ = Value.bool false from by simp [upd, e0, e1, e5, e6, e7])]; first | rfl | simp [go_sem]) fun F3 => ?_
    refine lyp F3 rfl HCC rfl (by omega) (want_yes F3 rfl (e := 21) rfl (by omega) (show _ = Value.bool false from by simp [upd, e0, e1, e5, e6, e7])) (v := Value.bool true) (fun wr hwr => by simp only [execOp, (F3.eval 6 (by omega)).trans (show _ = Value.bool true from by simp [upd, e0, e1, e5, e6, e7])]; first | rfl | simp [go_sem]) fun F4 => ?_
    refine lyp F4 rfl HCC rfl (by omega) (wanted_none rfl) (v := Value.bool true) (fun wr hwr => by simp only [execOp, (F4.eval 21 (by omega)).trans (show _ = Value.bool false from by simp [upd, e0, e1, e5, e6, e7]), (F4.eval 22 (by omega)).trans (show _ = Value.bool true from by simp [upd, e0, e1, e5, e6, e7])]; simp [go_sem, Act.eval]) fun F5 => ?_
    refine lyp F5 rfl HCC rfl (by omega) (wanted_none rfl) (v := Value.bool true) (fun wr hwr => by simp only [execOp, (F5.eval 23 (by omega)).trans (show _ = Value.bool true from by simp [upd, e0, e1, e5, e6, e7])]; first | rfl | simp [go_sem]) fun F6 => ?_
    refine lnp F6 rfl HCC rfl (by omega) (want_no F6 rfl (e := 24) rfl (by omega) (show _ = Value.bool true from by simp [upd, e0, e1, e5, e6, e7]) (by decide)) fun F7 => ?_
    refine lnp F7 rfl HCC rfl (by omega) (want_no F7 rfl (e := 24) rfl (by omega) (show _ = Value.bool true from by simp [upd, e0, e1, e5, e6, e7]) (by decide)) fun F8 => ?_
    refine lnp F8 rfl HCC rfl (by omega) (want_no F8 rfl (e := 24) rfl (by omega) (show _ = Value.bool true from by simp [upd, e0, e1, e5, e6, e7]) (by decide)) fun F9 => ?_
    refine lnp F9 rfl HCC rfl (by omega) (want_no F9 rfl (e := 24) rfl (by omega) (show _ = Value.bool true from by simp [upd, e0, e1, e5, e6, e7]) (by decide)) fun F10 => ?_
    refine lnp F10 rfl HCC rfl (by omega) (want_no F10 rfl (e := 24) rfl (by omega) (show _ = Value.bool true from by simp [upd, e0, e1, e5, e6, e7]) (by decide)) fun F11 => ?_
    refine lnp F11 rfl HCC rfl (by omega) (want_no F11 rfl (e := 24) rfl (by omega) (show _ = Value.bool true from by simp [upd, e0, e1, e5, e6, e7]) (by decide)) fun F12 => ?_
    refine lyp F12 rfl HCC rfl (by omega) (wanted_none rfl) (v := Value.bool true) (fun wr hwr => by simp only [execOp, (F12.eval 24 (by omega)).trans (show _ = Value.bool true from by simp [upd, e0, e1, e5, e6, e7])]; simp [go_sem, Act.eval]) fun F13 => ?_
    refine lyp F13 rfl HCC rfl (by omega) (wanted_none rfl) (v := Value.bool true) (fun wr hwr => by simp only [execOp, (F13.eval 31 (by omega)).trans (show _ = Value.bool true from by simp [upd, e0, e1, e5, e6, e7])]; first | rfl | simp [go_sem]) fun F14 => ?_
    refine lnp F14 rfl HCC rfl (by omega) (want_no F14 rfl (e := 32) rfl (by omega) (show _ = Value.bool true from by simp [upd, e0, e1, e5, e6, e7]) (by decide)) fun F15 => ?_
    refine lnp F15 rfl HCC rfl (by omega) (want_no F15 rfl (e := 32) rfl (by omega) (show _ = Value.bool true from by simp [upd, e0, e1, e5, e6, e7]) (by decide)) fun F16 => ?_
    refine lnp F16 rfl HCC rfl (by omega) (want_no F16 rfl (e := 32) rfl (by omega) (show _ = Value.bool true from by simp [upd, e0, e1, e5, e6, e7]) (by decide)) fun F17 => ?_
    refine lnp F17 rfl HCC rfl (by omega) (want_no F17 rfl (e := 32) rfl (by omega) (show _ = Value.bool true from by simp [upd, e0, e1, e5, e6, e7]) (by decide)) fun F18 => ?_
    refine lnp F18 rfl HCC rfl (by omega) (want_no F18 rfl (e := 32) rfl (by omega) (show _ = Value.bool true from by simp [upd, e0, e1, e5, e6, e7]) (by decide)) fun F19 => ?_
    refine lnp F19 rfl HCC rfl (by omega) (want_no F19 rfl (e := 32) rfl (by omega) (show _ = Value.bool true from by simp [upd, e0, e1, e5, e6, e7]) (by decide)) fun F20 => ?_
    refine lnp F20 rfl HCC rfl (by omega) (want_no F20 rfl (e := 32) rfl (by omega) (show _ = Value.bool true from by simp [upd, e0, e1, e5, e6, e7]) (by decide)) fun F21 => ?_
    refine lnp F21 rfl HCC rfl (by omega) (want_no F21 rfl (e := 32) rfl (by omega) (show _ = Value.bool true from by simp [upd, e0, e1, e5, e6, e7]) (by decide)) fun F22 => ?_
    refine lyp F22 rfl HCC rfl (by omega) (wanted_none rfl) (v := Value.bool true) (fun wr hwr => by simp only [execOp, (F22.eval 32 (by omega)).trans (show _ = Value.bool true from by simp [upd, e0, e1, e5, e6, e7])]; simp [go_sem, Act.eval]) fun F23 => ?_
    refine ⟨fun _ => HCC, ?_⟩
    refine hK _ _ ?_
    clear F0 F1 F2 F3 F4 F5 F6 F7 F8 F9 F10 F11 F12 F13 F14 F15 F16 F17 F18 F19 F20 F21 F22 F23 e0 e1 e5 e6 e7 V0 V2
    simp only [Act.put, List.setIfInBounds_toArray, List.set_cons_succ, List.set_cons_zero]

    have HB3 : Hid (Below w.heap.size w ({ w2 with drawn := w2.drawn + 1 } : World)) := HB2.out.trans (HCC.mono HB2.out.size)
    clear HCC
    go_wp2_with fail
    go_ret
    exact ⟨rfl, RPost.same HT.out HB3.out⟩
  have hk1 : kn = false := by rw [hkn]; simpa using g3
  subst hk1
  by_cases g2 : homeN n rep = me
  · have hc : rlb me rep per KL n = false := by unfold rlb; simp [g2]
    rw [hc, if_neg (by decide)]
    have HP : Hid (homeN n rep = me) := g2
    clear hc hT hL hnl hrep g1 g2 g3 hkn
    go_enter Try.func55, Try.ntmps55
    go_wp2_with fail
    refine Calls.mono (HG.out _) ?_
    rintro e w' ⟨rfl, hw'⟩
    replace hw' := hw'.symm
    subst hw'
    go_wp2_with fail
    refine Calls.mono HK.out ?_
    rintro e w' ⟨rfl, hw'⟩
    replace hw' := hw'.symm
    subst hw'
    go_wp2_with fail
    refine Calls.mono (HHO.out _) ?_
    rintro e w2 ⟨rfl, hb2⟩
    have HT2 : Hid _ := HT.out.more hb2
    have HB2 : Hid _ := hb2
    clear hb2 c1
    try rw [g1t]
    go_wp2_with fail
    rename_i K hK
    try rw [show ∀ a : Act, a.put none undef = a from fun _ => rfl]
    refine wp_region_mix (fun wq => Below w2.heap.size w2 wq) (fun i => i == 99) 99 (by kernel_rfl) rfl (by kernel_rfl) (by kernel_rfl) (by kernel_rfl) ?_
    refine withFrP (N := 52) rfl ?_
    intro f0 F0 hff
    have e0 : f0 0 = Value.pointer (some ⟨rb, 0, none⟩) := hff 0
    have e1 : f0 1 = Value.string ⟨n.toArray⟩ := hff 1
    have e5 : f0 5 = Value.bool true := hff 5
    have e6 : f0 6 = Value.bool false := hff 6
    have e7 : f0 7 = Value.int .i64 (homeN n rep) := hff 7
    clear hff
    have HCC : (fun wq => Below w2.heap.size w2 wq) (({ w2 with drawn := w2.drawn + 1 } : World)) := (Below.drew (Below.refl w2.heap.size w2))
    have V0 : ∀ wr, Below w2.heap.size w2 wr → wr.cell? ⟨rb, 0, none⟩ = some (.int .i64 me) := fun wr hw => (hw.cell (p := ⟨rb, 0, none⟩) (World.block_lt_of_cell? w2 _ HT2.out.c0)).trans HT2.out.c0
    have V2 : ∀ wr, Below w2.heap.size w2 wr → wr.cell? ⟨rb, 2, none⟩ = some (.int .i64 per) := fun wr hw => (hw.cell (p := ⟨rb, 2, none⟩) (World.block_lt_of_cell? w2 _ HT2.out.c2)).trans HT2.out.c2
    refine lyp F0 rfl HCC rfl (by omega) (wanted_none rfl) (v := Value.bool true) (fun wr hwr => by simp only [execOp, (F0.eval 5 (by omega)).trans (show _ = Value.bool true from by simp [upd, e0, e1, e5, e6, e7])]; first | rfl | simp [go_sem]) fun F1 => ?_
    refine lyp F1 rfl HCC rfl (by omega) (wanted_none rfl) (v := Value.bool false) (fun wr hwr => by simp only [execOp, (F1.eval 19 (by omega)).trans (show _ = Value.bool true from by simp [upd, e0, e1, e5, e6, e7])]; simp [go_sem, Act.eval]) fun F2 => ?_
    refine lyp F2 rfl HCC rfl (by omega) (wanted_none rfl) (v := Value.bool false) (fun wr hwr => by simp only [execOp, (F2.eval 20 (by omega)).trans (show _ = Value.bool false from by simp [upd, e0, e1, e5, e6, e7])]; first | rfl | simp [go_sem]) fun F3 => ?_
    refine lyp F3 rfl HCC rfl (by omega) (want_yes F3 rfl (e := 21) rfl (by omega) (show _ = Value.bool false from by simp [upd, e0, e1, e5, e6, e7])) (v := Value.bool false) (fun wr hwr => by simp only [execOp, (F3.eval 6 (by omega)).trans (show _ = Value.bool false from by simp [upd, e0, e1, e5, e6, e7])]; first | rfl | simp [go_sem]) fun F4 => ?_
    refine lyp F4 rfl HCC rfl (by omega) (wanted_none rfl) (v := Value.bool false) (fun wr hwr => by simp only [execOp, (F4.eval 21 (by omega)).trans (show _ = Value.bool false from by simp [upd, e0, e1, e5, e6, e7]), (F4.eval 22 (by omega)).trans (show _ = Value.bool false from by simp [upd, e0, e1, e5, e6, e7])]; simp [go_sem, Act.eval]) fun F5 => ?_
    refine lyp F5 rfl HCC rfl (by omega) (wanted_none rfl) (v := Value.bool false) (fun wr hwr => by simp only [execOp, (F5.eval 23 (by omega)).trans (show _ = Value.bool false from by simp [upd, e0, e1, e5, e6, e7])]; first | rfl | simp [go_sem]) fun F6 => ?_
    refine lyp F6 rfl HCC rfl (by omega) (want_yes F6 rfl (e := 24) rfl (by omega) (show _ = Value.bool false from by simp [upd, e0, e1, e5, e6, e7])) (v := Value.int .i64 (homeN n rep)) (fun wr hwr => by simp only [execOp, (F6.eval 7 (by omega)).trans (show _ = Value.int .i64 (homeN n rep) from by simp [upd, e0, e1, e5, e6, e7])]; first | rfl | simp [go_sem]) fun F7 => ?_
    refine lyp F7 rfl HCC rfl (by omega) (want_yes F7 rfl (e := 24) rfl (by omega) (show _ = Value.bool false from by simp [upd, e0, e1, e5, e6, e7])) (v := Value.pointer (some ⟨rb, 0, none⟩)) (fun wr hwr => by simp only [execOp, (F7.eval 0 (by omega)).trans (show _ = Value.pointer (some ⟨rb, 0, none⟩) from by simp [upd, e0, e1, e5, e6, e7])]; first | rfl | simp [go_sem]) fun F8 => ?_
    refine lyp F8 rfl HCC rfl (by omega) (want_yes F8 rfl (e := 24) rfl (by omega) (show _ = Value.bool false from by simp [upd, e0, e1, e5, e6, e7])) (v := Value.pointer (some ⟨rb, 0, none⟩)) (fun wr hwr => by simp only [execOp, (F8.eval 26 (by omega)).trans (show _ = Value.pointer (some ⟨rb, 0, none⟩) from by simp [upd, e0, e1, e5, e6, e7])]; simp [go_sem]) fun F9 => ?_
    refine lyp F9 rfl HCC rfl (by omega) (want_yes F9 rfl (e := 24) rfl (by omega) (show _ = Value.bool false from by simp [upd, e0, e1, e5, e6, e7])) (v := Value.pointer (some ⟨rb, 0, none⟩)) (fun wr hwr => by simp only [execOp, (F9.eval 27 (by omega)).trans (show _ = Value.pointer (some ⟨rb, 0, none⟩) from by simp [upd, e0, e1, e5, e6, e7])]; simp [go_sem]) fun F10 => ?_
    refine lyp F10 rfl HCC rfl (by omega) (want_yes F10 rfl (e := 24) rfl (by omega) (show _ = Value.bool false from by simp [upd, e0, e1, e5, e6, e7])) (v := Value.int .i64 me) (fun wr hwr => by simp only [execOp, (F10.eval 28 (by omega)).trans (show _ = Value.pointer (some ⟨rb, 0, none⟩) from by simp [upd, e0, e1, e5, e6, e7])]; simp [go_sem, V0 wr hwr]) fun F11 => ?_
    refine lyp F11 rfl HCC rfl (by omega) (want_yes F11 rfl (e := 24) rfl (by omega) (show _ = Value.bool false from by simp [upd, e0, e1, e5, e6, e7])) (v := Value.bool true) (fun wr hwr => by simp only [execOp, (F11.eval 25 (by omega)).trans (show _ = Value.int .i64 (homeN n rep) from by simp [upd, e0, e1, e5, e6, e7]), (F11.eval 29 (by omega)).trans (show _ = Value.int .i64 me from by simp [upd, e0, e1, e5, e6, e7])]; simp [go_sem, Act.eval, HP.out]) fun F12 => ?_
    refine lyp F12 rfl HCC rfl (by omega) (wanted_none rfl) (v := Value.bool true) (fun wr hwr => by simp only [execOp, (F12.eval 24 (by omega)).trans (show _ = Value.bool false from by simp [upd, e0, e1, e5, e6, e7]), (F12.eval 30 (by omega)).trans (show _ = Value.bool true from by simp [upd, e0, e1, e5, e6, e7])]; simp [go_sem, Act.eval]) fun F13 => ?_
    refine lyp F13 rfl HCC rfl (by omega) (wanted_none rfl) (v := Value.bool true) (fun wr hwr => by simp only [execOp, (F13.eval 31 (by omega)).trans (show _ = Value.bool true from by simp [upd, e0, e1, e5, e6, e7])]; first | rfl | simp [go_sem]) fun F14 => ?_
    refine lnp F14 rfl HCC rfl (by omega) (want_no F14 rfl (e := 32) rfl (by omega) (show _ = Value.bool true from by simp [upd, e0, e1, e5, e6, e7]) (by decide)) fun F15 => ?_
    refine lnp F15 rfl HCC rfl (by omega) (want_no F15 rfl (e := 32) rfl (by omega) (show _ = Value.bool true from by simp [upd, e0, e1, e5, e6, e7]) (by decide)) fun F16 => ?_
    refine lnp F16 rfl HCC rfl (by omega) (want_no F16 rfl (e := 32) rfl (by omega) (show _ = Value.bool true from by simp [upd, e0, e1, e5, e6, e7]) (by decide)) fun F17 => ?_
    refine lnp F17 rfl HCC rfl (by omega) (want_no F17 rfl (e := 32) rfl (by omega) (show _ = Value.bool true from by simp [upd, e0, e1, e5, e6, e7]) (by decide)) fun F18 => ?_
    refine lnp F18 rfl HCC rfl (by omega) (want_no F18 rfl (e := 32) rfl (by omega) (show _ = Value.bool true from by simp [upd, e0, e1, e5, e6, e7]) (by decide)) fun F19 => ?_
    refine lnp F19 rfl HCC rfl (by omega) (want_no F19 rfl (e := 32) rfl (by omega) (show _ = Value.bool true from by simp [upd, e0, e1, e5, e6, e7]) (by decide)) fun F20 => ?_
    refine lnp F20 rfl HCC rfl (by omega) (want_no F20 rfl (e := 32) rfl (by omega) (show _ = Value.bool true from by simp [upd, e0, e1, e5, e6, e7]) (by decide)) fun F21 => ?_
    refine lnp F21 rfl HCC rfl (by omega) (want_no F21 rfl (e := 32) rfl (by omega) (show _ = Value.bool true from by simp [upd, e0, e1, e5, e6, e7]) (by decide)) fun F22 => ?_
    refine lyp F22 rfl HCC rfl (by omega) (wanted_none rfl) (v := Value.bool true) (fun wr hwr => by simp only [execOp, (F22.eval 32 (by omega)).trans (show _ = Value.bool true from by simp [upd, e0, e1, e5, e6, e7])]; simp [go_sem, Act.eval]) fun F23 => ?_
    refine ⟨fun _ => HCC, ?_⟩
    refine hK _ _ ?_
    clear F0 F1 F2 F3 F4 F5 F6 F7 F8 F9 F10 F11 F12 F13 F14 F15 F16 F17 F18 F19 F20 F21 F22 F23 e0 e1 e5 e6 e7 V0 V2
    simp only [Act.put, List.setIfInBounds_toArray, List.set_cons_succ, List.set_cons_zero]

    have HB3 : Hid (Below w.heap.size w ({ w2 with drawn := w2.drawn + 1 } : World)) := HB2.out.trans (HCC.mono HB2.out.size)
    clear HCC
    go_wp2_with fail
    go_ret
    exact ⟨rfl, RPost.same HT.out HB3.out⟩
  have HP : Hid (¬ homeN n rep = me) := g2
  by_cases g4 : per ≤ (cntK rep (homeN n rep) KL : Int)
  · have hc : rlb me rep per KL n = false := by unfold rlb; simp [g4]
    rw [hc, if_neg (by decide)]
    have HQ : Hid (per ≤ (cntK rep (homeN n rep) KL : Int)) := g4
    clear hc hT hL hnl hrep g1 g2 g3 g4 hkn
    go_enter Try.func55, Try.ntmps55
    go_wp2_with fail
    refine Calls.mono (HG.out _) ?_
    rintro e w' ⟨rfl, hw'⟩
    replace hw' := hw'.symm
    subst hw'
    go_wp2_with fail
    refine Calls.mono HK.out ?_
    rintro e w' ⟨rfl, hw'⟩
    replace hw' := hw'.symm
    subst hw'
    go_wp2_with fail
    refine Calls.mono (HHO.out _) ?_
    rintro e w2 ⟨rfl, hb2⟩
    have HT2 : Hid _ := HT.out.more hb2
    have HB2 : Hid _ := hb2
    clear hb2 c1
    try rw [g1t]
    go_wp2_with fail
    rename_i K hK
    try rw [show ∀ a : Act, a.put none undef = a from fun _ => rfl]
    refine wp_region_mix (fun wq => Below w2.heap.size w2 wq) (fun i => i == 16 || i == 99) 99 (by kernel_rfl) rfl (by kernel_rfl) (by kernel_rfl) (by kernel_rfl) ?_
    refine withFrP (N := 52) rfl ?_
    intro f0 F0 hff
    have e0 : f0 0 = Value.pointer (some ⟨rb, 0, none⟩) := hff 0
    have e1 : f0 1 = Value.string ⟨n.toArray⟩ := hff 1
    have e5 : f0 5 = Value.bool true := hff 5
    have e6 : f0 6 = Value.bool false := hff 6
    have e7 : f0 7 = Value.int .i64 (homeN n rep) := hff 7
    clear hff
    have HCC : (fun wq => Below w2.heap.size w2 wq) (({ w2 with drawn := w2.drawn + 1 } : World)) := (Below.drew (Below.refl w2.heap.size w2))
    have V0 : ∀ wr, Below w2.heap.size w2 wr → wr.cell? ⟨rb, 0, none⟩ = some (.int .i64 me) := fun wr hw => (hw.cell (p := ⟨rb, 0, none⟩) (World.block_lt_of_cell? w2 _ HT2.out.c0)).trans HT2.out.c0
    have V2 : ∀ wr, Below w2.heap.size w2 wr → wr.cell? ⟨rb, 2, none⟩ = some (.int .i64 per) := fun wr hw => (hw.cell (p := ⟨rb, 2, none⟩) (World.block_lt_of_cell? w2 _ HT2.out.c2)).trans HT2.out.c2
    refine lyp F0 rfl HCC rfl (by omega) (wanted_none rfl) (v := Value.bool true) (fun wr hwr => by simp only [execOp, (F0.eval 5 (by omega)).trans (show _ = Value.bool true from by simp [upd, e0, e1, e5, e6, e7])]; first | rfl | simp [go_sem]) fun F1 => ?_
    refine lyp F1 rfl HCC rfl (by omega) (wanted_none rfl) (v := Value.bool false) (fun wr hwr => by simp only [execOp, (F1.eval 19 (by omega)).trans (show _ = Value.bool true from by simp [upd, e0, e1, e5, e6, e7])]; simp [go_sem, Act.eval]) fun F2 => ?_
    refine lyp F2 rfl HCC rfl (by omega) (wanted_none rfl) (v := Value.bool false) (fun wr hwr => by simp only [execOp, (F2.eval 20 (by omega)).trans (show _ = Value.bool false from by simp [upd, e0, e1, e5, e6, e7])]; first | rfl | simp [go_sem]) fun F3 => ?_
    refine lyp F3 rfl HCC rfl (by omega) (want_yes F3 rfl (e := 21) rfl (by omega) (show _ = Value.bool false from by simp [upd, e0, e1, e5, e6, e7])) (v := Value.bool false) (fun wr hwr => by simp only [execOp, (F3.eval 6 (by omega)).trans (show _ = Value.bool false from by simp [upd, e0, e1, e5, e6, e7])]; first | rfl | simp [go_sem]) fun F4 => ?_
    refine lyp F4 rfl HCC rfl (by omega) (wanted_none rfl) (v := Value.bool false) (fun wr hwr => by simp only [execOp, (F4.eval 21 (by omega)).trans (show _ = Value.bool false from by simp [upd, e0, e1, e5, e6, e7]), (F4.eval 22 (by omega)).trans (show _ = Value.bool false from by simp [upd, e0, e1, e5, e6, e7])]; simp [go_sem, Act.eval]) fun F5 => ?_
    refine lyp F5 rfl HCC rfl (by omega) (wanted_none rfl) (v := Value.bool false) (fun wr hwr => by simp only [execOp, (F5.eval 23 (by omega)).trans (show _ = Value.bool false from by simp [upd, e0, e1, e5, e6, e7])]; first | rfl | simp [go_sem]) fun F6 => ?_
    refine lyp F6 rfl HCC rfl (by omega) (want_yes F6 rfl (e := 24) rfl (by omega) (show _ = Value.bool false from by simp [upd, e0, e1, e5, e6, e7])) (v := Value.int .i64 (homeN n rep)) (fun wr hwr => by simp only [execOp, (F6.eval 7 (by omega)).trans (show _ = Value.int .i64 (homeN n rep) from by simp [upd, e0, e1, e5, e6, e7])]; first | rfl | simp [go_sem]) fun F7 => ?_
    refine lyp F7 rfl HCC rfl (by omega) (want_yes F7 rfl (e := 24) rfl (by omega) (show _ = Value.bool false from by simp [upd, e0, e1, e5, e6, e7])) (v := Value.pointer (some ⟨rb, 0, none⟩)) (fun wr hwr => by simp only [execOp, (F7.eval 0 (by omega)).trans (show _ = Value.pointer (some ⟨rb, 0, none⟩) from by simp [upd, e0, e1, e5, e6, e7])]; first | rfl | simp [go_sem]) fun F8 => ?_
    refine lyp F8 rfl HCC rfl (by omega) (want_yes F8 rfl (e := 24) rfl (by omega) (show _ = Value.bool false from by simp [upd, e0, e1, e5, e6, e7])) (v := Value.pointer (some ⟨rb, 0, none⟩)) (fun wr hwr => by simp only [execOp, (F8.eval 26 (by omega)).trans (show _ = Value.pointer (some ⟨rb, 0, none⟩) from by simp [upd, e0, e1, e5, e6, e7])]; simp [go_sem]) fun F9 => ?_
    refine lyp F9 rfl HCC rfl (by omega) (want_yes F9 rfl (e := 24) rfl (by omega) (show _ = Value.bool false from by simp [upd, e0, e1, e5, e6, e7])) (v := Value.pointer (some ⟨rb, 0, none⟩)) (fun wr hwr => by simp only [execOp, (F9.eval 27 (by omega)).trans (show _ = Value.pointer (some ⟨rb, 0, none⟩) from by simp [upd, e0, e1, e5, e6, e7])]; simp [go_sem]) fun F10 => ?_
    refine lyp F10 rfl HCC rfl (by omega) (want_yes F10 rfl (e := 24) rfl (by omega) (show _ = Value.bool false from by simp [upd, e0, e1, e5, e6, e7])) (v := Value.int .i64 me) (fun wr hwr => by simp only [execOp, (F10.eval 28 (by omega)).trans (show _ = Value.pointer (some ⟨rb, 0, none⟩) from by simp [upd, e0, e1, e5, e6, e7])]; simp [go_sem, V0 wr hwr]) fun F11 => ?_
    refine lyp F11 rfl HCC rfl (by omega) (want_yes F11 rfl (e := 24) rfl (by omega) (show _ = Value.bool false from by simp [upd, e0, e1, e5, e6, e7])) (v := Value.bool false) (fun wr hwr => by simp only [execOp, (F11.eval 25 (by omega)).trans (show _ = Value.int .i64 (homeN n rep) from by simp [upd, e0, e1, e5, e6, e7]), (F11.eval 29 (by omega)).trans (show _ = Value.int .i64 me from by simp [upd, e0, e1, e5, e6, e7])]; simp [go_sem, Act.eval, HP.out]) fun F12 => ?_
    refine lyp F12 rfl HCC rfl (by omega) (wanted_none rfl) (v := Value.bool false) (fun wr hwr => by simp only [execOp, (F12.eval 24 (by omega)).trans (show _ = Value.bool false from by simp [upd, e0, e1, e5, e6, e7]), (F12.eval 30 (by omega)).trans (show _ = Value.bool false from by simp [upd, e0, e1, e5, e6, e7])]; simp [go_sem, Act.eval]) fun F13 => ?_
    refine lyp F13 rfl HCC rfl (by omega) (wanted_none rfl) (v := Value.bool false) (fun wr hwr => by simp only [execOp, (F13.eval 31 (by omega)).trans (show _ = Value.bool false from by simp [upd, e0, e1, e5, e6, e7])]; first | rfl | simp [go_sem]) fun F14 => ?_
    refine lyp F14 rfl HCC rfl (by omega) (want_yes F14 rfl (e := 32) rfl (by omega) (show _ = Value.bool false from by simp [upd, e0, e1, e5, e6, e7])) (v := Value.pointer (some ⟨rb, 0, none⟩)) (fun wr hwr => by simp only [execOp, (F14.eval 0 (by omega)).trans (show _ = Value.pointer (some ⟨rb, 0, none⟩) from by simp [upd, e0, e1, e5, e6, e7])]; first | rfl | simp [go_sem]) fun F15 => ?_
    refine lyp F15 rfl HCC rfl (by omega) (want_yes F15 rfl (e := 32) rfl (by omega) (show _ = Value.bool false from by simp [upd, e0, e1, e5, e6, e7])) (v := Value.int .i64 (homeN n rep)) (fun wr hwr => by simp only [execOp, (F15.eval 7 (by omega)).trans (show _ = Value.int .i64 (homeN n rep) from by simp [upd, e0, e1, e5, e6, e7])]; first | rfl | simp [go_sem]) fun F16 => ?_
    refine lcp F16 rfl HCC rfl (by omega) (want_yes F16 rfl (e := 32) rfl (by omega) (show _ = Value.bool false from by simp [upd, e0, e1, e5, e6, e7])) (g := 66) (args := #[Value.pointer (some ⟨rb, 0, none⟩), Value.int .i64 (homeN n rep)]) (by simp only [execOp, resolve, invoke, List.map_toArray, List.map_cons, List.map_nil, (F16.eval 33 (by omega)).trans (show _ = Value.pointer (some ⟨rb, 0, none⟩) from by simp [upd, e0, e1, e5, e6, e7]), (F16.eval 34 (by omega)).trans (show _ = Value.int .i64 (homeN n rep) from by simp [upd, e0, e1, e5, e6, e7])]; simp [go_sem, Act.eval]) (HOF.out (({ w2 with drawn := w2.drawn + 1 } : World)) (HT2.out.more HCC)) ?_
    rintro e w3 ⟨rfl, hb3⟩
    refine ⟨_, rfl, fun F17 => ?_⟩
    have HC3 : (fun wq => Below w2.heap.size w2 wq) w3 := (Below.drew (Below.refl w2.heap.size w2)).trans hb3
    refine lyp F17 rfl HC3 rfl (by omega) (want_yes F17 rfl (e := 32) rfl (by omega) (show _ = Value.bool false from by simp [upd, e0, e1, e5, e6, e7])) (v := Value.pointer (some ⟨rb, 0, none⟩)) (fun wr hwr => by simp only [execOp, (F17.eval 0 (by omega)).trans (show _ = Value.pointer (some ⟨rb, 0, none⟩) from by simp [upd, e0, e1, e5, e6, e7])]; first | rfl | simp [go_sem]) fun F18 => ?_
    refine lyp F18 rfl HC3 rfl (by omega) (want_yes F18 rfl (e := 32) rfl (by omega) (show _ = Value.bool false from by simp [upd, e0, e1, e5, e6, e7])) (v := Value.pointer (some ⟨rb, 0, none⟩)) (fun wr hwr => by simp only [execOp, (F18.eval 36 (by omega)).trans (show _ = Value.pointer (some ⟨rb, 0, none⟩) from by simp [upd, e0, e1, e5, e6, e7])]; simp [go_sem]) fun F19 => ?_
    refine lyp F19 rfl HC3 rfl (by omega) (want_yes F19 rfl (e := 32) rfl (by omega) (show _ = Value.bool false from by simp [upd, e0, e1, e5, e6, e7])) (v := Value.pointer (some ⟨rb, 2, none⟩)) (fun wr hwr => by simp only [execOp, (F19.eval 37 (by omega)).trans (show _ = Value.pointer (some ⟨rb, 0, none⟩) from by simp [upd, e0, e1, e5, e6, e7])]; simp [go_sem]) fun F20 => ?_
    refine lyp F20 rfl HC3 rfl (by omega) (want_yes F20 rfl (e := 32) rfl (by omega) (show _ = Value.bool false from by simp [upd, e0, e1, e5, e6, e7])) (v := Value.int .i64 per) (fun wr hwr => by simp only [execOp, (F20.eval 38 (by omega)).trans (show _ = Value.pointer (some ⟨rb, 2, none⟩) from by simp [upd, e0, e1, e5, e6, e7])]; simp [go_sem, V2 wr hwr]) fun F21 => ?_
    refine lyp F21 rfl HC3 rfl (by omega) (want_yes F21 rfl (e := 32) rfl (by omega) (show _ = Value.bool false from by simp [upd, e0, e1, e5, e6, e7])) (v := Value.bool true) (fun wr hwr => by simp only [execOp, (F21.eval 35 (by omega)).trans (show _ = Value.int .i64 (cntK rep (homeN n rep) KL : Nat) from by simp [upd, e0, e1, e5, e6, e7]), (F21.eval 39 (by omega)).trans (show _ = Value.int .i64 per from by simp [upd, e0, e1, e5, e6, e7])]; simp [go_sem, Act.eval, HQ.out]) fun F22 => ?_
    refine lyp F22 rfl HC3 rfl (by omega) (wanted_none rfl) (v := Value.bool true) (fun wr hwr => by simp only [execOp, (F22.eval 32 (by omega)).trans (show _ = Value.bool false from by simp [upd, e0, e1, e5, e6, e7]), (F22.eval 40 (by omega)).trans (show _ = Value.bool true from by simp [upd, e0, e1, e5, e6, e7])]; simp [go_sem, Act.eval]) fun F23 => ?_
    refine ⟨fun _ => HC3, ?_⟩
    refine hK _ _ ?_
    clear F0 F1 F2 F3 F4 F5 F6 F7 F8 F9 F10 F11 F12 F13 F14 F15 F16 F17 F18 F19 F20 F21 F22 F23 e0 e1 e5 e6 e7 V0 V2
    simp only [Act.put, List.setIfInBounds_toArray, List.set_cons_succ, List.set_cons_zero]

    have HB3 : Hid (Below w.heap.size w w3) := HB2.out.trans (HC3.mono HB2.out.size)
    clear HC3 hb3 HCC
    go_wp2_with fail
    go_ret
    exact ⟨rfl, RPost.same HT.out HB3.out⟩
  · have hc : rlb me rep per KL n = true := by unfold rlb; simp [g1t, g2, g3]; omega
    rw [hc, if_pos rfl]
    have HQ : Hid (¬ per ≤ (cntK rep (homeN n rep) KL : Int)) := g4
    have HKL : Hid (KL.length ≤ 100000) := hL
    clear hc hT hL hnl hrep g1 g2 g3 g4 hkn
    go_enter Try.func55, Try.ntmps55
    go_wp2_with fail
    refine Calls.mono (HG.out _) ?_
    rintro e w' ⟨rfl, hw'⟩
    replace hw' := hw'.symm
    subst hw'
    go_wp2_with fail
    refine Calls.mono HK.out ?_
    rintro e w' ⟨rfl, hw'⟩
    replace hw' := hw'.symm
    subst hw'
    go_wp2_with fail
    refine Calls.mono (HHO.out _) ?_
    rintro e w2 ⟨rfl, hb2⟩
    have HT2 : Hid _ := HT.out.more hb2
    have HB2 : Hid _ := hb2
    clear hb2 c1
    try rw [g1t]
    go_wp2_with fail
    rename_i K hK
    try rw [show ∀ a : Act, a.put none undef = a from fun _ => rfl]
    refine wp_region_mix (fun wq => Below w2.heap.size w2 wq) (fun i => i == 16 || i == 99) 99 (by kernel_rfl) rfl (by kernel_rfl) (by kernel_rfl) (by kernel_rfl) ?_
    refine withFrP (N := 52) rfl ?_
    intro f0 F0 hff
    have e0 : f0 0 = Value.pointer (some ⟨rb, 0, none⟩) := hff 0
    have e1 : f0 1 = Value.string ⟨n.toArray⟩ := hff 1
    have e5 : f0 5 = Value.bool true := hff 5
    have e6 : f0 6 = Value.bool false := hff 6
    have e7 : f0 7 = Value.int .i64 (homeN n rep) := hff 7
    clear hff
    have HCC : (fun wq => Below w2.heap.size w2 wq) (({ w2 with drawn := w2.drawn + 1 } : World)) := (Below.drew (Below.refl w2.heap.size w2))
    have V0 : ∀ wr, Below w2.heap.size w2 wr → wr.cell? ⟨rb, 0, none⟩ = some (.int .i64 me) := fun wr hw => (hw.cell (p := ⟨rb, 0, none⟩) (World.block_lt_of_cell? w2 _ HT2.out.c0)).trans HT2.out.c0
    have V2 : ∀ wr, Below w2.heap.size w2 wr → wr.cell? ⟨rb, 2, none⟩ = some (.int .i64 per) := fun wr hw => (hw.cell (p := ⟨rb, 2, none⟩) (World.block_lt_of_cell? w2 _ HT2.out.c2)).trans HT2.out.c2
    refine lyp F0 rfl HCC rfl (by omega) (wanted_none rfl) (v := Value.bool true) (fun wr hwr => by simp only [execOp, (F0.eval 5 (by omega)).trans (show _ = Value.bool true from by simp [upd, e0, e1, e5, e6, e7])]; first | rfl | simp [go_sem]) fun F1 => ?_
    refine lyp F1 rfl HCC rfl (by omega) (wanted_none rfl) (v := Value.bool false) (fun wr hwr => by simp only [execOp, (F1.eval 19 (by omega)).trans (show _ = Value.bool true from by simp [upd, e0, e1, e5, e6, e7])]; simp [go_sem, Act.eval]) fun F2 => ?_
    refine lyp F2 rfl HCC rfl (by omega) (wanted_none rfl) (v := Value.bool false) (fun wr hwr => by simp only [execOp, (F2.eval 20 (by omega)).trans (show _ = Value.bool false from by simp [upd, e0, e1, e5, e6, e7])]; first | rfl | simp [go_sem]) fun F3 => ?_
    refine lyp F3 rfl HCC rfl (by omega) (want_yes F3 rfl (e := 21) rfl (by omega) (show _ = Value.bool false from by simp [upd, e0, e1, e5, e6, e7])) (v := Value.bool false) (fun wr hwr => by simp only [execOp, (F3.eval 6 (by omega)).trans (show _ = Value.bool false from by simp [upd, e0, e1, e5, e6, e7])]; first | rfl | simp [go_sem]) fun F4 => ?_
    refine lyp F4 rfl HCC rfl (by omega) (wanted_none rfl) (v := Value.bool false) (fun wr hwr => by simp only [execOp, (F4.eval 21 (by omega)).trans (show _ = Value.bool false from by simp [upd, e0, e1, e5, e6, e7]), (F4.eval 22 (by omega)).trans (show _ = Value.bool false from by simp [upd, e0, e1, e5, e6, e7])]; simp [go_sem, Act.eval]) fun F5 => ?_
    refine lyp F5 rfl HCC rfl (by omega) (wanted_none rfl) (v := Value.bool false) (fun wr hwr => by simp only [execOp, (F5.eval 23 (by omega)).trans (show _ = Value.bool false from by simp [upd, e0, e1, e5, e6, e7])]; first | rfl | simp [go_sem]) fun F6 => ?_
    refine lyp F6 rfl HCC rfl (by omega) (want_yes F6 rfl (e := 24) rfl (by omega) (show _ = Value.bool false from by simp [upd, e0, e1, e5, e6, e7])) (v := Value.int .i64 (homeN n rep)) (fun wr hwr => by simp only [execOp, (F6.eval 7 (by omega)).trans (show _ = Value.int .i64 (homeN n rep) from by simp [upd, e0, e1, e5, e6, e7])]; first | rfl | simp [go_sem]) fun F7 => ?_
    refine lyp F7 rfl HCC rfl (by omega) (want_yes F7 rfl (e := 24) rfl (by omega) (show _ = Value.bool false from by simp [upd, e0, e1, e5, e6, e7])) (v := Value.pointer (some ⟨rb, 0, none⟩)) (fun wr hwr => by simp only [execOp, (F7.eval 0 (by omega)).trans (show _ = Value.pointer (some ⟨rb, 0, none⟩) from by simp [upd, e0, e1, e5, e6, e7])]; first | rfl | simp [go_sem]) fun F8 => ?_
    refine lyp F8 rfl HCC rfl (by omega) (want_yes F8 rfl (e := 24) rfl (by omega) (show _ = Value.bool false from by simp [upd, e0, e1, e5, e6, e7])) (v := Value.pointer (some ⟨rb, 0, none⟩)) (fun wr hwr => by simp only [execOp, (F8.eval 26 (by omega)).trans (show _ = Value.pointer (some ⟨rb, 0, none⟩) from by simp [upd, e0, e1, e5, e6, e7])]; simp [go_sem]) fun F9 => ?_
    refine lyp F9 rfl HCC rfl (by omega) (want_yes F9 rfl (e := 24) rfl (by omega) (show _ = Value.bool false from by simp [upd, e0, e1, e5, e6, e7])) (v := Value.pointer (some ⟨rb, 0, none⟩)) (fun wr hwr => by simp only [execOp, (F9.eval 27 (by omega)).trans (show _ = Value.pointer (some ⟨rb, 0, none⟩) from by simp [upd, e0, e1, e5, e6, e7])]; simp [go_sem]) fun F10 => ?_
    refine lyp F10 rfl HCC rfl (by omega) (want_yes F10 rfl (e := 24) rfl (by omega) (show _ = Value.bool false from by simp [upd, e0, e1, e5, e6, e7])) (v := Value.int .i64 me) (fun wr hwr => by simp only [execOp, (F10.eval 28 (by omega)).trans (show _ = Value.pointer (some ⟨rb, 0, none⟩) from by simp [upd, e0, e1, e5, e6, e7])]; simp [go_sem, V0 wr hwr]) fun F11 => ?_
    refine lyp F11 rfl HCC rfl (by omega) (want_yes F11 rfl (e := 24) rfl (by omega) (show _ = Value.bool false from by simp [upd, e0, e1, e5, e6, e7])) (v := Value.bool false) (fun wr hwr => by simp only [execOp, (F11.eval 25 (by omega)).trans (show _ = Value.int .i64 (homeN n rep) from by simp [upd, e0, e1, e5, e6, e7]), (F11.eval 29 (by omega)).trans (show _ = Value.int .i64 me from by simp [upd, e0, e1, e5, e6, e7])]; simp [go_sem, Act.eval, HP.out]) fun F12 => ?_
    refine lyp F12 rfl HCC rfl (by omega) (wanted_none rfl) (v := Value.bool false) (fun wr hwr => by simp only [execOp, (F12.eval 24 (by omega)).trans (show _ = Value.bool false from by simp [upd, e0, e1, e5, e6, e7]), (F12.eval 30 (by omega)).trans (show _ = Value.bool false from by simp [upd, e0, e1, e5, e6, e7])]; simp [go_sem, Act.eval]) fun F13 => ?_
    refine lyp F13 rfl HCC rfl (by omega) (wanted_none rfl) (v := Value.bool false) (fun wr hwr => by simp only [execOp, (F13.eval 31 (by omega)).trans (show _ = Value.bool false from by simp [upd, e0, e1, e5, e6, e7])]; first | rfl | simp [go_sem]) fun F14 => ?_
    refine lyp F14 rfl HCC rfl (by omega) (want_yes F14 rfl (e := 32) rfl (by omega) (show _ = Value.bool false from by simp [upd, e0, e1, e5, e6, e7])) (v := Value.pointer (some ⟨rb, 0, none⟩)) (fun wr hwr => by simp only [execOp, (F14.eval 0 (by omega)).trans (show _ = Value.pointer (some ⟨rb, 0, none⟩) from by simp [upd, e0, e1, e5, e6, e7])]; first | rfl | simp [go_sem]) fun F15 => ?_
    refine lyp F15 rfl HCC rfl (by omega) (want_yes F15 rfl (e := 32) rfl (by omega) (show _ = Value.bool false from by simp [upd, e0, e1, e5, e6, e7])) (v := Value.int .i64 (homeN n rep)) (fun wr hwr => by simp only [execOp, (F15.eval 7 (by omega)).trans (show _ = Value.int .i64 (homeN n rep) from by simp [upd, e0, e1, e5, e6, e7])]; first | rfl | simp [go_sem]) fun F16 => ?_
    refine lcp F16 rfl HCC rfl (by omega) (want_yes F16 rfl (e := 32) rfl (by omega) (show _ = Value.bool false from by simp [upd, e0, e1, e5, e6, e7])) (g := 66) (args := #[Value.pointer (some ⟨rb, 0, none⟩), Value.int .i64 (homeN n rep)]) (by simp only [execOp, resolve, invoke, List.map_toArray, List.map_cons, List.map_nil, (F16.eval 33 (by omega)).trans (show _ = Value.pointer (some ⟨rb, 0, none⟩) from by simp [upd, e0, e1, e5, e6, e7]), (F16.eval 34 (by omega)).trans (show _ = Value.int .i64 (homeN n rep) from by simp [upd, e0, e1, e5, e6, e7])]; simp [go_sem, Act.eval]) (HOF.out (({ w2 with drawn := w2.drawn + 1 } : World)) (HT2.out.more HCC)) ?_
    rintro e w3 ⟨rfl, hb3⟩
    refine ⟨_, rfl, fun F17 => ?_⟩
    have HC3 : (fun wq => Below w2.heap.size w2 wq) w3 := (Below.drew (Below.refl w2.heap.size w2)).trans hb3
    refine lyp F17 rfl HC3 rfl (by omega) (want_yes F17 rfl (e := 32) rfl (by omega) (show _ = Value.bool false from by simp [upd, e0, e1, e5, e6, e7])) (v := Value.pointer (some ⟨rb, 0, none⟩)) (fun wr hwr => by simp only [execOp, (F17.eval 0 (by omega)).trans (show _ = Value.pointer (some ⟨rb, 0, none⟩) from by simp [upd, e0, e1, e5, e6, e7])]; first | rfl | simp [go_sem]) fun F18 => ?_
    refine lyp F18 rfl HC3 rfl (by omega) (want_yes F18 rfl (e := 32) rfl (by omega) (show _ = Value.bool false from by simp [upd, e0, e1, e5, e6, e7])) (v := Value.pointer (some ⟨rb, 0, none⟩)) (fun wr hwr => by simp only [execOp, (F18.eval 36 (by omega)).trans (show _ = Value.pointer (some ⟨rb, 0, none⟩) from by simp [upd, e0, e1, e5, e6, e7])]; simp [go_sem]) fun F19 => ?_
    refine lyp F19 rfl HC3 rfl (by omega) (want_yes F19 rfl (e := 32) rfl (by omega) (show _ = Value.bool false from by simp [upd, e0, e1, e5, e6, e7])) (v := Value.pointer (some ⟨rb, 2, none⟩)) (fun wr hwr => by simp only [execOp, (F19.eval 37 (by omega)).trans (show _ = Value.pointer (some ⟨rb, 0, none⟩) from by simp [upd, e0, e1, e5, e6, e7])]; simp [go_sem]) fun F20 => ?_
    refine lyp F20 rfl HC3 rfl (by omega) (want_yes F20 rfl (e := 32) rfl (by omega) (show _ = Value.bool false from by simp [upd, e0, e1, e5, e6, e7])) (v := Value.int .i64 per) (fun wr hwr => by simp only [execOp, (F20.eval 38 (by omega)).trans (show _ = Value.pointer (some ⟨rb, 2, none⟩) from by simp [upd, e0, e1, e5, e6, e7])]; simp [go_sem, V2 wr hwr]) fun F21 => ?_
    refine lyp F21 rfl HC3 rfl (by omega) (want_yes F21 rfl (e := 32) rfl (by omega) (show _ = Value.bool false from by simp [upd, e0, e1, e5, e6, e7])) (v := Value.bool false) (fun wr hwr => by simp only [execOp, (F21.eval 35 (by omega)).trans (show _ = Value.int .i64 (cntK rep (homeN n rep) KL : Nat) from by simp [upd, e0, e1, e5, e6, e7]), (F21.eval 39 (by omega)).trans (show _ = Value.int .i64 per from by simp [upd, e0, e1, e5, e6, e7])]; simp [go_sem, Act.eval, HQ.out]) fun F22 => ?_
    refine lyp F22 rfl HC3 rfl (by omega) (wanted_none rfl) (v := Value.bool false) (fun wr hwr => by simp only [execOp, (F22.eval 32 (by omega)).trans (show _ = Value.bool false from by simp [upd, e0, e1, e5, e6, e7]), (F22.eval 40 (by omega)).trans (show _ = Value.bool false from by simp [upd, e0, e1, e5, e6, e7])]; simp [go_sem, Act.eval]) fun F23 => ?_
    refine ⟨fun _ => HC3, ?_⟩
    refine hK _ _ ?_
    clear F0 F1 F2 F3 F4 F5 F6 F7 F8 F9 F10 F11 F12 F13 F14 F15 F16 F17 F18 F19 F20 F21 F22 F23 e0 e1 e5 e6 e7 V0 V2
    simp only [Act.put, List.setIfInBounds_toArray, List.set_cons_succ, List.set_cons_zero]

    have HB3 : Hid (Below w.heap.size w w3) := HB2.out.trans (HC3.mono HB2.out.size)
    have hT3 := HT2.out.more HC3
    have c3 := hT3.c3
    obtain ⟨ao, cap, hv, _⟩ := own_slice hT3.kr
    rw [hv] at c3
    have HRO : Hid (World.ownsRow w3 B 9 1 (.slice ao KL.length cap) KL.length (flatS KL)) := show World.ownsRow w3 B 9 1 (.slice ao KL.length cap) KL.length (flatS KL) from by rw [← hv]; exact hT3.kr
    have HSZ : Hid (B ≤ w3.heap.size) := hT3.low
    have HT3 : Hid _ := hT3
    have HV : Hid (kl = .slice ao KL.length cap) := hv
    clear HC3 hb3 hT3 hv HCC
    go_wp2_with (first | (at_builtin; go_must (refine wpList_appS rfl _ _ rfl B KL.length _ KL rfl HRO.out n rfl (by first | rfl | simp) HKL.out HSZ.out ?_)))
    intro v' w5 ho5 hg5
    obtain ⟨ao5, cap5, hv5, _⟩ := own_slice ho5
    subst hv5
    have hB5 := hg5.chg.blk HT3.out.blk (by rw [← HV.out]; exact HT3.out.knb HT3.out.blk (by decide))
    have hfz := hB5.frozen 3
    have hcz : w5.cell? ⟨rb, 3, none⟩ = some kl := hB5.cell 3
    have HPO : Hid (RPost B rb kl wl me rep per (KL ++ [n]) WL w (w5.setCell ⟨rb, 3, none⟩ (.slice ao5 (KL.length + 1) cap5))) := RPost.ofK (KL' := KL ++ [n]) HT.out HB3.out (by rw [HV.out]; exact hg5) (by rw [List.length_append]; exact ho5)
    rw [HV.out] at hcz
    clear ho5 hg5 hB5 c3
    go_wp2_with fail
    go_ret
    exact ⟨rfl, HPO.out⟩
end Go.Proofs.Ytgjibihhchojoaa
