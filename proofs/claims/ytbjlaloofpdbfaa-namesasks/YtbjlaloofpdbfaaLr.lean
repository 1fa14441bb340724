import Derived.Test.YtbjlaloofpdbfaaKp
namespace Go.Proofs.Ytbjlaloofpdbfaa
open Go.RowKit Go.PlainAid Go.MapKept
set_option linter.unusedVariables false
set_option linter.unusedSimpArgs false
set_option maxRecDepth 100000 in
set_option maxHeartbeats 1600000 in
theorem learn_any {hb mh mw : Nat} {me rep per : Int} {KN : List (List UInt8 × Int)} {WT : List ((Int × Int) × OpA)} (n : List UInt8) (w : World) (hT : Tb hb mh mw me rep per KN WT w) (hL : KN.length ≤ 100000) (hl : n.length ≤ 140737488355328) (hrep : -9223372036854775808 ≤ rep ∧ rep ≤ 9223372036854775807) :
    Calls Try.prog 22 #[.pointer (some ⟨hb, 0, none⟩), .string ⟨n.toArray⟩] w fun q w' => q = .returned (.bool (learnB me rep per KN n)) ∧ Tb hb mh mw me rep per (learnNext me rep per KN n) WT w' ∧ Chg (fun k => k = mh) w w' := by
  have HG : Hid (∀ w, _) := fun w => good_any n w (by omega)
  have HHO : Hid (∀ w, _) := fun w => home_any n rep w (by omega) hrep
  have HK : Hid (∀ w' : World, Tb hb mh mw me rep per KN WT w' → _) := fun w' h => knows_any n w' h
  have HRM : Hid (∀ (r : Int) (w' : World), Tb hb mh mw me rep per KN WT w' → _) := fun r w' h => room_any r w' h hL
  have HT : Hid _ := hT
  have c1 := hT.c1
  unfold learnNext
  by_cases g1 : nameB n = false
  · have hc : learnB me rep per KN n = false := by unfold learnB; rw [g1]; rfl
    rw [hc, if_neg (by decide)]
    clear hc hT hL hrep
    go_enter Try.func22, Try.ntmps22
    go_wp2_with fail
    refine Calls.mono (HHO.out _) ?_
    rintro e w2 ⟨rfl, hb2⟩
    have hT2 := HT.out.more hb2
    have c0 := hT2.c0
    have HTF : Hid _ := hT2
    have HB2 : Hid _ := hb2
    clear hb2 hT2 c1
    go_wp2_with fail
    refine Calls.mono (HG.out _) ?_
    rintro e w' ⟨rfl, hw'⟩
    replace hw' := hw'.symm
    subst hw'
    rw [g1]
    go_wp2_with fail
    go_ret
    exact ⟨rfl, HTF.out, Chg.ofBelow _ HB2.out⟩
  have g1t : nameB n = true := by simpa using g1
  by_cases g2 : homeN n rep = me
  · have hc : learnB me rep per KN n = false := by unfold learnB; simp [g2]
    rw [hc, if_neg (by decide)]
    have hne : (homeN n rep == me) = true := by simpa using g2
    clear hc hT hL hrep g1
    go_enter Try.func22, Try.ntmps22
    go_wp2_with fail
    refine Calls.mono (HHO.out _) ?_
    rintro e w2 ⟨rfl, hb2⟩
    have hT2 := HT.out.more hb2
    have c0 := hT2.c0
    have HTF : Hid _ := hT2
    have HB2 : Hid _ := hb2
    clear hb2 hT2 c1
    go_wp2_with fail
    refine Calls.mono (HG.out _) ?_
    rintro e w' ⟨rfl, hw'⟩
    replace hw' := hw'.symm
    subst hw'
    rw [g1t]
    go_wp2_with fail
    go_ret
    exact ⟨rfl, HTF.out, Chg.ofBelow _ HB2.out⟩
  have hne : (homeN n rep == me) = false := by simpa using g2
  by_cases g3 : knows n KN = true
  · have hc : learnB me rep per KN n = false := by unfold learnB; simp [g3]
    rw [hc, if_neg (by decide)]
    clear hc hT hL hrep g1
    go_enter Try.func22, Try.ntmps22
    go_wp2_with fail
    refine Calls.mono (HHO.out _) ?_
    rintro e w2 ⟨rfl, hb2⟩
    have hT2 := HT.out.more hb2
    have c0 := hT2.c0
    have HTF : Hid _ := hT2
    have HB2 : Hid _ := hb2
    clear hb2 hT2 c1
    go_wp2_with fail
    refine Calls.mono (HG.out _) ?_
    rintro e w' ⟨rfl, hw'⟩
    replace hw' := hw'.symm
    subst hw'
    rw [g1t]
    go_wp2_with fail
    refine Calls.mono (HK.out _ HTF.out) ?_
    rintro e w' ⟨rfl, hw'⟩
    replace hw' := hw'.symm
    subst hw'
    rw [g3]
    go_wp2_with fail
    go_ret
    exact ⟨rfl, HTF.out, Chg.ofBelow _ HB2.out⟩
  have g3f : knows n KN = false := by simpa using g3
  by_cases g4 : (cntH (homeN n rep) KN : Int) < per
  · have hc : learnB me rep per KN n = true := by unfold learnB; simp [g1t, g2, g3f, g4]
    rw [hc, if_pos rfl]
    have hdc : decide ((cntH (homeN n rep) KN : Int) < per) = true := by simpa using g4
    have HKP : Hid (∀ w' : World, Tb hb mh mw me rep per KN WT w' → _) := fun w' h => keep_any n (homeN n rep) w' h (not_known g3f) (by omega)
    clear hc hT hL hrep g1 g3 g4
    go_enter Try.func22, Try.ntmps22
    go_wp2_with fail
    refine Calls.mono (HHO.out _) ?_
    rintro e w2 ⟨rfl, hb2⟩
    have hT2 := HT.out.more hb2
    have c0 := hT2.c0
    have HTF : Hid _ := hT2
    have HB2 : Hid _ := hb2
    clear hb2 hT2 c1
    go_wp2_with fail
    refine Calls.mono (HG.out _) ?_
    rintro e w' ⟨rfl, hw'⟩
    replace hw' := hw'.symm
    subst hw'
    rw [g1t]
    go_wp2_with fail
    refine Calls.mono (HK.out _ HTF.out) ?_
    rintro e w' ⟨rfl, hw'⟩
    replace hw' := hw'.symm
    subst hw'
    rw [g3f]
    go_wp2_with fail
    refine Calls.mono (HRM.out (homeN n rep) _ HTF.out) ?_
    rintro e w3 ⟨rfl, hb3⟩
    rw [hdc]
    have HTG : Hid _ := HTF.out.more hb3
    have HB3 : Hid (Below w.heap.size w w3) := HB2.out.trans (hb3.mono HB2.out.size)
    clear hb3 c0
    go_wp2_with fail
    refine Calls.mono (HKP.out _ HTG.out) ?_
    rintro e w4 ⟨rfl, hT4, hc4⟩
    have HT4 : Hid _ := hT4
    have HC4 : Hid (Chg (fun k => k = mh) w w4) := (Chg.ofBelow (fun k => k = mh) HB3.out).trans hc4 (fun _ _ e => e)
    clear hT4 hc4
    go_wp2_with fail
    go_ret
    exact ⟨rfl, HT4.out, HC4.out⟩
  · have hc : learnB me rep per KN n = false := by unfold learnB; simp [g4]
    rw [hc, if_neg (by decide)]
    have hdc : decide ((cntH (homeN n rep) KN : Int) < per) = false := by simpa using g4
    clear hc hT hL hrep g1 g3 g4
    go_enter Try.func22, Try.ntmps22
    go_wp2_with fail
    refine Calls.mono (HHO.out _) ?_
    rintro e w2 ⟨rfl, hb2⟩
    have hT2 := HT.out.more hb2
    have c0 := hT2.c0
    have HTF : Hid _ := hT2
    have HB2 : Hid _ := hb2
    clear hb2 hT2 c1
    go_wp2_with fail
    refine Calls.mono (HG.out _) ?_
    rintro e w' ⟨rfl, hw'⟩
    replace hw' := hw'.symm
    subst hw'
    rw [g1t]
    go_wp2_with fail
    refine Calls.mono (HK.out _ HTF.out) ?_
    rintro e w' ⟨rfl, hw'⟩
    replace hw' := hw'.symm
    subst hw'
    rw [g3f]
    go_wp2_with fail
    refine Calls.mono (HRM.out (homeN n rep) _ HTF.out) ?_
    rintro e w3 ⟨rfl, hb3⟩
    rw [hdc]
    have HTG : Hid _ := HTF.out.more hb3
    have HB3 : Hid (Below w.heap.size w w3) := HB2.out.trans (hb3.mono HB2.out.size)
    clear hb3 c0
    go_wp2_with fail
    go_ret
    exact ⟨rfl, HTG.out, Chg.ofBelow _ HB3.out⟩
end Go.Proofs.Ytbjlaloofpdbfaa
