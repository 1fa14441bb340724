import Derived.Test.YtbjlaloofpdbfaaKp
namespace Go.Proofs.Ytbjlaloofpdbfaa
open Go.RowKit Go.PlainAid Go.MapKept
set_option linter.unusedVariables false
set_option linter.unusedSimpArgs false
set_option maxRecDepth 100000 in
set_option maxHeartbeats 1600000 in
theorem make_any {hb mh mw : Nat} {me rep per : Int} {KN : List (List UInt8 × Int)} {WT : List ((Int × Int) × OpA)} (n : List UInt8) (w : World) (hT : Tb hb mh mw me rep per KN WT w) (hL : KN.length ≤ 100000) (hl : n.length ≤ 140737488355328) (hrep : -9223372036854775808 ≤ rep ∧ rep ≤ 9223372036854775807) :
    Calls Try.prog 24 #[.pointer (some ⟨hb, 0, none⟩), .string ⟨n.toArray⟩] w fun q w' => q = .returned (.int .i64 (makeCode me rep per KN n)) ∧ Tb hb mh mw me rep per (makeNext me rep per KN n) WT w' ∧ Chg (fun k => k = mh) w w' := by
  have HG : Hid (∀ w, _) := fun w => good_any n w (by omega)
  have HHO : Hid (∀ w, _) := fun w => home_any n rep w (by omega) hrep
  have HK : Hid (∀ w' : World, Tb hb mh mw me rep per KN WT w' → _) := fun w' h => knows_any n w' h
  have HRM : Hid (∀ (r : Int) (w' : World), Tb hb mh mw me rep per KN WT w' → _) := fun r w' h => room_any r w' h hL
  have HT : Hid _ := hT
  unfold makeNext
  by_cases g1 : nameB n = false
  · have hc : makeCode me rep per KN n = 1 := by unfold makeCode; rw [if_pos g1]
    rw [hc, if_neg (by decide)]
    clear hc hT hL hrep
    go_enter Try.func24, Try.ntmps24
    go_wp2_with fail
    refine Calls.mono (HG.out _) ?_
    rintro e w' ⟨rfl, hw'⟩
    replace hw' := hw'.symm
    subst hw'
    rw [g1]
    go_wp2_with fail
    go_ret
    exact ⟨rfl, HT.out, Chg.ofBelow _ (Below.refl _ _)⟩
  have g1t : nameB n = true := by simpa using g1
  by_cases g2 : homeN n rep ≠ me
  · have hc : makeCode me rep per KN n = 3 := by unfold makeCode; rw [if_neg g1, if_pos g2]
    rw [hc, if_neg (by decide)]
    have HP : Hid (¬ homeN n rep = me) := g2
    clear hc hT hL hrep g1 g2
    go_enter Try.func24, Try.ntmps24
    go_wp2_with fail
    refine Calls.mono (HG.out _) ?_
    rintro e w' ⟨rfl, hw'⟩
    replace hw' := hw'.symm
    subst hw'
    rw [g1t]
    go_wp2_with fail
    rename_i K hK
    try rw [show ∀ a : Act, a.put none undef = a from fun _ => rfl]
    refine wp_region_mix (fun wq => Below w.heap.size w wq) (fun i => i == 5 || i == 99) 99 (by kernel_rfl) rfl (by kernel_rfl) (by kernel_rfl) (by kernel_rfl) ?_
    refine withFrP (N := 40) rfl ?_
    intro f0 F0 hff
    have e0 : f0 0 = Value.pointer (some ⟨hb, 0, none⟩) := hff 0
    have e1 : f0 1 = Value.string ⟨n.toArray⟩ := hff 1
    clear hff
    have HCC : (fun wq => Below w.heap.size w wq) (({ w with drawn := w.drawn + 1 } : World)) := (Below.drew (Below.refl w.heap.size w))
    have V0 : ∀ wr, Below w.heap.size w wr → wr.cell? ⟨hb, 0, none⟩ = some (.int .i64 me) := fun wr hw => (hw.cell (p := ⟨hb, 0, none⟩) (World.block_lt_of_cell? w _ HT.out.c0)).trans HT.out.c0
    have V1 : ∀ wr, Below w.heap.size w wr → wr.cell? ⟨hb, 1, none⟩ = some (.int .i64 rep) := fun wr hw => (hw.cell (p := ⟨hb, 1, none⟩) (World.block_lt_of_cell? w _ HT.out.c1)).trans HT.out.c1
    refine lyp F0 rfl HCC rfl (by omega) (wanted_none rfl) (v := Value.string ⟨n.toArray⟩) (fun wr hwr => by simp only [execOp, (F0.eval 1 (by omega)).trans (show _ = Value.string ⟨n.toArray⟩ from by simp [upd, e0, e1])]; first | rfl | simp [go_sem]) fun F1 => ?_
    refine lyp F1 rfl HCC rfl (by omega) (wanted_none rfl) (v := Value.pointer (some ⟨hb, 0, none⟩)) (fun wr hwr => by simp only [execOp, (F1.eval 0 (by omega)).trans (show _ = Value.pointer (some ⟨hb, 0, none⟩) from by simp [upd, e0, e1])]; first | rfl | simp [go_sem]) fun F2 => ?_
    refine lyp F2 rfl HCC rfl (by omega) (wanted_none rfl) (v := Value.pointer (some ⟨hb, 0, none⟩)) (fun wr hwr => by simp only [execOp, (F2.eval 11 (by omega)).trans (show _ = Value.pointer (some ⟨hb, 0, none⟩) from by simp [upd, e0, e1])]; simp [go_sem]) fun F3 => ?_
    refine lyp F3 rfl HCC rfl (by omega) (wanted_none rfl) (v := Value.pointer (some ⟨hb, 1, none⟩)) (fun wr hwr => by simp only [execOp, (F3.eval 12 (by omega)).trans (show _ = Value.pointer (some ⟨hb, 0, none⟩) from by simp [upd, e0, e1])]; simp [go_sem]) fun F4 => ?_
    refine lyp F4 rfl HCC rfl (by omega) (wanted_none rfl) (v := Value.int .i64 rep) (fun wr hwr => by simp only [execOp, (F4.eval 13 (by omega)).trans (show _ = Value.pointer (some ⟨hb, 1, none⟩) from by simp [upd, e0, e1])]; simp [go_sem, V1 wr hwr]) fun F5 => ?_
    refine lcp F5 rfl HCC rfl (by omega) (wanted_none rfl) (g := 12) (args := #[Value.string ⟨n.toArray⟩, Value.int .i64 rep]) (by simp only [execOp, resolve, invoke, List.map_toArray, List.map_cons, List.map_nil, (F5.eval 10 (by omega)).trans (show _ = Value.string ⟨n.toArray⟩ from by simp [upd, e0, e1]), (F5.eval 14 (by omega)).trans (show _ = Value.int .i64 rep from by simp [upd, e0, e1])]; simp [go_sem, Act.eval]) (HHO.out (({ w with drawn := w.drawn + 1 } : World))) ?_
    rintro e w2 ⟨rfl, hb2⟩
    refine ⟨_, rfl, fun F6 => ?_⟩
    have HC2 : (fun wq => Below w.heap.size w wq) w2 := (Below.drew (Below.refl w.heap.size w)).trans hb2
    refine lyp F6 rfl HC2 rfl (by omega) (wanted_none rfl) (v := Value.pointer (some ⟨hb, 0, none⟩)) (fun wr hwr => by simp only [execOp, (F6.eval 0 (by omega)).trans (show _ = Value.pointer (some ⟨hb, 0, none⟩) from by simp [upd, e0, e1])]; first | rfl | simp [go_sem]) fun F7 => ?_
    refine lyp F7 rfl HC2 rfl (by omega) (wanted_none rfl) (v := Value.pointer (some ⟨hb, 0, none⟩)) (fun wr hwr => by simp only [execOp, (F7.eval 16 (by omega)).trans (show _ = Value.pointer (some ⟨hb, 0, none⟩) from by simp [upd, e0, e1])]; simp [go_sem]) fun F8 => ?_
    refine lyp F8 rfl HC2 rfl (by omega) (wanted_none rfl) (v := Value.pointer (some ⟨hb, 0, none⟩)) (fun wr hwr => by simp only [execOp, (F8.eval 17 (by omega)).trans (show _ = Value.pointer (some ⟨hb, 0, none⟩) from by simp [upd, e0, e1])]; simp [go_sem]) fun F9 => ?_
    refine lyp F9 rfl HC2 rfl (by omega) (wanted_none rfl) (v := Value.int .i64 me) (fun wr hwr => by simp only [execOp, (F9.eval 18 (by omega)).trans (show _ = Value.pointer (some ⟨hb, 0, none⟩) from by simp [upd, e0, e1])]; simp [go_sem, V0 wr hwr]) fun F10 => ?_
    refine lyp F10 rfl HC2 rfl (by omega) (wanted_none rfl) (v := Value.bool true) (fun wr hwr => by simp only [execOp, (F10.eval 15 (by omega)).trans (show _ = Value.int .i64 (homeN n rep) from by simp [upd, e0, e1]), (F10.eval 19 (by omega)).trans (show _ = Value.int .i64 me from by simp [upd, e0, e1])]; simp [go_sem, Act.eval, HP.out]) fun F11 => ?_
    refine lyp F11 rfl HC2 rfl (by omega) (wanted_none rfl) (v := Value.bool true) (fun wr hwr => by simp only [execOp, (F11.eval 20 (by omega)).trans (show _ = Value.bool true from by simp [upd, e0, e1])]; first | rfl | simp [go_sem]) fun F12 => ?_
    refine ⟨fun _ => HC2, ?_⟩
    refine hK _ _ ?_
    clear F0 F1 F2 F3 F4 F5 F6 F7 F8 F9 F10 F11 F12 e0 e1 HCC
    simp only [Act.put, List.setIfInBounds_toArray, List.set_cons_succ, List.set_cons_zero]

    have HTF : Hid _ := HT.out.more HC2
    have HCF : Hid (Chg (fun k => k = mh) w w2) := Chg.ofBelow _ HC2
    clear HC2 hb2
    go_wp2_with fail
    go_ret
    exact ⟨rfl, HTF.out, HCF.out⟩
  have g2e : homeN n rep = me := by simpa using g2
  have HP : Hid (homeN n rep = me) := g2e
  by_cases g3 : knows n KN = true
  · have hc : makeCode me rep per KN n = 101 := by unfold makeCode; rw [if_neg g1, if_neg g2, if_pos g3]
    rw [hc, if_neg (by decide)]
    clear hc hT hL hrep g1 g2 g2e
    go_enter Try.func24, Try.ntmps24
    go_wp2_with fail
    refine Calls.mono (HG.out _) ?_
    rintro e w' ⟨rfl, hw'⟩
    replace hw' := hw'.symm
    subst hw'
    rw [g1t]
    go_wp2_with fail
    rename_i K hK
    try rw [show ∀ a : Act, a.put none undef = a from fun _ => rfl]
    refine wp_region_mix (fun wq => Below w.heap.size w wq) (fun i => i == 5 || i == 99) 99 (by kernel_rfl) rfl (by kernel_rfl) (by kernel_rfl) (by kernel_rfl) ?_
    refine withFrP (N := 40) rfl ?_
    intro f0 F0 hff
    have e0 : f0 0 = Value.pointer (some ⟨hb, 0, none⟩) := hff 0
    have e1 : f0 1 = Value.string ⟨n.toArray⟩ := hff 1
    clear hff
    have HCC : (fun wq => Below w.heap.size w wq) (({ w with drawn := w.drawn + 1 } : World)) := (Below.drew (Below.refl w.heap.size w))
    have V0 : ∀ wr, Below w.heap.size w wr → wr.cell? ⟨hb, 0, none⟩ = some (.int .i64 me) := fun wr hw => (hw.cell (p := ⟨hb, 0, none⟩) (World.block_lt_of_cell? w _ HT.out.c0)).trans HT.out.c0
    have V1 : ∀ wr, Below w.heap.size w wr → wr.cell? ⟨hb, 1, none⟩ = some (.int .i64 rep) := fun wr hw => (hw.cell (p := ⟨hb, 1, none⟩) (World.block_lt_of_cell? w _ HT.out.c1)).trans HT.out.c1
    refine lyp F0 rfl HCC rfl (by omega) (wanted_none rfl) (v := Value.string ⟨n.toArray⟩) (fun wr hwr => by simp only [execOp, (F0.eval 1 (by omega)).trans (show _ = Value.string ⟨n.toArray⟩ from by simp [upd, e0, e1])]; first | rfl | simp [go_sem]) fun F1 => ?_
    refine lyp F1 rfl HCC rfl (by omega) (wanted_none rfl) (v := Value.pointer (some ⟨hb, 0, none⟩)) (fun wr hwr => by simp only [execOp, (F1.eval 0 (by omega)).trans (show _ = Value.pointer (some ⟨hb, 0, none⟩) from by simp [upd, e0, e1])]; first | rfl | simp [go_sem]) fun F2 => ?_
    refine lyp F2 rfl HCC rfl (by omega) (wanted_none rfl) (v := Value.pointer (some ⟨hb, 0, none⟩)) (fun wr hwr => by simp only [execOp, (F2.eval 11 (by omega)).trans (show _ = Value.pointer (some ⟨hb, 0, none⟩) from by simp [upd, e0, e1])]; simp [go_sem]) fun F3 => ?_
    refine lyp F3 rfl HCC rfl (by omega) (wanted_none rfl) (v := Value.pointer (some ⟨hb, 1, none⟩)) (fun wr hwr => by simp only [execOp, (F3.eval 12 (by omega)).trans (show _ = Value.pointer (some ⟨hb, 0, none⟩) from by simp [upd, e0, e1])]; simp [go_sem]) fun F4 => ?_
    refine lyp F4 rfl HCC rfl (by omega) (wanted_none rfl) (v := Value.int .i64 rep) (fun wr hwr => by simp only [execOp, (F4.eval 13 (by omega)).trans (show _ = Value.pointer (some ⟨hb, 1, none⟩) from by simp [upd, e0, e1])]; simp [go_sem, V1 wr hwr]) fun F5 => ?_
    refine lcp F5 rfl HCC rfl (by omega) (wanted_none rfl) (g := 12) (args := #[Value.string ⟨n.toArray⟩, Value.int .i64 rep]) (by simp only [execOp, resolve, invoke, List.map_toArray, List.map_cons, List.map_nil, (F5.eval 10 (by omega)).trans (show _ = Value.string ⟨n.toArray⟩ from by simp [upd, e0, e1]), (F5.eval 14 (by omega)).trans (show _ = Value.int .i64 rep from by simp [upd, e0, e1])]; simp [go_sem, Act.eval]) (HHO.out (({ w with drawn := w.drawn + 1 } : World))) ?_
    rintro e w2 ⟨rfl, hb2⟩
    refine ⟨_, rfl, fun F6 => ?_⟩
    have HC2 : (fun wq => Below w.heap.size w wq) w2 := (Below.drew (Below.refl w.heap.size w)).trans hb2
    refine lyp F6 rfl HC2 rfl (by omega) (wanted_none rfl) (v := Value.pointer (some ⟨hb, 0, none⟩)) (fun wr hwr => by simp only [execOp, (F6.eval 0 (by omega)).trans (show _ = Value.pointer (some ⟨hb, 0, none⟩) from by simp [upd, e0, e1])]; first | rfl | simp [go_sem]) fun F7 => ?_
    refine lyp F7 rfl HC2 rfl (by omega) (wanted_none rfl) (v := Value.pointer (some ⟨hb, 0, none⟩)) (fun wr hwr => by simp only [execOp, (F7.eval 16 (by omega)).trans (show _ = Value.pointer (some ⟨hb, 0, none⟩) from by simp [upd, e0, e1])]; simp [go_sem]) fun F8 => ?_
    refine lyp F8 rfl HC2 rfl (by omega) (wanted_none rfl) (v := Value.pointer (some ⟨hb, 0, none⟩)) (fun wr hwr => by simp only [execOp, (F8.eval 17 (by omega)).trans (show _ = Value.pointer (some ⟨hb, 0, none⟩) from by simp [upd, e0, e1])]; simp [go_sem]) fun F9 => ?_
    refine lyp F9 rfl HC2 rfl (by omega) (wanted_none rfl) (v := Value.int .i64 me) (fun wr hwr => by simp only [execOp, (F9.eval 18 (by omega)).trans (show _ = Value.pointer (some ⟨hb, 0, none⟩) from by simp [upd, e0, e1])]; simp [go_sem, V0 wr hwr]) fun F10 => ?_
    refine lyp F10 rfl HC2 rfl (by omega) (wanted_none rfl) (v := Value.bool false) (fun wr hwr => by simp only [execOp, (F10.eval 15 (by omega)).trans (show _ = Value.int .i64 (homeN n rep) from by simp [upd, e0, e1]), (F10.eval 19 (by omega)).trans (show _ = Value.int .i64 me from by simp [upd, e0, e1])]; simp [go_sem, Act.eval, HP.out]) fun F11 => ?_
    refine lyp F11 rfl HC2 rfl (by omega) (wanted_none rfl) (v := Value.bool false) (fun wr hwr => by simp only [execOp, (F11.eval 20 (by omega)).trans (show _ = Value.bool false from by simp [upd, e0, e1])]; first | rfl | simp [go_sem]) fun F12 => ?_
    refine ⟨fun _ => HC2, ?_⟩
    refine hK _ _ ?_
    clear F0 F1 F2 F3 F4 F5 F6 F7 F8 F9 F10 F11 F12 e0 e1 HCC
    simp only [Act.put, List.setIfInBounds_toArray, List.set_cons_succ, List.set_cons_zero]

    have HTF : Hid _ := HT.out.more HC2
    have HCF : Hid (Chg (fun k => k = mh) w w2) := Chg.ofBelow _ HC2
    clear HC2 hb2
    go_wp2_with fail
    refine Calls.mono (HK.out _ HTF.out) ?_
    rintro e w' ⟨rfl, hw'⟩
    replace hw' := hw'.symm
    subst hw'
    rw [g3]
    go_wp2_with fail
    go_ret
    exact ⟨rfl, HTF.out, HCF.out⟩
  have g3f : knows n KN = false := by simpa using g3
  by_cases g4 : per ≤ (cntH me KN : Int)
  · have hc : makeCode me rep per KN n = 102 := by unfold makeCode; rw [if_neg g1, if_neg g2, if_neg g3, if_pos g4]
    rw [hc, if_neg (by decide)]
    have hdc : decide ((cntH me KN : Int) < per) = false := by simpa using g4
    clear hc hT hL hrep g1 g2 g3 g4 g2e
    go_enter Try.func24, Try.ntmps24
    go_wp2_with fail
    refine Calls.mono (HG.out _) ?_
    rintro e w' ⟨rfl, hw'⟩
    replace hw' := hw'.symm
    subst hw'
    rw [g1t]
    go_wp2_with fail
    rename_i K hK
    try rw [show ∀ a : Act, a.put none undef = a from fun _ => rfl]
    refine wp_region_mix (fun wq => Below w.heap.size w wq) (fun i => i == 5 || i == 99) 99 (by kernel_rfl) rfl (by kernel_rfl) (by kernel_rfl) (by kernel_rfl) ?_
    refine withFrP (N := 40) rfl ?_
    intro f0 F0 hff
    have e0 : f0 0 = Value.pointer (some ⟨hb, 0, none⟩) := hff 0
    have e1 : f0 1 = Value.string ⟨n.toArray⟩ := hff 1
    clear hff
    have HCC : (fun wq => Below w.heap.size w wq) (({ w with drawn := w.drawn + 1 } : World)) := (Below.drew (Below.refl w.heap.size w))
    have V0 : ∀ wr, Below w.heap.size w wr → wr.cell? ⟨hb, 0, none⟩ = some (.int .i64 me) := fun wr hw => (hw.cell (p := ⟨hb, 0, none⟩) (World.block_lt_of_cell? w _ HT.out.c0)).trans HT.out.c0
    have V1 : ∀ wr, Below w.heap.size w wr → wr.cell? ⟨hb, 1, none⟩ = some (.int .i64 rep) := fun wr hw => (hw.cell (p := ⟨hb, 1, none⟩) (World.block_lt_of_cell? w _ HT.out.c1)).trans HT.out.c1
    refine lyp F0 rfl HCC rfl (by omega) (wanted_none rfl) (v := Value.string ⟨n.toArray⟩) (fun wr hwr => by simp only [execOp, (F0.eval 1 (by omega)).trans (show _ = Value.string ⟨n.toArray⟩ from by simp [upd, e0, e1])]; first | rfl | simp [go_sem]) fun F1 => ?_
    refine lyp F1 rfl HCC rfl (by omega) (wanted_none rfl) (v := Value.pointer (some ⟨hb, 0, none⟩)) (fun wr hwr => by simp only [execOp, (F1.eval 0 (by omega)).trans (show _ = Value.pointer (some ⟨hb, 0, none⟩) from by simp [upd, e0, e1])]; first | rfl | simp [go_sem]) fun F2 => ?_
    refine lyp F2 rfl HCC rfl (by omega) (wanted_none rfl) (v := Value.pointer (some ⟨hb, 0, none⟩)) (fun wr hwr => by simp only [execOp, (F2.eval 11 (by omega)).trans (show _ = Value.pointer (some ⟨hb, 0, none⟩) from by simp [upd, e0, e1])]; simp [go_sem]) fun F3 => ?_
    refine lyp F3 rfl HCC rfl (by omega) (wanted_none rfl) (v := Value.pointer (some ⟨hb, 1, none⟩)) (fun wr hwr => by simp only [execOp, (F3.eval 12 (by omega)).trans (show _ = Value.pointer (some ⟨hb, 0, none⟩) from by simp [upd, e0, e1])]; simp [go_sem]) fun F4 => ?_
    refine lyp F4 rfl HCC rfl (by omega) (wanted_none rfl) (v := Value.int .i64 rep) (fun wr hwr => by simp only [execOp, (F4.eval 13 (by omega)).trans (show _ = Value.pointer (some ⟨hb, 1, none⟩) from by simp [upd, e0, e1])]; simp [go_sem, V1 wr hwr]) fun F5 => ?_
    refine lcp F5 rfl HCC rfl (by omega) (wanted_none rfl) (g := 12) (args := #[Value.string ⟨n.toArray⟩, Value.int .i64 rep]) (by simp only [execOp, resolve, invoke, List.map_toArray, List.map_cons, List.map_nil, (F5.eval 10 (by omega)).trans (show _ = Value.string ⟨n.toArray⟩ from by simp [upd, e0, e1]), (F5.eval 14 (by omega)).trans (show _ = Value.int .i64 rep from by simp [upd, e0, e1])]; simp [go_sem, Act.eval]) (HHO.out (({ w with drawn := w.drawn + 1 } : World))) ?_
    rintro e w2 ⟨rfl, hb2⟩
    refine ⟨_, rfl, fun F6 => ?_⟩
    have HC2 : (fun wq => Below w.heap.size w wq) w2 := (Below.drew (Below.refl w.heap.size w)).trans hb2
    refine lyp F6 rfl HC2 rfl (by omega) (wanted_none rfl) (v := Value.pointer (some ⟨hb, 0, none⟩)) (fun wr hwr => by simp only [execOp, (F6.eval 0 (by omega)).trans (show _ = Value.pointer (some ⟨hb, 0, none⟩) from by simp [upd, e0, e1])]; first | rfl | simp [go_sem]) fun F7 => ?_
    refine lyp F7 rfl HC2 rfl (by omega) (wanted_none rfl) (v := Value.pointer (some ⟨hb, 0, none⟩)) (fun wr hwr => by simp only [execOp, (F7.eval 16 (by omega)).trans (show _ = Value.pointer (some ⟨hb, 0, none⟩) from by simp [upd, e0, e1])]; simp [go_sem]) fun F8 => ?_
    refine lyp F8 rfl HC2 rfl (by omega) (wanted_none rfl) (v := Value.pointer (some ⟨hb, 0, none⟩)) (fun wr hwr => by simp only [execOp, (F8.eval 17 (by omega)).trans (show _ = Value.pointer (some ⟨hb, 0, none⟩) from by simp [upd, e0, e1])]; simp [go_sem]) fun F9 => ?_
    refine lyp F9 rfl HC2 rfl (by omega) (wanted_none rfl) (v := Value.int .i64 me) (fun wr hwr => by simp only [execOp, (F9.eval 18 (by omega)).trans (show _ = Value.pointer (some ⟨hb, 0, none⟩) from by simp [upd, e0, e1])]; simp [go_sem, V0 wr hwr]) fun F10 => ?_
    refine lyp F10 rfl HC2 rfl (by omega) (wanted_none rfl) (v := Value.bool false) (fun wr hwr => by simp only [execOp, (F10.eval 15 (by omega)).trans (show _ = Value.int .i64 (homeN n rep) from by simp [upd, e0, e1]), (F10.eval 19 (by omega)).trans (show _ = Value.int .i64 me from by simp [upd, e0, e1])]; simp [go_sem, Act.eval, HP.out]) fun F11 => ?_
    refine lyp F11 rfl HC2 rfl (by omega) (wanted_none rfl) (v := Value.bool false) (fun wr hwr => by simp only [execOp, (F11.eval 20 (by omega)).trans (show _ = Value.bool false from by simp [upd, e0, e1])]; first | rfl | simp [go_sem]) fun F12 => ?_
    refine ⟨fun _ => HC2, ?_⟩
    refine hK _ _ ?_
    clear F0 F1 F2 F3 F4 F5 F6 F7 F8 F9 F10 F11 F12 e0 e1 HCC
    simp only [Act.put, List.setIfInBounds_toArray, List.set_cons_succ, List.set_cons_zero]

    have HTF : Hid _ := HT.out.more HC2
    have HCF : Hid (Chg (fun k => k = mh) w w2) := Chg.ofBelow _ HC2
    have HC2' : Hid _ := HC2
    have c0 := HTF.out.c0
    clear HC2 hb2
    go_wp2_with fail
    refine Calls.mono (HK.out _ HTF.out) ?_
    rintro e w' ⟨rfl, hw'⟩
    replace hw' := hw'.symm
    subst hw'
    rw [g3f]
    go_wp2_with fail
    refine Calls.mono (HRM.out me _ HTF.out) ?_
    rintro e w3 ⟨rfl, hb3⟩
    rw [hdc]
    have HTG : Hid _ := HTF.out.more hb3
    have HCG : Hid (Chg (fun k => k = mh) w w3) := Chg.ofBelow _ (HC2'.out.trans (hb3.mono HC2'.out.size))
    clear hb3
    go_wp2_with fail
    go_ret
    exact ⟨rfl, HTG.out, HCG.out⟩
  · have hc : makeCode me rep per KN n = 0 := by unfold makeCode; rw [if_neg g1, if_neg g2, if_neg g3, if_neg g4]
    rw [hc, if_pos rfl]
    have hdc : decide ((cntH me KN : Int) < per) = true := by simpa using g4
    have HKP : Hid (∀ w' : World, Tb hb mh mw me rep per KN WT w' → _) := fun w' h => keep_any n me w' h (not_known g3f) (by omega)
    clear hc hT hL hrep g1 g2 g3 g4 g2e
    go_enter Try.func24, Try.ntmps24
    go_wp2_with fail
    refine Calls.mono (HG.out _) ?_
    rintro e w' ⟨rfl, hw'⟩
    replace hw' := hw'.symm
    subst hw'
    rw [g1t]
    go_wp2_with fail
    rename_i K hK
    try rw [show ∀ a : Act, a.put none undef = a from fun _ => rfl]
    refine wp_region_mix (fun wq => Below w.heap.size w wq) (fun i => i == 5 || i == 99) 99 (by kernel_rfl) rfl (by kernel_rfl) (by kernel_rfl) (by kernel_rfl) ?_
    refine withFrP (N := 40) rfl ?_
    intro f0 F0 hff
    have e0 : f0 0 = Value.pointer (some ⟨hb, 0, none⟩) := hff 0
    have e1 : f0 1 = Value.string ⟨n.toArray⟩ := hff 1
    clear hff
    have HCC : (fun wq => Below w.heap.size w wq) (({ w with drawn := w.drawn + 1 } : World)) := (Below.drew (Below.refl w.heap.size w))
    have V0 : ∀ wr, Below w.heap.size w wr → wr.cell? ⟨hb, 0, none⟩ = some (.int .i64 me) := fun wr hw => (hw.cell (p := ⟨hb, 0, none⟩) (World.block_lt_of_cell? w _ HT.out.c0)).trans HT.out.c0
    have V1 : ∀ wr, Below w.heap.size w wr → wr.cell? ⟨hb, 1, none⟩ = some (.int .i64 rep) := fun wr hw => (hw.cell (p := ⟨hb, 1, none⟩) (World.block_lt_of_cell? w _ HT.out.c1)).trans HT.out.c1
    refine lyp F0 rfl HCC rfl (by omega) (wanted_none rfl) (v := Value.string ⟨n.toArray⟩) (fun wr hwr => by simp only [execOp, (F0.eval 1 (by omega)).trans (show _ = Value.string ⟨n.toArray⟩ from by simp [upd, e0, e1])]; first | rfl | simp [go_sem]) fun F1 => ?_
    refine lyp F1 rfl HCC rfl (by omega) (wanted_none rfl) (v := Value.pointer (some ⟨hb, 0, none⟩)) (fun wr hwr => by simp only [execOp, (F1.eval 0 (by omega)).trans (show _ = Value.pointer (some ⟨hb, 0, none⟩) from by simp [upd, e0, e1])]; first | rfl | simp [go_sem]) fun F2 => ?_
    refine lyp F2 rfl HCC rfl (by omega) (wanted_none rfl) (v := Value.pointer (some ⟨hb, 0, none⟩)) (fun wr hwr => by simp only [execOp, (F2.eval 11 (by omega)).trans (show _ = Value.pointer (some ⟨hb, 0, none⟩) from by simp [upd, e0, e1])]; simp [go_sem]) fun F3 => ?_
    refine lyp F3 rfl HCC rfl (by omega) (wanted_none rfl) (v := Value.pointer (some ⟨hb, 1, none⟩)) (fun wr hwr => by simp only [execOp, (F3.eval 12 (by omega)).trans (show _ = Value.pointer (some ⟨hb, 0, none⟩) from by simp [upd, e0, e1])]; simp [go_sem]) fun F4 => ?_
    refine lyp F4 rfl HCC rfl (by omega) (wanted_none rfl) (v := Value.int .i64 rep) (fun wr hwr => by simp only [execOp, (F4.eval 13 (by omega)).trans (show _ = Value.pointer (some ⟨hb, 1, none⟩) from by simp [upd, e0, e1])]; simp [go_sem, V1 wr hwr]) fun F5 => ?_
    refine lcp F5 rfl HCC rfl (by omega) (wanted_none rfl) (g := 12) (args := #[Value.string ⟨n.toArray⟩, Value.int .i64 rep]) (by simp only [execOp, resolve, invoke, List.map_toArray, List.map_cons, List.map_nil, (F5.eval 10 (by omega)).trans (show _ = Value.string ⟨n.toArray⟩ from by simp [upd, e0, e1]), (F5.eval 14 (by omega)).trans (show _ = Value.int .i64 rep from by simp [upd, e0, e1])]; simp [go_sem, Act.eval]) (HHO.out (({ w with drawn := w.drawn + 1 } : World))) ?_
    rintro e w2 ⟨rfl, hb2⟩
    refine ⟨_, rfl, fun F6 => ?_⟩
    have HC2 : (fun wq => Below w.heap.size w wq) w2 := (Below.drew (Below.refl w.heap.size w)).trans hb2
    refine lyp F6 rfl HC2 rfl (by omega) (wanted_none rfl) (v := Value.pointer (some ⟨hb, 0, none⟩)) (fun wr hwr => by simp only [execOp, (F6.eval 0 (by omega)).trans (show _ = Value.pointer (some ⟨hb, 0, none⟩) from by simp [upd, e0, e1])]; first | rfl | simp [go_sem]) fun F7 => ?_
    refine lyp F7 rfl HC2 rfl (by omega) (wanted_none rfl) (v := Value.pointer (some ⟨hb, 0, none⟩)) (fun wr hwr => by simp only [execOp, (F7.eval 16 (by omega)).trans (show _ = Value.pointer (some ⟨hb, 0, none⟩) from by simp [upd, e0, e1])]; simp [go_sem]) fun F8 => ?_
    refine lyp F8 rfl HC2 rfl (by omega) (wanted_none rfl) (v := Value.pointer (some ⟨hb, 0, none⟩)) (fun wr hwr => by simp only [execOp, (F8.eval 17 (by omega)).trans (show _ = Value.pointer (some ⟨hb, 0, none⟩) from by simp [upd, e0, e1])]; simp [go_sem]) fun F9 => ?_
    refine lyp F9 rfl HC2 rfl (by omega) (wanted_none rfl) (v := Value.int .i64 me) (fun wr hwr => by simp only [execOp, (F9.eval 18 (by omega)).trans (show _ = Value.pointer (some ⟨hb, 0, none⟩) from by simp [upd, e0, e1])]; simp [go_sem, V0 wr hwr]) fun F10 => ?_
    refine lyp F10 rfl HC2 rfl (by omega) (wanted_none rfl) (v := Value.bool false) (fun wr hwr => by simp only [execOp, (F10.eval 15 (by omega)).trans (show _ = Value.int .i64 (homeN n rep) from by simp [upd, e0, e1]), (F10.eval 19 (by omega)).trans (show _ = Value.int .i64 me from by simp [upd, e0, e1])]; simp [go_sem, Act.eval, HP.out]) fun F11 => ?_
    refine lyp F11 rfl HC2 rfl (by omega) (wanted_none rfl) (v := Value.bool false) (fun wr hwr => by simp only [execOp, (F11.eval 20 (by omega)).trans (show _ = Value.bool false from by simp [upd, e0, e1])]; first | rfl | simp [go_sem]) fun F12 => ?_
    refine ⟨fun _ => HC2, ?_⟩
    refine hK _ _ ?_
    clear F0 F1 F2 F3 F4 F5 F6 F7 F8 F9 F10 F11 F12 e0 e1 HCC
    simp only [Act.put, List.setIfInBounds_toArray, List.set_cons_succ, List.set_cons_zero]

    have HTF : Hid _ := HT.out.more HC2
    have HC2' : Hid _ := HC2
    have c0 := HTF.out.c0
    clear HC2 hb2
    go_wp2_with fail
    refine Calls.mono (HK.out _ HTF.out) ?_
    rintro e w' ⟨rfl, hw'⟩
    replace hw' := hw'.symm
    subst hw'
    rw [g3f]
    go_wp2_with fail
    refine Calls.mono (HRM.out me _ HTF.out) ?_
    rintro e w3 ⟨rfl, hb3⟩
    rw [hdc]
    have HTG : Hid _ := HTF.out.more hb3
    have HB3 : Hid (Below w.heap.size w w3) := HC2'.out.trans (hb3.mono HC2'.out.size)
    have c03 := HTG.out.c0
    clear hb3 c0
    go_wp2_with fail
    refine Calls.mono (HKP.out _ HTG.out) ?_
    rintro e w4 ⟨rfl, hT4, hc4⟩
    have HT4 : Hid _ := hT4
    have HC4 : Hid (Chg (fun k => k = mh) w w4) := (Chg.ofBelow (fun k => k = mh) HB3.out).trans hc4 (fun _ _ e => e)
    clear hT4 hc4
    go_wp2_with fail
    go_ret
    exact ⟨rfl, HT4.out, HC4.out⟩
end Go.Proofs.Ytbjlaloofpdbfaa
