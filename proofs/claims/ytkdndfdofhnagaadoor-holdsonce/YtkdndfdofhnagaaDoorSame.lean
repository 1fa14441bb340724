import Derived.Test.YtkdndfdofhnagaaDoorPk
import Derived.Test.YtkdndfdofhnagaaDoorJE
namespace Go.Proofs.YtkdndfdofhnagaaDoor
open Go.RowKit Go.PlainAid
set_option linter.unusedVariables false
set_option linter.unusedSimpArgs false
section
variable {S : Sens} {L : Nat} {a : PA} {p : PS} {cr : CS} {w : World}
theorem PInv.c0 (h : PInv S L a p cr w) : w.cell? ⟨a.pb, 0, none⟩ = some (.pointer (some ⟨a.hb, 0, none⟩)) := h.box.cell 0
theorem PInv.c1 (h : PInv S L a p cr w) : w.cell? ⟨a.pb, 1, none⟩ = some (.pointer (some ⟨a.rb, 0, none⟩)) := h.box.cell 1
theorem PInv.c2 (h : PInv S L a p cr w) : w.cell? ⟨a.pb, 2, none⟩ = some (.pointer (some ⟨a.l0, 0, none⟩)) := h.box.cell 2
theorem PInv.c3 (h : PInv S L a p cr w) : w.cell? ⟨a.pb, 3, none⟩ = some (.pointer (some ⟨a.l1, 0, none⟩)) := h.box.cell 3
theorem PInv.c4 (h : PInv S L a p cr w) : w.cell? ⟨a.pb, 4, none⟩ = some (.pointer (some ⟨a.q0, 0, none⟩)) := h.box.cell 4
theorem PInv.c5 (h : PInv S L a p cr w) : w.cell? ⟨a.pb, 5, none⟩ = some (.pointer (some ⟨a.q1, 0, none⟩)) := h.box.cell 5
theorem PInv.c6 (h : PInv S L a p cr w) : w.cell? ⟨a.pb, 6, none⟩ = some p.z.vl := h.box.cell 6
theorem PInv.c7 (h : PInv S L a p cr w) : w.cell? ⟨a.pb, 7, none⟩ = some p.z.vm := h.box.cell 7
theorem PInv.c8 (h : PInv S L a p cr w) : w.cell? ⟨a.pb, 8, none⟩ = some (.int .i64 p.mark) := h.box.cell 8
theorem PInv.c9 (h : PInv S L a p cr w) : w.cell? ⟨a.pb, 9, none⟩ = some p.z.vf := h.box.cell 9
theorem PInv.c10 (h : PInv S L a p cr w) : w.cell? ⟨a.pb, 10, none⟩ = some p.z.vw := h.box.cell 10
end
theorem neq42 (d u : Int) (w : World) : (binOp .neq 42 (.agg #[.int .i64 d, .int .i64 u]) (.agg #[.int .i64 d, .int .i64 u])).run Tryd.prog w = .ok (.bool false) w := by
  simp [go_sem]
set_option maxRecDepth 100000 in
set_option maxHeartbeats 1600000 in
/-- same: the ledgers are as the document's. -/
theorem same_any {S : Sens} {L : Nat} {a : PA} {p : PS} (w : World) (h : PInv S L a p p.c w) :
    Calls Tryd.prog 31 #[.pointer (some ⟨a.pb, 0, none⟩)] w fun r w' => r = .returned (.bool true) ∧ Below w.heap.size w w' := by
  have H0 : Hid _ := h
  clear h
  go_enter Tryd.func31, Tryd.ntmps31
  go_wp2_with fail
  go_loopw [3] (fun i wr => (i = .int .i64 0 ∨ i = .int .i64 1 ∨ i = .int .i64 2) ∧ PInv S L a p p.c wr ∧ Below w.heap.size w wr) (fun i _ => 2 - (intOf i).toNat)
  case atStart => exact ⟨Or.inl rfl, H0.out, Below.refl _ _⟩
  case round =>
    obtain ⟨hi, hI, hB⟩ := hrel
    have HI : Hid _ := hI
    have HB : Hid _ := hB
    clear hI hB
    rcases hi with rfl | rfl | rfl
    · go_wp2_with fail
      rename_i K hK
      try rw [show ∀ a : Act, a.put none undef = a from fun _ => rfl]
      refine wp_region_mix (fun wr' => PInv S L a p p.c wr') (fun i => i == 6 || i == 13 || i == 22 || i == 29 || i == 32) 32 (by kernel_rfl) rfl (by kernel_rfl) (by kernel_rfl) (by kernel_rfl) ?_
      have hC : PInv S L a p p.c ({ wr with drawn := wr.drawn + 1 } : World) := HI.out.below ⟨rfl, rfl, rfl, Nat.le_refl _, fun _ _ => rfl⟩
      have hT : Below w.heap.size w ({ wr with drawn := wr.drawn + 1 } : World) := ⟨HB.out.os, HB.out.tape, HB.out.output, HB.out.size, HB.out.block⟩
      generalize ({ wr with drawn := wr.drawn + 1 } : World) = X at *
      refine withFrP (N := 40) rfl ?_
      intro f0 F0 hff
      have hs0 : f0 0 = Value.pointer (some ⟨a.pb, 0, none⟩) := hff 0
      have hs3 : f0 3 = Value.int .i64 0 := hff 3
      clear hff
      refine lyp F0 rfl hC rfl (by omega) (wanted_none rfl) (v := Value.pointer (some ⟨a.pb, 0, none⟩)) (fun wr hwr => by simp only [execOp, (F0.eval 0 (by omega)).trans (show _ = Value.pointer (some ⟨a.pb, 0, none⟩) from by simp [upd, hs0, hs3])]; first | rfl | simp [go_sem]) fun F1 => ?_
      refine lyp F1 rfl hC rfl (by omega) (wanted_none rfl) (v := Value.int .i64 0) (fun wr hwr => by simp only [execOp, (F1.eval 3 (by omega)).trans (show _ = Value.int .i64 0 from by simp [upd, hs0, hs3])]; first | rfl | simp [go_sem]) fun F2 => ?_
      refine lyp F2 rfl hC rfl (by omega) (wanted_none rfl) (v := Value.pointer (some ⟨a.pb, 0, none⟩)) (fun wr hwr => by simp only [execOp, (F2.eval 8 (by omega)).trans (show _ = Value.pointer (some ⟨a.pb, 0, none⟩) from by simp [upd, hs0, hs3])]; simp [go_sem]) fun F3 => ?_
      refine lyp F3 rfl hC rfl (by omega) (wanted_none rfl) (v := Value.pointer (some ⟨a.pb, 2, none⟩)) (fun wr hwr => by simp only [execOp, (F3.eval 10 (by omega)).trans (show _ = Value.pointer (some ⟨a.pb, 0, none⟩) from by simp [upd, hs0, hs3])]; simp [go_sem]) fun F4 => ?_
      refine lyp F4 rfl hC rfl (by omega) (wanted_none rfl) (v := Value.pointer (some ⟨a.pb, 2, none⟩)) (fun wr hwr => by simp only [execOp, (F4.eval 11 (by omega)).trans (show _ = Value.pointer (some ⟨a.pb, 2, none⟩) from by simp [upd, hs0, hs3]), (F4.eval 9 (by omega)).trans (show _ = Value.int .i64 0 from by simp [upd, hs0, hs3])]; simp [go_sem, Act.eval]) fun F5 => ?_
      refine lyp F5 rfl hC rfl (by omega) (wanted_none rfl) (v := Value.pointer (some ⟨a.l0, 0, none⟩)) (fun wr hwr => by simp only [execOp, (F5.eval 12 (by omega)).trans (show _ = Value.pointer (some ⟨a.pb, 2, none⟩) from by simp [upd, hs0, hs3])]; simp [go_sem, hwr.c2]) fun F6 => ?_
      refine lcp F6 rfl hC rfl (by omega) (wanted_none rfl) (g := 20) (args := #[Value.pointer (some ⟨a.l0, 0, none⟩)]) (by simp only [execOp, resolve, invoke, List.map_toArray, List.map_cons, List.map_nil, (F6.eval 13 (by omega)).trans (show _ = Value.pointer (some ⟨a.l0, 0, none⟩) from by simp [upd, hs0, hs3])]; simp [go_sem, Act.eval]) (rights_any X hC.core.l0) ?_
      rintro e1 w1 ⟨rfl, hb1⟩
      have hC1 := hC.below hb1
      have hT1 : Below w.heap.size w w1 := hT.trans (hb1.mono hT.size)
      refine ⟨_, rfl, fun F7 => ?_⟩
      refine lyp F7 rfl hC1 rfl (by omega) (wanted_none rfl) (v := Value.pointer (some ⟨a.pb, 0, none⟩)) (fun wr hwr => by simp only [execOp, (F7.eval 0 (by omega)).trans (show _ = Value.pointer (some ⟨a.pb, 0, none⟩) from by simp [upd, hs0, hs3])]; first | rfl | simp [go_sem]) fun F8 => ?_
      refine lyp F8 rfl hC1 rfl (by omega) (wanted_none rfl) (v := Value.int .i64 0) (fun wr hwr => by simp only [execOp, (F8.eval 3 (by omega)).trans (show _ = Value.int .i64 0 from by simp [upd, hs0, hs3])]; first | rfl | simp [go_sem]) fun F9 => ?_
      refine lyp F9 rfl hC1 rfl (by omega) (wanted_none rfl) (v := Value.pointer (some ⟨a.pb, 0, none⟩)) (fun wr hwr => by simp only [execOp, (F9.eval 15 (by omega)).trans (show _ = Value.pointer (some ⟨a.pb, 0, none⟩) from by simp [upd, hs0, hs3])]; simp [go_sem]) fun F10 => ?_
      refine lyp F10 rfl hC1 rfl (by omega) (wanted_none rfl) (v := Value.pointer (some ⟨a.pb, 4, none⟩)) (fun wr hwr => by simp only [execOp, (F10.eval 17 (by omega)).trans (show _ = Value.pointer (some ⟨a.pb, 0, none⟩) from by simp [upd, hs0, hs3])]; simp [go_sem]) fun F11 => ?_
      refine lyp F11 rfl hC1 rfl (by omega) (wanted_none rfl) (v := Value.pointer (some ⟨a.pb, 4, none⟩)) (fun wr hwr => by simp only [execOp, (F11.eval 18 (by omega)).trans (show _ = Value.pointer (some ⟨a.pb, 4, none⟩) from by simp [upd, hs0, hs3]), (F11.eval 16 (by omega)).trans (show _ = Value.int .i64 0 from by simp [upd, hs0, hs3])]; simp [go_sem, Act.eval]) fun F12 => ?_
      refine lyp F12 rfl hC1 rfl (by omega) (wanted_none rfl) (v := Value.pointer (some ⟨a.q0, 0, none⟩)) (fun wr hwr => by simp only [execOp, (F12.eval 19 (by omega)).trans (show _ = Value.pointer (some ⟨a.pb, 4, none⟩) from by simp [upd, hs0, hs3])]; simp [go_sem, hwr.c4]) fun F13 => ?_
      refine lcp F13 rfl hC1 rfl (by omega) (wanted_none rfl) (g := 52) (args := #[Value.pointer (some ⟨a.q0, 0, none⟩)]) (by simp only [execOp, resolve, invoke, List.map_toArray, List.map_cons, List.map_nil, (F13.eval 20 (by omega)).trans (show _ = Value.pointer (some ⟨a.q0, 0, none⟩) from by simp [upd, hs0, hs3])]; simp [go_sem, Act.eval]) (rrights_any w1 hC1.core.q0) ?_
      rintro e2 w2 ⟨rfl, hb2⟩
      have hC2 := hC1.below hb2
      have hT2 : Below w.heap.size w w2 := hT1.trans (hb2.mono hT1.size)
      refine ⟨_, rfl, fun F14 => ?_⟩
      refine lyp F14 rfl hC2 rfl (by omega) (wanted_none rfl) (v := Value.bool false) (fun wr hwr => by simp only [execOp, (F14.eval 14 (by omega)).trans (show _ = Value.agg #[.int .i64 p.c.s0.d, .int .i64 p.c.s0.u] from by simp [upd, hs0, hs3]), (F14.eval 21 (by omega)).trans (show _ = Value.agg #[.int .i64 p.c.s0.d, .int .i64 p.c.s0.u] from by simp [upd, hs0, hs3])]; simp [go_sem, neq42]) fun F15 => ?_
      refine lyp F15 rfl hC2 rfl (by omega) (wanted_none rfl) (v := Value.bool false) (fun wr hwr => by simp only [execOp, (F15.eval 22 (by omega)).trans (show _ = Value.bool false from by simp [upd, hs0, hs3])]; first | rfl | simp [go_sem]) fun F16 => ?_
      refine lyp F16 rfl hC2 rfl (by omega) (want_yes F16 rfl (e := 23) rfl (by omega) (show _ = Value.bool false from by simp [upd, hs0, hs3])) (v := Value.pointer (some ⟨a.pb, 0, none⟩)) (fun wr hwr => by simp only [execOp, (F16.eval 0 (by omega)).trans (show _ = Value.pointer (some ⟨a.pb, 0, none⟩) from by simp [upd, hs0, hs3])]; first | rfl | simp [go_sem]) fun F17 => ?_
      refine lyp F17 rfl hC2 rfl (by omega) (want_yes F17 rfl (e := 23) rfl (by omega) (show _ = Value.bool false from by simp [upd, hs0, hs3])) (v := Value.int .i64 0) (fun wr hwr => by simp only [execOp, (F17.eval 3 (by omega)).trans (show _ = Value.int .i64 0 from by simp [upd, hs0, hs3])]; first | rfl | simp [go_sem]) fun F18 => ?_
      refine lyp F18 rfl hC2 rfl (by omega) (want_yes F18 rfl (e := 23) rfl (by omega) (show _ = Value.bool false from by simp [upd, hs0, hs3])) (v := Value.pointer (some ⟨a.pb, 0, none⟩)) (fun wr hwr => by simp only [execOp, (F18.eval 24 (by omega)).trans (show _ = Value.pointer (some ⟨a.pb, 0, none⟩) from by simp [upd, hs0, hs3])]; simp [go_sem]) fun F19 => ?_
      refine lyp F19 rfl hC2 rfl (by omega) (want_yes F19 rfl (e := 23) rfl (by omega) (show _ = Value.bool false from by simp [upd, hs0, hs3])) (v := Value.pointer (some ⟨a.pb, 2, none⟩)) (fun wr hwr => by simp only [execOp, (F19.eval 26 (by omega)).trans (show _ = Value.pointer (some ⟨a.pb, 0, none⟩) from by simp [upd, hs0, hs3])]; simp [go_sem]) fun F20 => ?_
      refine lyp F20 rfl hC2 rfl (by omega) (want_yes F20 rfl (e := 23) rfl (by omega) (show _ = Value.bool false from by simp [upd, hs0, hs3])) (v := Value.pointer (some ⟨a.pb, 2, none⟩)) (fun wr hwr => by simp only [execOp, (F20.eval 27 (by omega)).trans (show _ = Value.pointer (some ⟨a.pb, 2, none⟩) from by simp [upd, hs0, hs3]), (F20.eval 25 (by omega)).trans (show _ = Value.int .i64 0 from by simp [upd, hs0, hs3])]; simp [go_sem, Act.eval]) fun F21 => ?_
      refine lyp F21 rfl hC2 rfl (by omega) (want_yes F21 rfl (e := 23) rfl (by omega) (show _ = Value.bool false from by simp [upd, hs0, hs3])) (v := Value.pointer (some ⟨a.l0, 0, none⟩)) (fun wr hwr => by simp only [execOp, (F21.eval 28 (by omega)).trans (show _ = Value.pointer (some ⟨a.pb, 2, none⟩) from by simp [upd, hs0, hs3])]; simp [go_sem, hwr.c2]) fun F22 => ?_
      refine lcp F22 rfl hC2 rfl (by omega) (want_yes F22 rfl (e := 23) rfl (by omega) (show _ = Value.bool false from by simp [upd, hs0, hs3])) (g := 25) (args := #[Value.pointer (some ⟨a.l0, 0, none⟩)]) (by simp only [execOp, resolve, invoke, List.map_toArray, List.map_cons, List.map_nil, (F22.eval 29 (by omega)).trans (show _ = Value.pointer (some ⟨a.l0, 0, none⟩) from by simp [upd, hs0, hs3])]; simp [go_sem, Act.eval]) (held_any w2 hC2.core.l0) ?_
      rintro e3 w3 ⟨rfl, rfl⟩
      refine ⟨_, rfl, fun F23 => ?_⟩
      refine lyp F23 rfl hC2 rfl (by omega) (want_yes F23 rfl (e := 23) rfl (by omega) (show _ = Value.bool false from by simp [upd, hs0, hs3])) (v := Value.pointer (some ⟨a.pb, 0, none⟩)) (fun wr hwr => by simp only [execOp, (F23.eval 0 (by omega)).trans (show _ = Value.pointer (some ⟨a.pb, 0, none⟩) from by simp [upd, hs0, hs3])]; first | rfl | simp [go_sem]) fun F24 => ?_
      refine lyp F24 rfl hC2 rfl (by omega) (want_yes F24 rfl (e := 23) rfl (by omega) (show _ = Value.bool false from by simp [upd, hs0, hs3])) (v := Value.int .i64 0) (fun wr hwr => by simp only [execOp, (F24.eval 3 (by omega)).trans (show _ = Value.int .i64 0 from by simp [upd, hs0, hs3])]; first | rfl | simp [go_sem]) fun F25 => ?_
      refine lyp F25 rfl hC2 rfl (by omega) (want_yes F25 rfl (e := 23) rfl (by omega) (show _ = Value.bool false from by simp [upd, hs0, hs3])) (v := Value.pointer (some ⟨a.pb, 0, none⟩)) (fun wr hwr => by simp only [execOp, (F25.eval 31 (by omega)).trans (show _ = Value.pointer (some ⟨a.pb, 0, none⟩) from by simp [upd, hs0, hs3])]; simp [go_sem]) fun F26 => ?_
      refine lyp F26 rfl hC2 rfl (by omega) (want_yes F26 rfl (e := 23) rfl (by omega) (show _ = Value.bool false from by simp [upd, hs0, hs3])) (v := Value.pointer (some ⟨a.pb, 4, none⟩)) (fun wr hwr => by simp only [execOp, (F26.eval 33 (by omega)).trans (show _ = Value.pointer (some ⟨a.pb, 0, none⟩) from by simp [upd, hs0, hs3])]; simp [go_sem]) fun F27 => ?_
      refine lyp F27 rfl hC2 rfl (by omega) (want_yes F27 rfl (e := 23) rfl (by omega) (show _ = Value.bool false from by simp [upd, hs0, hs3])) (v := Value.pointer (some ⟨a.pb, 4, none⟩)) (fun wr hwr => by simp only [execOp, (F27.eval 34 (by omega)).trans (show _ = Value.pointer (some ⟨a.pb, 4, none⟩) from by simp [upd, hs0, hs3]), (F27.eval 32 (by omega)).trans (show _ = Value.int .i64 0 from by simp [upd, hs0, hs3])]; simp [go_sem, Act.eval]) fun F28 => ?_
      refine lyp F28 rfl hC2 rfl (by omega) (want_yes F28 rfl (e := 23) rfl (by omega) (show _ = Value.bool false from by simp [upd, hs0, hs3])) (v := Value.pointer (some ⟨a.q0, 0, none⟩)) (fun wr hwr => by simp only [execOp, (F28.eval 35 (by omega)).trans (show _ = Value.pointer (some ⟨a.pb, 4, none⟩) from by simp [upd, hs0, hs3])]; simp [go_sem, hwr.c4]) fun F29 => ?_
      refine lcp F29 rfl hC2 rfl (by omega) (want_yes F29 rfl (e := 23) rfl (by omega) (show _ = Value.bool false from by simp [upd, hs0, hs3])) (g := 53) (args := #[Value.pointer (some ⟨a.q0, 0, none⟩)]) (by simp only [execOp, resolve, invoke, List.map_toArray, List.map_cons, List.map_nil, (F29.eval 36 (by omega)).trans (show _ = Value.pointer (some ⟨a.q0, 0, none⟩) from by simp [upd, hs0, hs3])]; simp [go_sem, Act.eval]) (rheld_any _ hC2.core.q0) ?_
      rintro e4 w4 ⟨rfl, rfl⟩
      refine ⟨_, rfl, fun F30 => ?_⟩
      refine lyp F30 rfl hC2 rfl (by omega) (want_yes F30 rfl (e := 23) rfl (by omega) (show _ = Value.bool false from by simp [upd, hs0, hs3])) (v := Value.bool false) (fun wr hwr => by simp only [execOp, (F30.eval 30 (by omega)).trans (show _ = Value.int .i64 p.c.s0.h from by simp [upd, hs0, hs3]), (F30.eval 37 (by omega)).trans (show _ = Value.int .i64 p.c.s0.h from by simp [upd, hs0, hs3])]; simp [go_sem, Act.eval]) fun F31 => ?_
      refine lyp F31 rfl hC2 rfl (by omega) (wanted_none rfl) (v := Value.bool false) (fun wr hwr => by simp only [execOp, (F31.eval 23 (by omega)).trans (show _ = Value.bool false from by simp [upd, hs0, hs3]), (F31.eval 38 (by omega)).trans (show _ = Value.bool false from by simp [upd, hs0, hs3])]; simp [go_sem, Act.eval]) fun F32 => ?_
      refine ⟨fun _ => hC2, ?_⟩
      refine hK _ _ ?_
      clear F0 F1 F2 F3 F4 F5 F6 F7 F8 F9 F10 F11 F12 F13 F14 F15 F16 F17 F18 F19 F20 F21 F22 F23 F24 F25 F26 F27 F28 F29 F30 F31 F32 hs0 hs3 hC hC1
      simp only [Act.put, List.setIfInBounds_toArray, List.set_cons_succ, List.set_cons_zero]
      have HI2 : Hid _ := hC2
      have HB2 : Hid _ := hT2
      clear hK hb1 hb2 hC2 hT hT1 hT2
      go_wp2_with fail
      go_roundw
      case rel => exact ⟨Or.inr (Or.inl (by go_num)), HI2.out, HB2.out⟩
      case measure => simp [intOf]
    · go_wp2_with fail
      rename_i K hK
      try rw [show ∀ a : Act, a.put none undef = a from fun _ => rfl]
      refine wp_region_mix (fun wr' => PInv S L a p p.c wr') (fun i => i == 6 || i == 13 || i == 22 || i == 29 || i == 32) 32 (by kernel_rfl) rfl (by kernel_rfl) (by kernel_rfl) (by kernel_rfl) ?_
      have hC : PInv S L a p p.c ({ wr with drawn := wr.drawn + 1 } : World) := HI.out.below ⟨rfl, rfl, rfl, Nat.le_refl _, fun _ _ => rfl⟩
      have hT : Below w.heap.size w ({ wr with drawn := wr.drawn + 1 } : World) := ⟨HB.out.os, HB.out.tape, HB.out.output, HB.out.size, HB.out.block⟩
      generalize ({ wr with drawn := wr.drawn + 1 } : World) = X at *
      refine withFrP (N := 40) rfl ?_
      intro f0 F0 hff
      have hs0 : f0 0 = Value.pointer (some ⟨a.pb, 0, none⟩) := hff 0
      have hs3 : f0 3 = Value.int .i64 1 := hff 3
      clear hff
      refine lyp F0 rfl hC rfl (by omega) (wanted_none rfl) (v := Value.pointer (some ⟨a.pb, 0, none⟩)) (fun wr hwr => by simp only [execOp, (F0.eval 0 (by omega)).trans (show _ = Value.pointer (some ⟨a.pb, 0, none⟩) from by simp [upd, hs0, hs3])]; first | rfl | simp [go_sem]) fun F1 => ?_
      refine lyp F1 rfl hC rfl (by omega) (wanted_none rfl) (v := Value.int .i64 1) (fun wr hwr => by simp only [execOp, (F1.eval 3 (by omega)).trans (show _ = Value.int .i64 1 from by simp [upd, hs0, hs3])]; first | rfl | simp [go_sem]) fun F2 => ?_
      refine lyp F2 rfl hC rfl (by omega) (wanted_none rfl) (v := Value.pointer (some ⟨a.pb, 0, none⟩)) (fun wr hwr => by simp only [execOp, (F2.eval 8 (by omega)).trans (show _ = Value.pointer (some ⟨a.pb, 0, none⟩) from by simp [upd, hs0, hs3])]; simp [go_sem]) fun F3 => ?_
      refine lyp F3 rfl hC rfl (by omega) (wanted_none rfl) (v := Value.pointer (some ⟨a.pb, 2, none⟩)) (fun wr hwr => by simp only [execOp, (F3.eval 10 (by omega)).trans (show _ = Value.pointer (some ⟨a.pb, 0, none⟩) from by simp [upd, hs0, hs3])]; simp [go_sem]) fun F4 => ?_
      refine lyp F4 rfl hC rfl (by omega) (wanted_none rfl) (v := Value.pointer (some ⟨a.pb, 3, none⟩)) (fun wr hwr => by simp only [execOp, (F4.eval 11 (by omega)).trans (show _ = Value.pointer (some ⟨a.pb, 2, none⟩) from by simp [upd, hs0, hs3]), (F4.eval 9 (by omega)).trans (show _ = Value.int .i64 1 from by simp [upd, hs0, hs3])]; simp [go_sem, Act.eval]) fun F5 => ?_
      refine lyp F5 rfl hC rfl (by omega) (wanted_none rfl) (v := Value.pointer (some ⟨a.l1, 0, none⟩)) (fun wr hwr => by simp only [execOp, (F5.eval 12 (by omega)).trans (show _ = Value.pointer (some ⟨a.pb, 3, none⟩) from by simp [upd, hs0, hs3])]; simp [go_sem, hwr.c3]) fun F6 => ?_
      refine lcp F6 rfl hC rfl (by omega) (wanted_none rfl) (g := 20) (args := #[Value.pointer (some ⟨a.l1, 0, none⟩)]) (by simp only [execOp, resolve, invoke, List.map_toArray, List.map_cons, List.map_nil, (F6.eval 13 (by omega)).trans (show _ = Value.pointer (some ⟨a.l1, 0, none⟩) from by simp [upd, hs0, hs3])]; simp [go_sem, Act.eval]) (rights_any X hC.core.l1) ?_
      rintro e1 w1 ⟨rfl, hb1⟩
      have hC1 := hC.below hb1
      have hT1 : Below w.heap.size w w1 := hT.trans (hb1.mono hT.size)
      refine ⟨_, rfl, fun F7 => ?_⟩
      refine lyp F7 rfl hC1 rfl (by omega) (wanted_none rfl) (v := Value.pointer (some ⟨a.pb, 0, none⟩)) (fun wr hwr => by simp only [execOp, (F7.eval 0 (by omega)).trans (show _ = Value.pointer (some ⟨a.pb, 0, none⟩) from by simp [upd, hs0, hs3])]; first | rfl | simp [go_sem]) fun F8 => ?_
      refine lyp F8 rfl hC1 rfl (by omega) (wanted_none rfl) (v := Value.int .i64 1) (fun wr hwr => by simp only [execOp, (F8.eval 3 (by omega)).trans (show _ = Value.int .i64 1 from by simp [upd, hs0, hs3])]; first | rfl | simp [go_sem]) fun F9 => ?_
      refine lyp F9 rfl hC1 rfl (by omega) (wanted_none rfl) (v := Value.pointer (some ⟨a.pb, 0, none⟩)) (fun wr hwr => by simp only [execOp, (F9.eval 15 (by omega)).trans (show _ = Value.pointer (some ⟨a.pb, 0, none⟩) from by simp [upd, hs0, hs3])]; simp [go_sem]) fun F10 => ?_
      refine lyp F10 rfl hC1 rfl (by omega) (wanted_none rfl) (v := Value.pointer (some ⟨a.pb, 4, none⟩)) (fun wr hwr => by simp only [execOp, (F10.eval 17 (by omega)).trans (show _ = Value.pointer (some ⟨a.pb, 0, none⟩) from by simp [upd, hs0, hs3])]; simp [go_sem]) fun F11 => ?_
      refine lyp F11 rfl hC1 rfl (by omega) (wanted_none rfl) (v := Value.pointer (some ⟨a.pb, 5, none⟩)) (fun wr hwr => by simp only [execOp, (F11.eval 18 (by omega)).trans (show _ = Value.pointer (some ⟨a.pb, 4, none⟩) from by simp [upd, hs0, hs3]), (F11.eval 16 (by omega)).trans (show _ = Value.int .i64 1 from by simp [upd, hs0, hs3])]; simp [go_sem, Act.eval]) fun F12 => ?_
      refine lyp F12 rfl hC1 rfl (by omega) (wanted_none rfl) (v := Value.pointer (some ⟨a.q1, 0, none⟩)) (fun wr hwr => by simp only [execOp, (F12.eval 19 (by omega)).trans (show _ = Value.pointer (some ⟨a.pb, 5, none⟩) from by simp [upd, hs0, hs3])]; simp [go_sem, hwr.c5]) fun F13 => ?_
      refine lcp F13 rfl hC1 rfl (by omega) (wanted_none rfl) (g := 52) (args := #[Value.pointer (some ⟨a.q1, 0, none⟩)]) (by simp only [execOp, resolve, invoke, List.map_toArray, List.map_cons, List.map_nil, (F13.eval 20 (by omega)).trans (show _ = Value.pointer (some ⟨a.q1, 0, none⟩) from by simp [upd, hs0, hs3])]; simp [go_sem, Act.eval]) (rrights_any w1 hC1.core.q1) ?_
      rintro e2 w2 ⟨rfl, hb2⟩
      have hC2 := hC1.below hb2
      have hT2 : Below w.heap.size w w2 := hT1.trans (hb2.mono hT1.size)
      refine ⟨_, rfl, fun F14 => ?_⟩
      refine lyp F14 rfl hC2 rfl (by omega) (wanted_none rfl) (v := Value.bool false) (fun wr hwr => by simp only [execOp, (F14.eval 14 (by omega)).trans (show _ = Value.agg #[.int .i64 p.c.s1.d, .int .i64 p.c.s1.u] from by simp [upd, hs0, hs3]), (F14.eval 21 (by omega)).trans (show _ = Value.agg #[.int .i64 p.c.s1.d, .int .i64 p.c.s1.u] from by simp [upd, hs0, hs3])]; simp [go_sem, neq42]) fun F15 => ?_
      refine lyp F15 rfl hC2 rfl (by omega) (wanted_none rfl) (v := Value.bool false) (fun wr hwr => by simp only [execOp, (F15.eval 22 (by omega)).trans (show _ = Value.bool false from by simp [upd, hs0, hs3])]; first | rfl | simp [go_sem]) fun F16 => ?_
      refine lyp F16 rfl hC2 rfl (by omega) (want_yes F16 rfl (e := 23) rfl (by omega) (show _ = Value.bool false from by simp [upd, hs0, hs3])) (v := Value.pointer (some ⟨a.pb, 0, none⟩)) (fun wr hwr => by simp only [execOp, (F16.eval 0 (by omega)).trans (show _ = Value.pointer (some ⟨a.pb, 0, none⟩) from by simp [upd, hs0, hs3])]; first | rfl | simp [go_sem]) fun F17 => ?_
      refine lyp F17 rfl hC2 rfl (by omega) (want_yes F17 rfl (e := 23) rfl (by omega) (show _ = Value.bool false from by simp [upd, hs0, hs3])) (v := Value.int .i64 1) (fun wr hwr => by simp only [execOp, (F17.eval 3 (by omega)).trans (show _ = Value.int .i64 1 from by simp [upd, hs0, hs3])]; first | rfl | simp [go_sem]) fun F18 => ?_
      refine lyp F18 rfl hC2 rfl (by omega) (want_yes F18 rfl (e := 23) rfl (by omega) (show _ = Value.bool false from by simp [upd, hs0, hs3])) (v := Value.pointer (some ⟨a.pb, 0, none⟩)) (fun wr hwr => by simp only [execOp, (F18.eval 24 (by omega)).trans (show _ = Value.pointer (some ⟨a.pb, 0, none⟩) from by simp [upd, hs0, hs3])]; simp [go_sem]) fun F19 => ?_
      refine lyp F19 rfl hC2 rfl (by omega) (want_yes F19 rfl (e := 23) rfl (by omega) (show _ = Value.bool false from by simp [upd, hs0, hs3])) (v := Value.pointer (some ⟨a.pb, 2, none⟩)) (fun wr hwr => by simp only [execOp, (F19.eval 26 (by omega)).trans (show _ = Value.pointer (some ⟨a.pb, 0, none⟩) from by simp [upd, hs0, hs3])]; simp [go_sem]) fun F20 => ?_
      refine lyp F20 rfl hC2 rfl (by omega) (want_yes F20 rfl (e := 23) rfl (by omega) (show _ = Value.bool false from by simp [upd, hs0, hs3])) (v := Value.pointer (some ⟨a.pb, 3, none⟩)) (fun wr hwr => by simp only [execOp, (F20.eval 27 (by omega)).trans (show _ = Value.pointer (some ⟨a.pb, 2, none⟩) from by simp [upd, hs0, hs3]), (F20.eval 25 (by omega)).trans (show _ = Value.int .i64 1 from by simp [upd, hs0, hs3])]; simp [go_sem, Act.eval]) fun F21 => ?_
      refine lyp F21 rfl hC2 rfl (by omega) (want_yes F21 rfl (e := 23) rfl (by omega) (show _ = Value.bool false from by simp [upd, hs0, hs3])) (v := Value.pointer (some ⟨a.l1, 0, none⟩)) (fun wr hwr => by simp only [execOp, (F21.eval 28 (by omega)).trans (show _ = Value.pointer (some ⟨a.pb, 3, none⟩) from by simp [upd, hs0, hs3])]; simp [go_sem, hwr.c3]) fun F22 => ?_
      refine lcp F22 rfl hC2 rfl (by omega) (want_yes F22 rfl (e := 23) rfl (by omega) (show _ = Value.bool false from by simp [upd, hs0, hs3])) (g := 25) (args := #[Value.pointer (some ⟨a.l1, 0, none⟩)]) (by simp only [execOp, resolve, invoke, List.map_toArray, List.map_cons, List.map_nil, (F22.eval 29 (by omega)).trans (show _ = Value.pointer (some ⟨a.l1, 0, none⟩) from by simp [upd, hs0, hs3])]; simp [go_sem, Act.eval]) (held_any w2 hC2.core.l1) ?_
      rintro e3 w3 ⟨rfl, rfl⟩
      refine ⟨_, rfl, fun F23 => ?_⟩
      refine lyp F23 rfl hC2 rfl (by omega) (want_yes F23 rfl (e := 23) rfl (by omega) (show _ = Value.bool false from by simp [upd, hs0, hs3])) (v := Value.pointer (some ⟨a.pb, 0, none⟩)) (fun wr hwr => by simp only [execOp, (F23.eval 0 (by omega)).trans (show _ = Value.pointer (some ⟨a.pb, 0, none⟩) from by simp [upd, hs0, hs3])]; first | rfl | simp [go_sem]) fun F24 => ?_
      refine lyp F24 rfl hC2 rfl (by omega) (want_yes F24 rfl (e := 23) rfl (by omega) (show _ = Value.bool false from by simp [upd, hs0, hs3])) (v := Value.int .i64 1) (fun wr hwr => by simp only [execOp, (F24.eval 3 (by omega)).trans (show _ = Value.int .i64 1 from by simp [upd, hs0, hs3])]; first | rfl | simp [go_sem]) fun F25 => ?_
      refine lyp F25 rfl hC2 rfl (by omega) (want_yes F25 rfl (e := 23) rfl (by omega) (show _ = Value.bool false from by simp [upd, hs0, hs3])) (v := Value.pointer (some ⟨a.pb, 0, none⟩)) (fun wr hwr => by simp only [execOp, (F25.eval 31 (by omega)).trans (show _ = Value.pointer (some ⟨a.pb, 0, none⟩) from by simp [upd, hs0, hs3])]; simp [go_sem]) fun F26 => ?_
      refine lyp F26 rfl hC2 rfl (by omega) (want_yes F26 rfl (e := 23) rfl (by omega) (show _ = Value.bool false from by simp [upd, hs0, hs3])) (v := Value.pointer (some ⟨a.pb, 4, none⟩)) (fun wr hwr => by simp only [execOp, (F26.eval 33 (by omega)).trans (show _ = Value.pointer (some ⟨a.pb, 0, none⟩) from by simp [upd, hs0, hs3])]; simp [go_sem]) fun F27 => ?_
      refine lyp F27 rfl hC2 rfl (by omega) (want_yes F27 rfl (e := 23) rfl (by omega) (show _ = Value.bool false from by simp [upd, hs0, hs3])) (v := Value.pointer (some ⟨a.pb, 5, none⟩)) (fun wr hwr => by simp only [execOp, (F27.eval 34 (by omega)).trans (show _ = Value.pointer (some ⟨a.pb, 4, none⟩) from by simp [upd, hs0, hs3]), (F27.eval 32 (by omega)).trans (show _ = Value.int .i64 1 from by simp [upd, hs0, hs3])]; simp [go_sem, Act.eval]) fun F28 => ?_
      refine lyp F28 rfl hC2 rfl (by omega) (want_yes F28 rfl (e := 23) rfl (by omega) (show _ = Value.bool false from by simp [upd, hs0, hs3])) (v := Value.pointer (some ⟨a.q1, 0, none⟩)) (fun wr hwr => by simp only [execOp, (F28.eval 35 (by omega)).trans (show _ = Value.pointer (some ⟨a.pb, 5, none⟩) from by simp [upd, hs0, hs3])]; simp [go_sem, hwr.c5]) fun F29 => ?_
      refine lcp F29 rfl hC2 rfl (by omega) (want_yes F29 rfl (e := 23) rfl (by omega) (show _ = Value.bool false from by simp [upd, hs0, hs3])) (g := 53) (args := #[Value.pointer (some ⟨a.q1, 0, none⟩)]) (by simp only [execOp, resolve, invoke, List.map_toArray, List.map_cons, List.map_nil, (F29.eval 36 (by omega)).trans (show _ = Value.pointer (some ⟨a.q1, 0, none⟩) from by simp [upd, hs0, hs3])]; simp [go_sem, Act.eval]) (rheld_any _ hC2.core.q1) ?_
      rintro e4 w4 ⟨rfl, rfl⟩
      refine ⟨_, rfl, fun F30 => ?_⟩
      refine lyp F30 rfl hC2 rfl (by omega) (want_yes F30 rfl (e := 23) rfl (by omega) (show _ = Value.bool false from by simp [upd, hs0, hs3])) (v := Value.bool false) (fun wr hwr => by simp only [execOp, (F30.eval 30 (by omega)).trans (show _ = Value.int .i64 p.c.s1.h from by simp [upd, hs0, hs3]), (F30.eval 37 (by omega)).trans (show _ = Value.int .i64 p.c.s1.h from by simp [upd, hs0, hs3])]; simp [go_sem, Act.eval]) fun F31 => ?_
      refine lyp F31 rfl hC2 rfl (by omega) (wanted_none rfl) (v := Value.bool false) (fun wr hwr => by simp only [execOp, (F31.eval 23 (by omega)).trans (show _ = Value.bool false from by simp [upd, hs0, hs3]), (F31.eval 38 (by omega)).trans (show _ = Value.bool false from by simp [upd, hs0, hs3])]; simp [go_sem, Act.eval]) fun F32 => ?_
      refine ⟨fun _ => hC2, ?_⟩
      refine hK _ _ ?_
      clear F0 F1 F2 F3 F4 F5 F6 F7 F8 F9 F10 F11 F12 F13 F14 F15 F16 F17 F18 F19 F20 F21 F22 F23 F24 F25 F26 F27 F28 F29 F30 F31 F32 hs0 hs3 hC hC1
      simp only [Act.put, List.setIfInBounds_toArray, List.set_cons_succ, List.set_cons_zero]
      have HI2 : Hid _ := hC2
      have HB2 : Hid _ := hT2
      clear hK hb1 hb2 hC2 hT hT1 hT2
      go_wp2_with fail
      go_roundw
      case rel => exact ⟨Or.inr (Or.inr (by go_num)), HI2.out, HB2.out⟩
      case measure => simp [intOf]
    · go_wp2_with fail
      go_ret
      exact ⟨rfl, HB.out⟩
end Go.Proofs.YtkdndfdofhnagaaDoor
