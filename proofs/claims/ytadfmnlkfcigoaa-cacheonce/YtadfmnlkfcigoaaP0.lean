import Derived.Test.YtadfmnlkfcigoaaRf3
namespace Go.Proofs.Ytadfmnlkfcigoaa
open Go.RowKit Go.PlainAid Go.Sort
set_option linter.unusedVariables false
set_option linter.unusedSimpArgs false
theorem callAt {w : World} {B : Nat} {v : Value} {CL : List (Int × Int)} (h : w.ownsRow B 32 2 v CL.length (flatC CL)) {q : Nat} {x : Int × Int} (hx : CL[q]? = some x) : ∃ g cap, v = .slice (some ⟨g, 0, none⟩) CL.length cap ∧ w.cell? ⟨g, q * 2, none⟩ = some (.int .i64 x.1) ∧ w.cell? ⟨g, q * 2 + 1, none⟩ = some (.int .i64 x.2) := by
  have hq := (List.getElem?_eq_some_iff.1 hx).1
  rcases h.2 with ⟨_, h0⟩ | ⟨g, cap, cur, rfl, _⟩
  · omega
  · have key : ∀ j u, j < 2 → (Ccs x)[j]? = some u → w.cell? ⟨g, q * 2 + j, none⟩ = some u := fun j u hj hu => by
      have := h.cells (g := g) rfl (q * 2 + j) u (by rw [flatC_get CL q j x hx hj]; exact hu)
      rw [addr_add, Nat.zero_add] at this
      exact this
    exact ⟨g, cap, rfl, key 0 _ (by decide) rfl, key 1 _ (by decide) rfl⟩
set_option maxRecDepth 100000 in
theorem num_any (x : Int) (w : World) : Calls Try.prog 11 #[.int .i64 x] w fun e w' => e = .returned (.int .i64 x) ∧ w' = w := by
  go_enter Try.func11, Try.ntmps11
  go_wp2_with fail
  go_ret
  exact ⟨rfl, rfl⟩
set_option maxRecDepth 100000 in
set_option maxHeartbeats 1600000 in
theorem sameC_any {w : World} {B1 B2 : Nat} {v1 v2 : Value} {xs ys : List (Int × Int)} (h1 : w.ownsRow B1 32 2 v1 xs.length (flatC xs)) (h2 : w.ownsRow B2 32 2 v2 ys.length (flatC ys)) (hl : xs.length ≤ 100000) :
    Calls Try.prog 26 #[v1, v2] w fun e w' => e = .returned (.bool (decide (xs = ys))) ∧ Below w.heap.size w w' := by
  obtain ⟨ao1, c1, hv1, _⟩ := own_slice h1
  obtain ⟨ao2, c2, hv2, _⟩ := own_slice h2
  subst hv1
  subst hv2
  by_cases hln : xs.length = ys.length
  · have H1 : Hid (World.ownsRow w B1 32 2 (.slice ao1 xs.length c1) xs.length (flatC xs)) := h1
    have H2 : Hid (World.ownsRow w B2 32 2 (.slice ao2 ys.length c2) ys.length (flatC ys)) := h2
    have H0 : Hid _ := Below.refl w.heap.size w
    have hlni : (xs.length : Int) = (ys.length : Int) := by omega
    have HLN : Hid _ := hln
    clear h1 h2
    go_enter Try.func26, Try.ntmps26
    go_wp2_with fail
    go_loopw [5] (fun s5 wr => ∃ q : Nat, q ≤ xs.length ∧ s5 = .int .i64 q ∧ xs.take q = ys.take q ∧ Below w.heap.size w wr) (fun s5 _ => xs.length - (intOf s5).toNat)
    case atStart => exact ⟨0, Nat.zero_le _, rfl, by simp, H0.out⟩
    case round =>
      obtain ⟨q, hq, rfl, hpre, hbel⟩ := hrel
      by_cases hq1 : q < xs.length
      · have hq2 : q < ys.length := by have := HLN.out; omega
        have hq1i : (q : Int) < (xs.length : Int) := by omega
        obtain ⟨x, hx⟩ : ∃ x, xs[q]? = some x := ⟨xs[q], List.getElem?_eq_getElem hq1⟩
        obtain ⟨y, hy⟩ : ∃ y, ys[q]? = some y := ⟨ys[q], List.getElem?_eq_getElem hq2⟩
        have r1 : World.ownsRow wr B1 32 2 (.slice ao1 xs.length c1) xs.length (flatC xs) := ownsRow_same H1.out (fun g e => hbel.block g (ownsRow_lt H1.out e).2)
        have r2 : World.ownsRow wr B2 32 2 (.slice ao2 ys.length c2) ys.length (flatC ys) := ownsRow_same H2.out (fun g e => hbel.block g (ownsRow_lt H2.out e).2)
        obtain ⟨g1, c1, hv1, X10, X11⟩ := callAt r1 hx
        obtain ⟨g2, c2, hv2, X20, X21⟩ := callAt r2 hy
        cases hv1
        cases hv2
        have HBE : Hid _ := hbel
        by_cases he : x = y
        · have HT : Hid (xs.take (q + 1) = ys.take (q + 1)) := show xs.take (q + 1) = ys.take (q + 1) from by rw [List.take_add_one, List.take_add_one, hx, hy, hpre, he]
          have HE : Hid (x.1 = y.1 ∧ x.2 = y.2) := ⟨congrArg Prod.fst he, congrArg Prod.snd he⟩
          clear hpre hx hy he r1 r2 hbel
          go_wp2_with fail
          rename_i K hK
          try rw [show ∀ a : Act, a.put none undef = a from fun _ => rfl]
          refine wp_region_mix (fun wz => Below wr.heap.size wr wz) (fun i => i == 99) 99 (by kernel_rfl) rfl (by kernel_rfl) (by kernel_rfl) (by kernel_rfl) ?_
          refine withFrP (N := 26) rfl ?_
          intro f0 F0 hff
          have e0 : f0 0 = Value.slice (some ⟨g1, 0, none⟩) xs.length c1 := hff 0
          have e1 : f0 1 = Value.slice (some ⟨g2, 0, none⟩) ys.length c2 := hff 1
          have e5 : f0 5 = Value.int .i64 (q : Int) := hff 5
          clear hff
          have HCC : (fun wz => Below wr.heap.size wr wz) (({ wr with drawn := wr.drawn + 1 } : World)) := (Below.drew (Below.refl wr.heap.size wr))
          have V10 : ∀ wz, Below wr.heap.size wr wz → wz.cell? ⟨g1, q * 2, none⟩ = some (.int .i64 x.1) := fun wz hw => (hw.cell (p := ⟨g1, q * 2, none⟩) (World.block_lt_of_cell? wr _ X10)).trans X10
          have V11 : ∀ wz, Below wr.heap.size wr wz → wz.cell? ⟨g1, q * 2 + 1, none⟩ = some (.int .i64 x.2) := fun wz hw => (hw.cell (p := ⟨g1, q * 2 + 1, none⟩) (World.block_lt_of_cell? wr _ X11)).trans X11
          have V20 : ∀ wz, Below wr.heap.size wr wz → wz.cell? ⟨g2, q * 2, none⟩ = some (.int .i64 y.1) := fun wz hw => (hw.cell (p := ⟨g2, q * 2, none⟩) (World.block_lt_of_cell? wr _ X20)).trans X20
          have V21 : ∀ wz, Below wr.heap.size wr wz → wz.cell? ⟨g2, q * 2 + 1, none⟩ = some (.int .i64 y.2) := fun wz hw => (hw.cell (p := ⟨g2, q * 2 + 1, none⟩) (World.block_lt_of_cell? wr _ X21)).trans X21
          refine lyp F0 rfl HCC rfl (by omega) (wanted_none rfl) (v := Value.slice (some ⟨g1, 0, none⟩) xs.length c1) (fun wr hwr => by simp only [execOp, (F0.eval 0 (by omega)).trans (show _ = Value.slice (some ⟨g1, 0, none⟩) xs.length c1 from by simp [upd, e0, e1, e5])]; first | rfl | simp [go_sem]) fun F1 => ?_
          refine lyp F1 rfl HCC rfl (by omega) (wanted_none rfl) (v := Value.int .i64 (q : Int)) (fun wr hwr => by simp only [execOp, (F1.eval 5 (by omega)).trans (show _ = Value.int .i64 (q : Int) from by simp [upd, e0, e1, e5])]; first | rfl | simp [go_sem]) fun F2 => ?_
          refine lyp F2 rfl HCC rfl (by omega) (wanted_none rfl) (v := Value.pointer (some ⟨g1, q * 2, none⟩)) (fun wr hwr => by simp only [execOp, (F2.eval 17 (by omega)).trans (show _ = Value.slice (some ⟨g1, 0, none⟩) xs.length c1 from by simp [upd, e0, e1, e5]), (F2.eval 18 (by omega)).trans (show _ = Value.int .i64 (q : Int) from by simp [upd, e0, e1, e5])]; simp [go_sem, hq1]) fun F3 => ?_
          refine lyp F3 rfl HCC rfl (by omega) (wanted_none rfl) (v := Value.agg #[.int .i64 x.1, .int .i64 x.2]) (fun wr hwr => by simp only [execOp, (F3.eval 19 (by omega)).trans (show _ = Value.pointer (some ⟨g1, q * 2, none⟩) from by simp [upd, e0, e1, e5])]; simp [go_sem, V10 _ hwr, V11 _ hwr]) fun F4 => ?_
          refine lyp F4 rfl HCC rfl (by omega) (wanted_none rfl) (v := Value.slice (some ⟨g2, 0, none⟩) ys.length c2) (fun wr hwr => by simp only [execOp, (F4.eval 1 (by omega)).trans (show _ = Value.slice (some ⟨g2, 0, none⟩) ys.length c2 from by simp [upd, e0, e1, e5])]; first | rfl | simp [go_sem]) fun F5 => ?_
          refine lyp F5 rfl HCC rfl (by omega) (wanted_none rfl) (v := Value.int .i64 (q : Int)) (fun wr hwr => by simp only [execOp, (F5.eval 5 (by omega)).trans (show _ = Value.int .i64 (q : Int) from by simp [upd, e0, e1, e5])]; first | rfl | simp [go_sem]) fun F6 => ?_
          refine lyp F6 rfl HCC rfl (by omega) (wanted_none rfl) (v := Value.pointer (some ⟨g2, q * 2, none⟩)) (fun wr hwr => by simp only [execOp, (F6.eval 21 (by omega)).trans (show _ = Value.slice (some ⟨g2, 0, none⟩) ys.length c2 from by simp [upd, e0, e1, e5]), (F6.eval 22 (by omega)).trans (show _ = Value.int .i64 (q : Int) from by simp [upd, e0, e1, e5])]; simp [go_sem, hq2]) fun F7 => ?_
          refine lyp F7 rfl HCC rfl (by omega) (wanted_none rfl) (v := Value.agg #[.int .i64 y.1, .int .i64 y.2]) (fun wr hwr => by simp only [execOp, (F7.eval 23 (by omega)).trans (show _ = Value.pointer (some ⟨g2, q * 2, none⟩) from by simp [upd, e0, e1, e5])]; simp [go_sem, V20 _ hwr, V21 _ hwr]) fun F8 => ?_
          refine lyp F8 rfl HCC rfl (by omega) (wanted_none rfl) (v := Value.bool false) (fun wr hwr => by simp only [execOp, (F8.eval 20 (by omega)).trans (show _ = Value.agg #[.int .i64 x.1, .int .i64 x.2] from by simp [upd, e0, e1, e5]), (F8.eval 24 (by omega)).trans (show _ = Value.agg #[.int .i64 y.1, .int .i64 y.2] from by simp [upd, e0, e1, e5])]; simp [go_sem, HE.out]) fun F9 => ?_
          refine ⟨fun _ => HCC, ?_⟩
          refine hK _ _ ?_
          clear F0 F1 F2 F3 F4 F5 F6 F7 F8 F9 e0 e1 e5 V10 V11 V20 V21
          simp only [Act.put, List.setIfInBounds_toArray, List.set_cons_succ, List.set_cons_zero]

          have HB2 : Hid (Below w.heap.size w ({ wr with drawn := wr.drawn + 1 } : World)) := HBE.out.trans (HCC.mono HBE.out.size)
          clear HCC X10 X11 X20 X21
          go_wp2_with fail
          go_roundw
          case rel => exact ⟨q + 1, by omega, by go_num, HT.out, HB2.out⟩
          case measure => simp [intOf]; omega
        · have HE : Hid (¬ (x.1 = y.1 ∧ x.2 = y.2)) := fun h => he (Prod.ext h.1 h.2)
          have HR : Hid (decide (xs = ys) = false) := show decide (xs = ys) = false from by
            simp only [decide_eq_false_iff_not]
            intro e
            rw [e, hy] at hx
            cases hx
            exact he rfl
          clear hpre hx hy he r1 r2 hbel
          go_wp2_with fail
          rename_i K hK
          try rw [show ∀ a : Act, a.put none undef = a from fun _ => rfl]
          refine wp_region_mix (fun wz => Below wr.heap.size wr wz) (fun i => i == 99) 99 (by kernel_rfl) rfl (by kernel_rfl) (by kernel_rfl) (by kernel_rfl) ?_
          refine withFrP (N := 26) rfl ?_
          intro f0 F0 hff
          have e0 : f0 0 = Value.slice (some ⟨g1, 0, none⟩) xs.length c1 := hff 0
          have e1 : f0 1 = Value.slice (some ⟨g2, 0, none⟩) ys.length c2 := hff 1
          have e5 : f0 5 = Value.int .i64 (q : Int) := hff 5
          clear hff
          have HCC : (fun wz => Below wr.heap.size wr wz) (({ wr with drawn := wr.drawn + 1 } : World)) := (Below.drew (Below.refl wr.heap.size wr))
          have V10 : ∀ wz, Below wr.heap.size wr wz → wz.cell? ⟨g1, q * 2, none⟩ = some (.int .i64 x.1) := fun wz hw => (hw.cell (p := ⟨g1, q * 2, none⟩) (World.block_lt_of_cell? wr _ X10)).trans X10
          have V11 : ∀ wz, Below wr.heap.size wr wz → wz.cell? ⟨g1, q * 2 + 1, none⟩ = some (.int .i64 x.2) := fun wz hw => (hw.cell (p := ⟨g1, q * 2 + 1, none⟩) (World.block_lt_of_cell? wr _ X11)).trans X11
          have V20 : ∀ wz, Below wr.heap.size wr wz → wz.cell? ⟨g2, q * 2, none⟩ = some (.int .i64 y.1) := fun wz hw => (hw.cell (p := ⟨g2, q * 2, none⟩) (World.block_lt_of_cell? wr _ X20)).trans X20
          have V21 : ∀ wz, Below wr.heap.size wr wz → wz.cell? ⟨g2, q * 2 + 1, none⟩ = some (.int .i64 y.2) := fun wz hw => (hw.cell (p := ⟨g2, q * 2 + 1, none⟩) (World.block_lt_of_cell? wr _ X21)).trans X21
          refine lyp F0 rfl HCC rfl (by omega) (wanted_none rfl) (v := Value.slice (some ⟨g1, 0, none⟩) xs.length c1) (fun wr hwr => by simp only [execOp, (F0.eval 0 (by omega)).trans (show _ = Value.slice (some ⟨g1, 0, none⟩) xs.length c1 from by simp [upd, e0, e1, e5])]; first | rfl | simp [go_sem]) fun F1 => ?_
          refine lyp F1 rfl HCC rfl (by omega) (wanted_none rfl) (v := Value.int .i64 (q : Int)) (fun wr hwr => by simp only [execOp, (F1.eval 5 (by omega)).trans (show _ = Value.int .i64 (q : Int) from by simp [upd, e0, e1, e5])]; first | rfl | simp [go_sem]) fun F2 => ?_
          refine lyp F2 rfl HCC rfl (by omega) (wanted_none rfl) (v := Value.pointer (some ⟨g1, q * 2, none⟩)) (fun wr hwr => by simp only [execOp, (F2.eval 17 (by omega)).trans (show _ = Value.slice (some ⟨g1, 0, none⟩) xs.length c1 from by simp [upd, e0, e1, e5]), (F2.eval 18 (by omega)).trans (show _ = Value.int .i64 (q : Int) from by simp [upd, e0, e1, e5])]; simp [go_sem, hq1]) fun F3 => ?_
          refine lyp F3 rfl HCC rfl (by omega) (wanted_none rfl) (v := Value.agg #[.int .i64 x.1, .int .i64 x.2]) (fun wr hwr => by simp only [execOp, (F3.eval 19 (by omega)).trans (show _ = Value.pointer (some ⟨g1, q * 2, none⟩) from by simp [upd, e0, e1, e5])]; simp [go_sem, V10 _ hwr, V11 _ hwr]) fun F4 => ?_
          refine lyp F4 rfl HCC rfl (by omega) (wanted_none rfl) (v := Value.slice (some ⟨g2, 0, none⟩) ys.length c2) (fun wr hwr => by simp only [execOp, (F4.eval 1 (by omega)).trans (show _ = Value.slice (some ⟨g2, 0, none⟩) ys.length c2 from by simp [upd, e0, e1, e5])]; first | rfl | simp [go_sem]) fun F5 => ?_
          refine lyp F5 rfl HCC rfl (by omega) (wanted_none rfl) (v := Value.int .i64 (q : Int)) (fun wr hwr => by simp only [execOp, (F5.eval 5 (by omega)).trans (show _ = Value.int .i64 (q : Int) from by simp [upd, e0, e1, e5])]; first | rfl | simp [go_sem]) fun F6 => ?_
          refine lyp F6 rfl HCC rfl (by omega) (wanted_none rfl) (v := Value.pointer (some ⟨g2, q * 2, none⟩)) (fun wr hwr => by simp only [execOp, (F6.eval 21 (by omega)).trans (show _ = Value.slice (some ⟨g2, 0, none⟩) ys.length c2 from by simp [upd, e0, e1, e5]), (F6.eval 22 (by omega)).trans (show _ = Value.int .i64 (q : Int) from by simp [upd, e0, e1, e5])]; simp [go_sem, hq2]) fun F7 => ?_
          refine lyp F7 rfl HCC rfl (by omega) (wanted_none rfl) (v := Value.agg #[.int .i64 y.1, .int .i64 y.2]) (fun wr hwr => by simp only [execOp, (F7.eval 23 (by omega)).trans (show _ = Value.pointer (some ⟨g2, q * 2, none⟩) from by simp [upd, e0, e1, e5])]; simp [go_sem, V20 _ hwr, V21 _ hwr]) fun F8 => ?_
          refine lyp F8 rfl HCC rfl (by omega) (wanted_none rfl) (v := Value.bool true) (fun wr hwr => by simp only [execOp, (F8.eval 20 (by omega)).trans (show _ = Value.agg #[.int .i64 x.1, .int .i64 x.2] from by simp [upd, e0, e1, e5]), (F8.eval 24 (by omega)).trans (show _ = Value.agg #[.int .i64 y.1, .int .i64 y.2] from by simp [upd, e0, e1, e5])]; simp [go_sem, HE.out]; first | done | (intro h1 h2; exact HE.out ⟨h1, h2⟩)) fun F9 => ?_
          refine ⟨fun _ => HCC, ?_⟩
          refine hK _ _ ?_
          clear F0 F1 F2 F3 F4 F5 F6 F7 F8 F9 e0 e1 e5 V10 V11 V20 V21
          simp only [Act.put, List.setIfInBounds_toArray, List.set_cons_succ, List.set_cons_zero]

          have HB2 : Hid (Below w.heap.size w ({ wr with drawn := wr.drawn + 1 } : World)) := HBE.out.trans (HCC.mono HBE.out.size)
          clear HCC X10 X11 X20 X21
          go_wp2_with fail
          go_ret
          exact ⟨by rw [HR.out]; rfl, HB2.out⟩
      · have hq1n : ¬ (q : Int) < (xs.length : Int) := by omega
        have HR : Hid (decide (xs = ys) = true) := show decide (xs = ys) = true from by
          rw [List.take_of_length_le (by omega), List.take_of_length_le (by have := HLN.out; omega)] at hpre
          simpa using hpre
        have HBE : Hid _ := hbel
        clear hpre hbel
        go_wp2_with fail
        go_ret
        exact ⟨by rw [HR.out]; rfl, HBE.out⟩
  · have hlni : ¬ (xs.length : Int) = (ys.length : Int) := by omega
    have HR : Hid (decide (xs = ys) = false) := show decide (xs = ys) = false from by
      simp only [decide_eq_false_iff_not]
      intro e
      exact hln (by rw [e])
    clear h1 h2 hln
    go_enter Try.func26, Try.ntmps26
    go_wp2_with fail
    go_ret
    exact ⟨by rw [HR.out]; rfl, Below.refl _ _⟩
end Go.Proofs.Ytadfmnlkfcigoaa
