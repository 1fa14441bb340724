import Derived.Test.YtjojhhkbebddmaaR13
import Derived.Test.YtjojhhkbebddmaaL1
namespace Go.Proofs.Ytjojhhkbebddmaa
open Go.RowKit Go.PlainAid
set_option linter.unusedVariables false
set_option linter.unusedSimpArgs false
def ax0 : EV := newX 1 3
def ax1 : EV := begY ax0 false
theorem ax1_ok : begX ax0 10 4 0 false = ax1 := by
  unfold begX
  rw [if_pos]
  · rfl
  · unfold begC
    decide
theorem ax1_A : begA ax0 10 4 0 false = [⟨1, -1, ⟨1, 1⟩, e0⟩] := by
  unfold begA
  rw [if_pos (by unfold begC; decide), if_neg (by unfold hasB; decide)]
  decide
theorem ax1_L : lookA ax1 10 10 0 = [⟨4, 1, ⟨1, 1⟩, e0⟩] := by
  unfold lookA
  rw [if_pos (by unfold hasB; decide)]
  decide
theorem ax1_T : (!decide (tgtE ax1 3 = e0)) = true := by decide
set_option maxRecDepth 100000 in
set_option maxHeartbeats 6400000 in
theorem able_any (w : World) : Calls Try.prog 10 #[] w fun e w' => e = .returned (.bool true) ∧ Below w.heap.size w w' := by
  have HN : Hid (Calls Try.prog 16 #[.int .i64 1, .int .i64 3] w fun e w' => e = .returned (.tuple #[.pointer (some ⟨w.heap.size + 1, 0, none⟩), .int .i64 0]) ∧ MM w.heap.size (w.heap.size + 1) w.heap.size ax0 [] w' ∧ Below w.heap.size w w') := new_yes 1 3 w (by decide)
  have hx0 : ax0.Nm := newX_nm 1 3 (by decide)
  have HX0 : Hid _ := hx0
  have HX1 : Hid ax1.Nm := hx0.begY false
  have HS := neq_self
  clear hx0
  go_enter Try.func10, Try.ntmps10
  go_upto_region 4 with (first
    | (go_at_call 16; refine Calls.mono HN.out ?_; rintro e w1 ⟨rfl, hm1, hb1⟩)
    | fail)
  have HB : Hid (Calls Try.prog 17 #[.pointer (some ⟨w.heap.size + 1, 0, none⟩), .int .i64 10, .int .i64 4, .int .i64 0, .bool false] w1 fun e w' => ∃ v, e = .returned (.tuple #[v, .int .i64 0]) ∧ w'.ownsRow w1.heap.size 56 6 v 1 (flatA [⟨1, -1, ⟨1, 1⟩, e0⟩]) ∧ MM w.heap.size (w.heap.size + 1) w.heap.size ax1 [] w' ∧ Chg (mown (w.heap.size + 1) w.heap.size) w1 w') := by
    have := begin_any 10 4 0 false w1 hm1 HX0.out (by decide)
    rw [ax1_A, ax1_ok] at this
    exact this
  have HB1 : Hid _ := hb1
  clear hm1 hb1 HN
  go_upto_region 5 with (first
    | (go_at_call 17; refine Calls.mono HB.out ?_; rintro e w2 ⟨v2, rfl, ho2, hm2, hc2⟩)
    | fail)
  obtain ⟨ao2, cap2, hv2, hcc2, hcm2, hrd2⟩ := own_read ho2
  obtain ⟨q2, hq2, hl2, hlt2, hcell2⟩ := hrd2 (by decide)
  subst hq2
  subst hv2
  have a0 := hcell2 0 (.int .i64 1) rfl
  have a1 := hcell2 1 (.int .i64 (-1)) rfl
  have a2 := hcell2 2 (.int .i64 1) rfl
  have a3 := hcell2 3 (.int .i64 1) rfl
  have HL : Hid (Calls Try.prog 18 #[.pointer (some ⟨w.heap.size + 1, 0, none⟩), .int .i64 10, .int .i64 10, .int .i64 0] w2 fun e w' => ∃ v, e = .returned v ∧ w'.ownsRow w2.heap.size 56 6 v 1 (flatA [⟨4, 1, ⟨1, 1⟩, e0⟩]) ∧ MM w.heap.size (w.heap.size + 1) w.heap.size ax1 [] w' ∧ Chg (mown (w.heap.size + 1) w.heap.size) w2 w') := by
    have := look_any 10 10 0 w2 hm2 HX1.out
    rw [ax1_L] at this
    exact this
  have HC2 : Hid _ := hc2
  clear hm2 hc2 ho2 hcell2 hrd2 HB
  go_upto_region 8 with (first
    | (go_at_call 18; refine Calls.mono HL.out ?_; rintro e w3 ⟨v3, rfl, ho3, hm3, hc3⟩)
    | fail)
  obtain ⟨ao3, cap3, hv3, hcc3, hcm3, hrd3⟩ := own_read ho3
  obtain ⟨q3, hq3, hl3, hlt3, hcell3⟩ := hrd3 (by decide)
  subst hq3
  subst hv3
  have b0 := hcell3 0 (.int .i64 4) rfl
  have HF : Hid (Calls Try.prog 19 #[.pointer (some ⟨w.heap.size + 1, 0, none⟩)] w3 fun e w' => e = .returned (.bool true) ∧ Below w3.heap.size w3 w') := by
    have := frozen_any w3 hm3 (show ax1.n ≤ 16 by decide)
    rw [show (!decide (tgtE ax1 ax1.n = e0)) = true from ax1_T] at this
    exact this
  have HBW : Hid (Below w.heap.size w w3) := by
    have hz := HB1.out.size
    have hz2 := HC2.out.size
    exact (HB1.out.trans (HC2.out.below hz (fun k hk => by rcases hk with rfl | rfl <;> omega))).trans (hc3.below (Nat.le_trans hz hz2) (fun k hk => by rcases hk with rfl | rfl <;> omega))
  clear hm3 hc3 ho3 hcell3 hrd3 HL a0 a1 a2 a3
  go_wp2_with (first
    | (go_at_call 19; refine Calls.mono HF.out ?_; rintro e w4 ⟨rfl, hb4⟩)
    | fail)
  go_ret
  exact ⟨rfl, bgo HBW.out hb4 (Nat.le_refl _)⟩
end Go.Proofs.Ytjojhhkbebddmaa
