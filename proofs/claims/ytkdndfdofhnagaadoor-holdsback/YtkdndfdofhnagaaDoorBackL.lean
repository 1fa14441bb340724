import Derived.Test.YtkdndfdofhnagaaDoorBack
namespace Go.Proofs.YtkdndfdofhnagaaDoor
open Go.RowKit Go.PlainAid
set_option linter.unusedVariables false
set_option linter.unusedSimpArgs false
/-- A slice of numbers that came in. -/
def Came (W : World) (ao : Option Addr) (N : Nat) (zs : List Int) : Prop := zs.length = N ∧ (0 < N → ∃ b off, ao = some ⟨b, off, none⟩ ∧ ∀ (j : Nat) (z : Int), zs[j]? = some z → W.cell? ⟨b, off + j, none⟩ = some (.int .i64 z))
theorem Came.at {W W' : World} {ao : Option Addr} {N : Nat} {zs : List Int} (h : Came W ao N zs) (hb : Below W.heap.size W W') {i : Nat} (hi : i < N) : ∃ b off z, ao = some ⟨b, off, none⟩ ∧ W'.cell? ⟨b, off + i, none⟩ = some (.int .i64 z) := by
  obtain ⟨b, off, e, hc⟩ := h.2 (by omega)
  have hz : zs[i]? = some (zs[i]'(by rw [h.1]; exact hi)) := List.getElem?_eq_getElem _
  have h1 := hc i _ hz
  exact ⟨b, off, _, e, (hb.cell (p := ⟨b, off + i, none⟩) (World.block_lt_of_cell? _ _ h1)).trans h1⟩
theorem field42a (a d : Int) (w : World) : (Instr.field 42 (.agg #[.int .i64 a, .int .i64 d]) 0).run Tryd.prog w = .ok (.int .i64 a) w := by kernel_rfl
set_option maxRecDepth 100000 in
set_option maxHeartbeats 3200000 in
theorem holdsBack_law {S : Sens} (ao1 ao2 : Option Addr) (N1 N2 cap1 cap2 : Nat) (zs1 zs2 : List Int) (W : World) (hS : Sen S W.heap.size W) (h1 : Came W ao1 N1 zs1) (h2 : Came W ao2 N2 zs2) (hm1 : N1 ≤ maxLen) (hm2 : N2 ≤ maxLen) :
    Calls Tryd.prog 5 #[.slice ao1 N1 cap1, .slice ao2 N2 cap2] W fun e W' => e = .returned (.bool true) ∧ Below W.heap.size W W' := by
  have hm1' : N1 ≤ 9223372036854775807 := by simpa [maxLen] using hm1
  have hm2' : N2 ≤ 9223372036854775807 := by simpa [maxLen] using hm2
  have HA : Hid _ := alive_any W hS (Nat.le_refl _)
  have H1 : Hid _ := h1
  have H2 : Hid _ := h2
  have HS : Hid _ := hS
  clear hS h1 h2 hm1 hm2
  by_cases hbig : (16 : Int) < N1
  · go_enter Tryd.func5, Tryd.ntmps5
    go_wp2_with fail
    go_ret
    exact ⟨rfl, Below.refl _ _⟩
  by_cases hfew : (N2 : Int) < N1
  · go_enter Tryd.func5, Tryd.ntmps5
    go_wp2_with fail
    go_ret
    exact ⟨rfl, Below.refl _ _⟩
  have hN16 : N1 ≤ 16 := by omega
  have hN12 : N1 ≤ N2 := by omega
  have hnm := num_any
  go_enter Tryd.func5, Tryd.ntmps5
  go_wp2_with fail
  refine Calls.mono HA.out ?_
  rintro e w1 ⟨rfl, hb1⟩
  have HB1 : Hid _ := hb1
  have HN : Hid _ := bnew_any 0 16 w1 rfl
  clear hb1
  go_wp2_with fail
  refine Calls.mono HN.out ?_
  rintro e w2 ⟨rfl, hB2, hb2, hz2⟩
  have hk : okAmt 1099511627776 = true := by decide
  have HL : Hid _ := new_any 1099511627776 w2 hk
  have HB2 : Hid _ := hB2
  have Hb2 : Hid _ := hb2
  have HZ2 : Hid _ := hz2
  clear hB2 hb2 hz2 hk
  go_wp2_with fail
  refine Calls.mono HL.out ?_
  rintro e w3 ⟨rfl, rfl⟩
  have hgr : Below w2.heap.size w2 (w2.alloc (.cells (LS.mk 0 0 0 1099511627776 0).cs 71)) := (Below.refl _ _).alloc (Nat.le_refl _) _
  have hS3 : BkS S (w1.heap.size + 1) w1.heap.size w2.heap.size (bB 0) ⟨0, 0, 0, 1099511627776, 0⟩ W (w2.alloc (.cells (LS.mk 0 0 0 1099511627776 0).cs 71)) := by
    have q1 := HB1.out.size
    have q2 := HZ2.out
    have b2 : Below W.heap.size W w2 := HB1.out.trans (Hb2.out.mono q1)
    have b3 : Below W.heap.size W (w2.alloc (.cells (LS.mk 0 0 0 1099511627776 0).cs 71)) := b2.trans (hgr.mono b2.size)
    exact ⟨HS.out.below b3, HB2.out.keep (Chg.ofBelow (fun _ => False) hgr) (by simp) (by simp), heap_alloc_new w2 _, b3, by omega, by omega, by omega⟩
  have hin := in_any (s := ⟨0, 0, 0, 1099511627776, 0⟩) _ hS3.sen hS3.led ⟨by decide, by decide, by decide, by decide, by decide, by decide⟩ hS3.lo.2.2 549755813888 0 (by decide) (by decide)
  rw [show (LS.mk 0 0 0 1099511627776 0).icode 549755813888 0 = 0 from by decide, show (LS.mk 0 0 0 1099511627776 0).inext 549755813888 0 = sB 0 from by kernel_rfl] at hin
  have HIN : Hid _ := hin
  have HS3 : Hid _ := hS3
  clear hgr hS3 hin
  generalize w2.alloc (.cells (LS.mk 0 0 0 1099511627776 0).cs 71) = W3 at *
  go_wp2_with (first | (go_at_call 16; refine (hnm _ _).mono ?_; rintro e w' ⟨rfl, hw'⟩; replace hw' := hw'.symm; subst hw'))
  refine Calls.mono HIN.out ?_
  rintro e w4 ⟨rfl, hl4, hst4⟩
  have hne : w2.heap.size ≠ w1.heap.size + 1 := HS3.out.led.ne_t HS3.out.bk.blk (by decide)
  have hnm2 : w2.heap.size ≠ w1.heap.size := HS3.out.led.ne_m HS3.out.bk.map
  have hS4 : BkS S (w1.heap.size + 1) w1.heap.size w2.heap.size (bB 0) (sB 0) W w4 := HS3.out.step ((Chg.ofStq hst4).mono (fun j _ e => Or.inr (Or.inr e))) (HS3.out.bk.keep (Chg.ofStq hst4) (fun e => hne e.symm) (fun e => hnm2 e.symm)) hl4
  have HS4 : Hid _ := hS4
  clear hl4 hst4 hS4 hne hnm2
  generalize w1.heap.size + 1 = hb at *
  generalize w1.heap.size = mb at *
  generalize w2.heap.size = lb at *
  go_wp2_with fail
  go_loopw [10, 11] (fun gv iv wr => ∃ (k : Nat) (g : Int), k ≤ N1 ∧ iv = .int .i64 k ∧ gv = .int .i64 g ∧ (0 ≤ g ∧ g ≤ k * 17179869184) ∧ BkS S hb mb lb (bB k) (sB g) W wr) (fun _ iv _ => N1 - (intOf iv).toNat)
  case atStart => exact ⟨0, 0, Nat.zero_le _, rfl, rfl, ⟨Int.le_refl _, by simp⟩, HS4.out⟩
  case round =>
    obtain ⟨k, g, hk, rfl, rfl, ⟨hg0, hg1⟩, hE⟩ := hrel
    clear HS4
    have hg2 : g ≤ 274877906944 := by omega
    by_cases hlt : k < N1
    · obtain ⟨b1, off1, z1, rfl, c1⟩ := Came.at H1.out hE.bel hlt
      obtain ⟨b2, off2, z2, rfl, c2⟩ := Came.at H2.out hE.bel (show k < N2 by omega)
      have HSL : Hid _ := (fun W => slot_any z1 17179869184 (by decide) (by decide) W)
      have HC2 : Hid _ := (⟨Blk.lt hE.led, c2, hE.bel⟩ : _ ∧ wr.cell? ⟨b2, off2 + k, none⟩ = some (.int .i64 z2) ∧ Below W.heap.size W wr)
      have m0 := Int.emod_nonneg z1 (show (17179869184 : Int) ≠ 0 by decide)
      have m1 := Int.emod_lt_of_pos z1 (show (0 : Int) < 17179869184 by decide)
      have hw1 : IntKind.i64.wrap (1 + z1 % 17179869184) = 1 + z1 % 17179869184 := by rw [IntKind.wrap_i64]; omega
      have HE : Hid _ := hE
      clear hE c2
      go_wp2_with fail
      refine Calls.mono (HSL.out _) ?_
      rintro e w5 ⟨rfl, hw5⟩
      replace hw5 := hw5.symm
      subst hw5
      rw [show ((17179869184 : Nat) : Int) = 17179869184 from rfl]
      obtain ⟨am, ham⟩ : ∃ am, am = 1 + z1 % 17179869184 := ⟨_, rfl⟩
      have h3 : 1 ≤ am := by omega
      have h4 : am ≤ 17179869184 := by omega
      have hho := hold_any (b := bB k) (s := sB g) wr HE.out.sen HE.out.bk (bB_ok k) HE.out.led (sB_ok hg0 hg2) HE.out.lo.2.2 (by show ((k : Nat) : Int) ≤ 1000000; omega) am k
      rw [hold_n hg0 hg2 h3 h4, hold_c hg0 hg2 h3 h4, hold_b hg0 hg2 h3 h4, hold_s hg0 hg2 h3 h4] at hho
      have HHO : Hid _ := hho
      have hw1' : IntKind.i64.wrap (1 + z1 % 17179869184) = am := hw1.trans ham.symm
      clear hho ham m0 m1 hw1
      go_wp2_with fail
      refine Calls.mono HHO.out ?_
      rintro e w6 ⟨rfl, hB6, hl6, hc6⟩
      have hE6 := HE.out.step hc6 hB6 hl6
      have HR6 : Hid _ := rights_any w6 hE6.led
      have HE6 : Hid _ := hE6
      clear hB6 hl6 hc6 hE6
      have hfa := field42a
      have hfb := field42
      have hw2 : IntKind.i64.wrap (549755813888 - g) = 549755813888 - g := by rw [IntKind.wrap_i64]; omega
      have hw3 : IntKind.i64.wrap (549755813888 - g - am) = 549755813888 - g - am := by rw [IntKind.wrap_i64]; omega
      go_wp2_with (first | (go_at_call 16; refine (hnm _ _).mono ?_; rintro e w' ⟨rfl, hw'⟩; replace hw' := hw'.symm; subst hw'))
      refine Calls.mono HR6.out ?_
      rintro e w7 ⟨rfl, hb7⟩
      have hE7 := HE6.out.more hb7
      have c2' : w7.cell? ⟨b2, off2 + k, none⟩ = some (.int .i64 z2) := by
        have hlt2 : b2 < W.heap.size ∨ W.heap.size ≤ b2 := Nat.lt_or_ge _ _
        have hbl : b2 < W.heap.size := by
          obtain ⟨b0, o0, e0, hc0⟩ := H2.out.2 (by omega)
          cases e0
          have hz : zs2[k]? = some (zs2[k]'(by rw [H2.out.1]; omega)) := List.getElem?_eq_getElem _
          exact World.block_lt_of_cell? _ _ (hc0 k _ hz)
        have e1 := hE7.bel.cell (p := ⟨b2, off2 + k, none⟩) hbl
        have e2 := HC2.out.2.2.cell (p := ⟨b2, off2 + k, none⟩) hbl
        exact e1.trans (e2.symm.trans HC2.out.2.1)
      have HSL2 : Hid _ := (fun W => slot_any z2 3 (by decide) (by decide) W)
      have HE7 : Hid _ := hE7
      have n0 := Int.emod_nonneg z2 (show (3 : Int) ≠ 0 by decide)
      have n1 := Int.emod_lt_of_pos z2 (show (0 : Int) < 3 by decide)
      have hs3 : z2 % 3 = 0 ∨ z2 % 3 = 1 ∨ z2 % 3 = 2 := by omega
      have HS3' : Hid _ := hs3
      clear hb7 hE7 n0 n1 hs3 hw3
      dsimp only [sH]
      go_wp2_with fail
      refine Calls.mono (HSL2.out _) ?_
      rintro e w8 ⟨rfl, hw8⟩
      replace hw8 := hw8.symm
      subst hw8
      rw [show ((3 : Nat) : Int) = 3 from rfl]
      have hs3 := HS3'.out
      generalize z2 % 3 = how at *
      rcases hs3 with rfl | rfl | rfl
      · -- Release
        have hrl := release_any (b := bH k am k) (s := sH g am) w7 HE7.out.sen HE7.out.bk HE7.out.led (sH_ok hg0 hg2 h3 h4) HE7.out.lo.2.2 (((k : Int) + 1) * 16) (by rw [IntKind.wrap_i64]; omega)
        rw [end_a hg0 hg2 h3 h4, end_c hg0 hg2 h3 h4, end_b hg0 hg2 h3 h4, end_s0 hg0 hg2 h3 h4] at hrl
        have HRL : Hid _ := hrl
        clear hrl
        go_wp2_with fail
        refine Calls.mono HRL.out ?_
        rintro e w9 ⟨rfl, hB9, hl9, hc9⟩
        have hE9 := HE7.out.step (hc9.mono (fun j _ e => e.elim (fun e => Or.inr (Or.inl e)) (fun e => Or.inr (Or.inr e)))) hB9 hl9
        have HRa : Hid _ := rights_any w9 hE9.led
        have HE9 : Hid _ := hE9
        clear hB9 hl9 hc9 hE9
        go_wp2_with (first | (go_at_call 16; refine (hnm _ _).mono ?_; rintro e w' ⟨rfl, hw'⟩; replace hw' := hw'.symm; subst hw'))
        refine Calls.mono HRa.out ?_
        rintro e wA ⟨rfl, hbA⟩
        have hEA := HE9.out.more hbA
        have HRb : Hid _ := rights_any wA hEA.led
        have HEA : Hid _ := hEA
        clear hbA hEA
        dsimp only [sB]
        go_wp2_with fail
        refine Calls.mono HRb.out ?_
        rintro e wB ⟨rfl, hbB⟩
        have hEB := HEA.out.more hbB
        have HHe : Hid _ := held_any wB hEB.led
        have HEB : Hid _ := hEB
        clear hbB hEB
        dsimp only [sB]
        go_wp2_with fail
        refine Calls.mono HHe.out ?_
        rintro e wC ⟨rfl, hwC⟩
        replace hwC := hwC.symm
        subst hwC
        dsimp only [sB]
        go_wp2_with fail
        go_roundw
        case rel => exact ⟨k + 1, g, by omega, by go_num, rfl, ⟨by omega, by omega⟩, HEB.out⟩
        case measure => simp [intOf]; omega
      · -- Expire
        have hxp := expire_any (b := bH k am k) (s := sH g am) w7 HE7.out.sen HE7.out.bk (bH_ok k h3 h4) HE7.out.led (sH_ok hg0 hg2 h3 h4) HE7.out.lo.2.2 HE7.out.lo.2.1 (by show ((k : Int) + 1) ≤ 1000001; omega) k
        rw [show (bH k am k).L = [⟨k + 1, am, k⟩] from rfl, exp_x hg0 hg2 h3 h4] at hxp
        dsimp only at hxp
        have HXP : Hid _ := hxp
        clear hxp
        go_wp2_with fail
        refine Calls.mono HXP.out ?_
        rintro e w9 ⟨l, rfl, ho9, hB9, hl9, hc9⟩
        have hE9 : BkS S hb mb lb (bB (k + 1)) (sB g) W w9 := HE7.out.step (hc9.mono (fun j _ e => e.elim (fun e => Or.inr (Or.inl e)) (fun e => Or.inr (Or.inr e)))) hB9 hl9
        obtain ⟨lao, lcap, hld, _, _, hlc⟩ := own_read ho9
        obtain ⟨lg, hlg, _, _, hlcc⟩ := hlc (by simp)
        have x0 : w9.cell? ⟨lg, 0, none⟩ = some (.int .i64 (((k : Int) + 1) * 16)) := by
          have := hlcc 0 (I (((k : Int) + 1) * 16 + 0)) rfl
          rw [this]
          simp [I]
        rw [hlg] at hld
        subst hld
        clear hlc hlcc hlg ho9
        have HRa : Hid _ := rights_any w9 hE9.led
        have HE9 : Hid _ := hE9
        clear hB9 hl9 hc9 hE9
        go_wp2_with (first | (go_at_call 16; refine (hnm _ _).mono ?_; rintro e w' ⟨rfl, hw'⟩; replace hw' := hw'.symm; subst hw'))
        refine Calls.mono HRa.out ?_
        rintro e wA ⟨rfl, hbA⟩
        have hEA := HE9.out.more hbA
        have HRb : Hid _ := rights_any wA hEA.led
        have HEA : Hid _ := hEA
        clear hbA hEA
        dsimp only [sB]
        go_wp2_with fail
        refine Calls.mono HRb.out ?_
        rintro e wB ⟨rfl, hbB⟩
        have hEB := HEA.out.more hbB
        have HHe : Hid _ := held_any wB hEB.led
        have HEB : Hid _ := hEB
        clear hbB hEB
        dsimp only [sB]
        go_wp2_with fail
        refine Calls.mono HHe.out ?_
        rintro e wC ⟨rfl, hwC⟩
        replace hwC := hwC.symm
        subst hwC
        dsimp only [sB]
        go_wp2_with fail
        go_roundw
        case rel => exact ⟨k + 1, g, by omega, by go_num, rfl, ⟨by omega, by omega⟩, HEB.out⟩
        case measure => simp [intOf]; omega
      · -- Commit
        have hrl := commit_any (b := bH k am k) (s := sH g am) w7 HE7.out.sen HE7.out.bk HE7.out.led (sH_ok hg0 hg2 h3 h4) HE7.out.lo.2.2 (((k : Int) + 1) * 16) (by rw [IntKind.wrap_i64]; omega)
        rw [end_a hg0 hg2 h3 h4, end_c hg0 hg2 h3 h4, end_b hg0 hg2 h3 h4, end_s1 hg0 hg2 h3 h4] at hrl
        have HRL : Hid _ := hrl
        clear hrl
        go_wp2_with fail
        refine Calls.mono HRL.out ?_
        rintro e w9 ⟨rfl, hB9, hl9, hc9⟩
        have hE9 := HE7.out.step (hc9.mono (fun j _ e => e.elim (fun e => Or.inr (Or.inl e)) (fun e => Or.inr (Or.inr e)))) hB9 hl9
        have hw4 : IntKind.i64.wrap (g + am) = g + am := by rw [IntKind.wrap_i64]; omega
        have hw5 : IntKind.i64.wrap (549755813888 - (g + am)) = 549755813888 - (g + am) := by rw [IntKind.wrap_i64]; omega
        have HRa : Hid _ := rights_any w9 hE9.led
        have HE9 : Hid _ := hE9
        clear hB9 hl9 hc9 hE9
        go_wp2_with (first | (go_at_call 16; refine (hnm _ _).mono ?_; rintro e w' ⟨rfl, hw'⟩; replace hw' := hw'.symm; subst hw'))
        refine Calls.mono HRa.out ?_
        rintro e wA ⟨rfl, hbA⟩
        have hEA := HE9.out.more hbA
        have HRb : Hid _ := rights_any wA hEA.led
        have HEA : Hid _ := hEA
        clear hbA hEA
        dsimp only [sB]
        go_wp2_with fail
        refine Calls.mono HRb.out ?_
        rintro e wB ⟨rfl, hbB⟩
        have hEB := HEA.out.more hbB
        have HHe : Hid _ := held_any wB hEB.led
        have HEB : Hid _ := hEB
        clear hbB hEB
        dsimp only [sB]
        go_wp2_with fail
        refine Calls.mono HHe.out ?_
        rintro e wC ⟨rfl, hwC⟩
        replace hwC := hwC.symm
        subst hwC
        dsimp only [sB]
        go_wp2_with fail
        go_roundw
        case rel => exact ⟨k + 1, g + am, by omega, by go_num, rfl, ⟨by omega, by omega⟩, HEB.out⟩
        case measure => simp [intOf]; omega
    · have hkk : k = N1 := by omega
      subst hkk
      have HE : Hid _ := hE
      have HNU : Hid _ := numbers_any wr hE.bk (bB_ok k) (by show ((k : Nat) : Int) ≤ 1000001; omega)
      clear hE
      go_wp2_with fail
      refine Calls.mono HNU.out ?_
      rintro e w5 ⟨l, rfl, ho5, hb5⟩
      have hE5 := HE.out.more hb5
      have HSU : Hid _ := sum_any w5 hE5.bk (bB_ok k)
      obtain ⟨lao, lcap, hld, _⟩ := own_slice ho5
      rw [show (bB k).L.length = 0 from rfl] at hld
      subst hld
      have HE5 : Hid _ := hE5
      clear ho5 hb5 hE5
      go_wp2_with fail
      refine Calls.mono HSU.out ?_
      rintro e w6 ⟨rfl, hb6⟩
      have HF : Hid _ := (HE5.out.more hb6).bel
      clear hb6
      rw [show sumH (bB k).L = 0 from rfl]
      go_wp2_with fail
      go_ret
      exact ⟨rfl, HF.out⟩
end Go.Proofs.YtkdndfdofhnagaaDoor
