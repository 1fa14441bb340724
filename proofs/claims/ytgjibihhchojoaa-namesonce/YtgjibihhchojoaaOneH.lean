import Derived.Test.YtgjibihhchojoaaMk
import Derived.Test.YtgjibihhchojoaaLr
namespace Go.Proofs.Ytgjibihhchojoaa
open Go.RowKit Go.PlainAid Go.MapKept
set_option linter.unusedVariables false
set_option linter.unusedSimpArgs false
theorem num17 (x : Int) (w : World) : Calls Try.prog 17 #[.int .i64 x] w fun e w' => e = .returned (.int .i64 x) ∧ w' = w := by
  go_enter Try.func17, Try.ntmps17
  go_wp2_with fail
  go_ret
  exact ⟨rfl, rfl⟩
theorem slot_any (i n : Int) (w : World) (h1 : 1 ≤ n) (h2 : n ≤ 1000) (hi : -9223372036854775808 ≤ i ∧ i ≤ 9223372036854775807) :
    Calls Try.prog 21 #[.int .i64 i, .int .i64 n] w fun e w' => ∃ s : Int, 0 ≤ s ∧ s < n ∧ e = .returned (.int .i64 s) ∧ w' = w := by
  have b1 := Int.tmod_lt_of_pos i (show 0 < n by omega)
  have b2 := Int.lt_tmod_of_pos i (show 0 < n by omega)
  have hn0 : n ≠ 0 := by omega
  have hw : IntKind.i64.wrap (i.tmod n) = i.tmod n := by rw [IntKind.wrap_i64]; omega
  by_cases hneg : i.tmod n < 0
  · have hw2 : IntKind.i64.wrap (i.tmod n + n) = i.tmod n + n := by rw [IntKind.wrap_i64]; omega
    go_enter Try.func21, Try.ntmps21
    go_wp2_with fail
    go_ret
    exact ⟨_, by omega, by omega, rfl, rfl⟩
  · go_enter Try.func21, Try.ntmps21
    go_wp2_with fail
    go_ret
    exact ⟨_, by omega, by omega, rfl, rfl⟩
section
variable {hb mh mw : Nat} {me rep per : Int} {KN KN' : List (List UInt8 × Int)} {WT : List ((Int × Int) × OpA)}
theorem learn_as {b : Bool} (n : List UInt8) (w : World) (hT : Tb hb mh mw me rep per KN WT w) (hL : KN.length ≤ 100000) (hl : n.length ≤ 140737488355328) (hrep : -9223372036854775808 ≤ rep ∧ rep ≤ 9223372036854775807) (h1 : learnB me rep per KN n = b) (h2 : learnNext me rep per KN n = KN') :
    Calls Try.prog 22 #[.pointer (some ⟨hb, 0, none⟩), .string ⟨n.toArray⟩] w fun q w' => q = .returned (.bool b) ∧ Tb hb mh mw me rep per KN' WT w' ∧ Chg (fun k => k = mh) w w' := by
  rw [← h1, ← h2]
  exact learn_any n w hT hL hl hrep
theorem make_as {c : Int} (n : List UInt8) (w : World) (hT : Tb hb mh mw me rep per KN WT w) (hL : KN.length ≤ 100000) (hl : n.length ≤ 140737488355328) (hrep : -9223372036854775808 ≤ rep ∧ rep ≤ 9223372036854775807) (h1 : makeCode me rep per KN n = c) (h2 : makeNext me rep per KN n = KN') :
    Calls Try.prog 24 #[.pointer (some ⟨hb, 0, none⟩), .string ⟨n.toArray⟩] w fun q w' => q = .returned (.int .i64 c) ∧ Tb hb mh mw me rep per KN' WT w' ∧ Chg (fun k => k = mh) w w' := by
  rw [← h1, ← h2]
  exact make_any n w hT hL hl hrep
theorem knows_as {b : Bool} (n : List UInt8) (w : World) (hT : Tb hb mh mw me rep per KN WT w) (h1 : knows n KN = b) :
    Calls Try.prog 23 #[.pointer (some ⟨hb, 0, none⟩), .string ⟨n.toArray⟩] w fun e w' => e = .returned (.bool b) ∧ w' = w := by
  rw [← h1]
  exact knows_any n w hT
theorem good_as {b : Bool} (n : List UInt8) (w : World) (hl : n.length ≤ 140737488355328) (h1 : nameB n = b) :
    Calls Try.prog 14 #[.string ⟨n.toArray⟩] w fun e w' => e = .returned (.bool b) ∧ w' = w := by
  rw [← h1]
  exact good_any n w hl
end
theorem knows_one (n : List UInt8) (h : Int) : knows n [(n, h)] = true := by simp [knows, look]
theorem knows_nil (n : List UInt8) : knows n [] = false := by simp [knows, look]
theorem Chg.lo {mh : Nat} {w w' : World} {L : Nat} (h : Chg (fun k => k = mh) w w') (hL : L ≤ mh) (hs : L ≤ w.heap.size) : Below L w w' := h.below hs (fun k e => by rw [e]; exact hL)
structure OH (w wr : World) : Prop where
  b : Below w.heap.size w wr
theorem newCode_ok {k n : Int} (h0 : 0 ≤ k) (h1 : k < n) (h2 : 2 ≤ n) (h3 : n ≤ 16) : newCode k n 1 = 0 := by
  unfold newCode
  rw [if_neg (by omega), if_neg (by omega)]
def cM (g : Bool) (h k : Int) : Int := if g = true ∧ h < k then 1 else 0
def cL (g : Bool) (h k : Int) : Int := if g = true then k - cM g h k else 0
set_option maxRecDepth 100000 in
set_option maxHeartbeats 6400000 in
theorem oneHome_law (HAL : ∀ w, Calls Try.prog 9 #[] w fun e w' => e = .returned (.bool true) ∧ Below w.heap.size w w') (nm : List UInt8) (r : Int) (hl : nm.length ≤ 140737488355328) (hr : -9223372036854775808 ≤ r ∧ r ≤ 9223372036854775807) (w : World) :
    Calls Try.prog 5 #[.string ⟨nm.toArray⟩, .int .i64 r] w fun e w' => e = .returned (.bool true) ∧ Below w.heap.size w w' := by
  go_enter Try.func5, Try.ntmps5
  go_wp2_with fail
  refine Calls.mono (HAL w) ?_
  rintro e w1 ⟨rfl, hb1⟩
  have HB1 : Hid _ := hb1
  clear hb1
  go_wp2_with fail
  refine Calls.mono (slot_any r 15 w1 (by omega) (by omega) hr) ?_
  rintro e w2 ⟨s, hs0, hs1, rfl, hw2⟩
  replace hw2 := hw2.symm
  subst hw2
  obtain ⟨n, hn⟩ : ∃ n, n = 2 + s := ⟨_, rfl⟩
  have hn2 : 2 ≤ n := by omega
  have hn16 : n ≤ 16 := by omega
  go_wp2_with fail
  rw [← hn]
  clear hn hs0 hs1
  obtain ⟨h, hh⟩ : ∃ h, h = homeN nm n := ⟨_, rfl⟩
  have hh0 : 0 ≤ h ∧ h < n := by
    rw [hh]; unfold homeN; rw [if_neg (by omega)]
    exact ⟨Int.emod_nonneg _ (by omega), Int.emod_lt_of_pos _ (by omega)⟩
  have HHH : Hid (h = homeN nm n) := hh
  obtain ⟨g, hg⟩ : ∃ g, g = nameB nm := ⟨_, rfl⟩
  have HG : Hid (g = nameB nm) := hg
  clear hh hg
  go_loopw [7, 8, 9] (fun s7 s8 s9 wr => ∃ k : Int, 0 ≤ k ∧ k ≤ n ∧ s9 = .int .i64 k ∧ s7 = .int .i64 (cM g h k) ∧ s8 = .int .i64 (cL g h k) ∧ OH w wr) (fun _ _ s9 _ => (n - intOf s9).toNat)
  case atStart => exact ⟨0, by omega, by omega, rfl, by simp only [cM]; rw [if_neg (by omega)], by unfold cL cM; split <;> simp; omega, ⟨HB1.out⟩⟩
  case round =>
    obtain ⟨k, hk0, hkn, rfl, rfl, rfl, hO⟩ := hrel
    by_cases hlt : k < n
    · have hcm : 0 ≤ cM g h k ∧ cM g h k ≤ 1 := by unfold cM; split <;> omega
      have hcl : 0 ≤ cL g h k ∧ cL g h k ≤ k := by
        unfold cL
        split
        · unfold cM; split <;> omega
        · omega
      obtain ⟨m0, hm0⟩ : ∃ m0, m0 = cM g h k := ⟨_, rfl⟩
      obtain ⟨l0, hl0⟩ : ∃ l0, l0 = cL g h k := ⟨_, rfl⟩
      rw [← hm0] at hcm ⊢
      rw [← hl0] at hcl ⊢
      have HM0 : Hid (m0 = cM g h k) := hm0
      have HL0 : Hid (l0 = cL g h k) := hl0
      clear hm0 hl0
      have HO : Hid _ := hO
      have HNC : Hid (newCode k n 1 = 0) := newCode_ok hk0 hlt hn2 hn16
      clear hO
      go_wp2_with fail
      refine Calls.mono (new_any k n 1 wr HNC.out) ?_
      rintro e w3 ⟨rfl, hT3, hb3, hs3⟩
      obtain ⟨hb, hhb⟩ : ∃ hb, hb = wr.heap.size + 2 := ⟨_, rfl⟩
      obtain ⟨mh, hmh⟩ : ∃ mh, mh = wr.heap.size := ⟨_, rfl⟩
      obtain ⟨mw, hmw⟩ : ∃ mw, mw = wr.heap.size + 1 := ⟨_, rfl⟩
      rw [← hhb, ← hmw, ← hmh] at hT3
      rw [← hhb]
      have HM : Hid (w.heap.size ≤ mh) := show w.heap.size ≤ mh from by rw [hmh]; exact HO.out.b.size
      have HT3 : Hid (Tb hb mh mw k n 1 [] [] w3) := hT3
      have HB3 : Hid (Below w.heap.size w w3) := HO.out.b.trans (hb3.mono HO.out.b.size)
      clear hT3 hb3 hs3 hhb hmh hmw HO HNC
      go_wp2_with fail
      refine Calls.mono (num17 0 w3) ?_
      rintro e w4 ⟨rfl, hw4⟩
      replace hw4 := hw4.symm
      subst hw4
      go_wp2_with fail
      by_cases hg : g = true
      · by_cases hkh : h = k
        · have hM1 : cM g h (k + 1) = cM g h k + 1 := by unfold cM; rw [if_pos ⟨hg, by omega⟩, if_neg (by omega)]; rfl
          have hL1 : cL g h (k + 1) = cL g h k := by unfold cL; rw [if_pos hg, if_pos hg, hM1]; omega
          have HGT : Hid _ := hg
          have HKH : Hid _ := hkh
          have HM1 : Hid _ := hM1
          have HL1 : Hid _ := hL1
          clear hg hkh hM1 hL1
          refine Calls.mono (learn_as nm w3 HT3.out (by simp) hl ⟨by omega, by omega⟩ (b := false) (KN' := []) (by unfold learnB; rw [← HHH.out]; simp [HKH.out]) (by unfold learnNext; rw [if_neg (by unfold learnB; rw [← HHH.out]; simp [HKH.out])])) ?_
          rintro e w5 ⟨rfl, hT5, hC5⟩
          have HT5 : Hid (Tb hb mh mw k n 1 [] [] w5) := hT5
          have HB5 : Hid (Below w.heap.size w w5) := HB3.out.trans (hC5.lo HM.out HB3.out.size)
          clear hT5 hC5 HT3 HB3
          go_wp2_with fail
          refine Calls.mono (make_as nm w5 HT5.out (by simp) hl ⟨by omega, by omega⟩ (c := 0) (KN' := [(nm, k)]) (by unfold makeCode; rw [← HG.out, ← HHH.out, knows_nil]; simp [HGT.out, HKH.out, cntH]) (by unfold makeNext; rw [if_pos (by unfold makeCode; rw [← HG.out, ← HHH.out, knows_nil]; simp [HGT.out, HKH.out, cntH])]; rfl)) ?_
          rintro e w6 ⟨rfl, hT6, hC6⟩
          have HT6 : Hid (Tb hb mh mw k n 1 [(nm, k)] [] w6) := hT6
          have HB6 : Hid (Below w.heap.size w w6) := HB5.out.trans (hC6.lo HM.out HB5.out.size)
          clear hT6 hC6 HT5 HB5
          go_wp2_with fail
          refine Calls.mono (num17 0 w6) ?_
          rintro e w7 ⟨rfl, hw7⟩
          replace hw7 := hw7.symm
          subst hw7
          go_wp2_with fail
          refine Calls.mono (make_as nm w6 HT6.out (by simp) hl ⟨by omega, by omega⟩ (c := 101) (KN' := [(nm, k)]) (by unfold makeCode; rw [← HG.out, ← HHH.out, knows_one]; simp [HGT.out, HKH.out]) (by unfold makeNext; rw [if_neg (by unfold makeCode; rw [← HG.out, ← HHH.out, knows_one]; simp [HGT.out, HKH.out])])) ?_
          rintro e w8 ⟨rfl, hT8, hC8⟩
          have HT8 : Hid (Tb hb mh mw k n 1 [(nm, k)] [] w8) := hT8
          have HB8 : Hid (Below w.heap.size w w8) := HB6.out.trans (hC8.lo HM.out HB6.out.size)
          clear hT8 hC8 HT6 HB6
          go_wp2_with fail
          refine Calls.mono (num17 101 w8) ?_
          rintro e w9 ⟨rfl, hw9⟩
          replace hw9 := hw9.symm
          subst hw9
          go_wp2_with fail
          refine Calls.mono (knows_as nm w8 HT8.out (knows_one nm k)) ?_
          rintro e w9 ⟨rfl, hw9⟩
          replace hw9 := hw9.symm
          subst hw9
          go_wp2_with fail
          refine Calls.mono (home_any nm n w8 hl ⟨by omega, by omega⟩) ?_
          rintro e w10 ⟨rfl, hb10⟩
          rw [← HHH.out]
          have HB10 : Hid (Below w.heap.size w w10) := HB8.out.trans (hb10.mono HB8.out.size)
          have hkb : (h == k) = true := by simpa using HKH.out
          clear hb10 HB8 HT8
          go_wp2_with fail
          go_roundw
          case rel => exact ⟨k + 1, by omega, by omega, rfl, by rw [HM1.out, ← HM0.out], by rw [HL1.out, ← HL0.out], ⟨HB10.out⟩⟩
          case measure => simp [intOf]; omega
        · have hM1 : cM g h (k + 1) = cM g h k := by
            unfold cM
            by_cases hx : h < k
            · rw [if_pos ⟨hg, by omega⟩, if_pos ⟨hg, hx⟩]
            · rw [if_neg (by omega), if_neg (by omega)]
          have hL1 : cL g h (k + 1) = cL g h k + 1 := by unfold cL; rw [if_pos hg, if_pos hg, hM1]; omega
          have HGT : Hid _ := hg
          have HKH : Hid _ := hkh
          have HM1 : Hid _ := hM1
          have HL1 : Hid _ := hL1
          clear hg hkh hM1 hL1
          refine Calls.mono (learn_as nm w3 HT3.out (by simp) hl ⟨by omega, by omega⟩ (b := true) (KN' := [(nm, h)]) (by unfold learnB; rw [← HG.out, ← HHH.out, knows_nil]; simp [HGT.out, (show ¬ h = k from HKH.out), cntH]) (by unfold learnNext; rw [if_pos (by unfold learnB; rw [← HG.out, ← HHH.out, knows_nil]; simp [HGT.out, (show ¬ h = k from HKH.out), cntH]), ← HHH.out]; rfl)) ?_
          rintro e w5 ⟨rfl, hT5, hC5⟩
          have HT5 : Hid (Tb hb mh mw k n 1 [(nm, h)] [] w5) := hT5
          have HB5 : Hid (Below w.heap.size w w5) := HB3.out.trans (hC5.lo HM.out HB3.out.size)
          clear hT5 hC5 HT3 HB3
          go_wp2_with fail
          refine Calls.mono (learn_as nm w5 HT5.out (by simp) hl ⟨by omega, by omega⟩ (b := false) (KN' := [(nm, h)]) (by unfold learnB; rw [knows_one]; simp) (by unfold learnNext; rw [if_neg (by unfold learnB; rw [knows_one]; simp)])) ?_
          rintro e w6 ⟨rfl, hT6, hC6⟩
          have HT6 : Hid (Tb hb mh mw k n 1 [(nm, h)] [] w6) := hT6
          have HB6 : Hid (Below w.heap.size w w6) := HB5.out.trans (hC6.lo HM.out HB5.out.size)
          clear hT6 hC6 HT5 HB5
          go_wp2_with fail
          refine Calls.mono (knows_as nm w6 HT6.out (knows_one nm h)) ?_
          rintro e w7 ⟨rfl, hw7⟩
          replace hw7 := hw7.symm
          subst hw7
          go_wp2_with fail
          refine Calls.mono (make_as nm w6 HT6.out (by simp) hl ⟨by omega, by omega⟩ (c := 3) (KN' := [(nm, h)]) (by unfold makeCode; rw [← HG.out, ← HHH.out]; simp [HGT.out, (show ¬ h = k from HKH.out)]) (by unfold makeNext; rw [if_neg (by unfold makeCode; rw [← HG.out, ← HHH.out]; simp [HGT.out, (show ¬ h = k from HKH.out)])])) ?_
          rintro e w8 ⟨rfl, hT8, hC8⟩
          have HB8 : Hid (Below w.heap.size w w8) := HB6.out.trans (hC8.lo HM.out HB6.out.size)
          clear hT8 hC8 HT6 HB6
          go_wp2_with fail
          refine Calls.mono (num17 3 w8) ?_
          rintro e w9 ⟨rfl, hw9⟩
          replace hw9 := hw9.symm
          subst hw9
          go_wp2_with fail
          refine Calls.mono (home_any nm n w8 hl ⟨by omega, by omega⟩) ?_
          rintro e w10 ⟨rfl, hb10⟩
          rw [← HHH.out]
          have HB10 : Hid (Below w.heap.size w w10) := HB8.out.trans (hb10.mono HB8.out.size)
          have hkb : (h == k) = false := by simpa using (show ¬ h = k from HKH.out)
          clear hb10 HB8
          go_wp2_with fail
          go_roundw
          case rel => exact ⟨k + 1, by omega, by omega, rfl, by rw [HM1.out, ← HM0.out], by rw [HL1.out, ← HL0.out], ⟨HB10.out⟩⟩
          case measure => simp [intOf]; omega
      · have hgf : g = false := by simpa using hg
        clear hg
        have hg := hgf
        clear hgf
        have hM1 : cM g h (k + 1) = cM g h k := by unfold cM; rw [if_neg (by simp [hg]), if_neg (by simp [hg])]
        have hL1 : cL g h (k + 1) = cL g h k := by unfold cL; rw [if_neg (by simp [hg]), if_neg (by simp [hg])]
        have HGT : Hid _ := hg
        have HM1 : Hid _ := hM1
        have HL1 : Hid _ := hL1
        clear hg hM1 hL1
        refine Calls.mono (learn_as nm w3 HT3.out (by simp) hl ⟨by omega, by omega⟩ (b := false) (KN' := []) (by unfold learnB; rw [← HG.out]; simp [HGT.out]) (by unfold learnNext; rw [if_neg (by unfold learnB; rw [← HG.out]; simp [HGT.out])])) ?_
        rintro e w5 ⟨rfl, hT5, hC5⟩
        have HT5 : Hid (Tb hb mh mw k n 1 [] [] w5) := hT5
        have HB5 : Hid (Below w.heap.size w w5) := HB3.out.trans (hC5.lo HM.out HB3.out.size)
        clear hT5 hC5 HT3 HB3
        go_wp2_with fail
        refine Calls.mono (make_as nm w5 HT5.out (by simp) hl ⟨by omega, by omega⟩ (c := 1) (KN' := []) (by unfold makeCode; rw [← HG.out]; simp [HGT.out]) (by unfold makeNext; rw [if_neg (by unfold makeCode; rw [← HG.out]; simp [HGT.out])])) ?_
        rintro e w6 ⟨rfl, hT6, hC6⟩
        have HB6 : Hid (Below w.heap.size w w6) := HB5.out.trans (hC6.lo HM.out HB5.out.size)
        clear hT6 hC6 HT5 HB5
        go_wp2_with fail
        refine Calls.mono (num17 1 w6) ?_
        rintro e w7 ⟨rfl, hw7⟩
        replace hw7 := hw7.symm
        subst hw7
        go_wp2_with fail
        refine Calls.mono (good_as nm w6 hl (b := false) (by rw [← HG.out]; exact HGT.out)) ?_
        rintro e w9 ⟨rfl, hw9⟩
        replace hw9 := hw9.symm
        subst hw9
        go_wp2_with fail
        go_roundw
        case rel => exact ⟨k + 1, by omega, by omega, rfl, by rw [HM1.out, ← HM0.out], by rw [HL1.out, ← HL0.out], ⟨HB6.out⟩⟩
        case measure => simp [intOf]; omega
    · obtain rfl : k = n := by omega
      have HO : Hid _ := hO
      clear hO
      by_cases hg : g = true
      · have hM1 : cM g h k = 1 := by unfold cM; rw [if_pos ⟨hg, by omega⟩]
        have hL1 : cL g h k = k - 1 := by unfold cL; rw [if_pos hg, hM1]
        rw [hM1, hL1]
        go_wp2_with fail
        refine Calls.mono (good_as nm wr hl (b := true) (by rw [← HG.out]; exact hg)) ?_
        rintro e w9 ⟨rfl, hw9⟩
        replace hw9 := hw9.symm
        subst hw9
        go_wp2_with fail
        go_ret
        exact ⟨rfl, HO.out.b⟩
      · have hgf : g = false := by simpa using hg
        have hM1 : cM g h k = 0 := by unfold cM; rw [if_neg (by simp [hgf])]
        have hL1 : cL g h k = 0 := by unfold cL; rw [if_neg (by simp [hgf])]
        rw [hM1, hL1]
        go_wp2_with fail
        refine Calls.mono (good_as nm wr hl (b := false) (by rw [← HG.out]; exact hgf)) ?_
        rintro e w9 ⟨rfl, hw9⟩
        replace hw9 := hw9.symm
        subst hw9
        go_wp2_with fail
        go_ret
        exact ⟨rfl, HO.out.b⟩
end Go.Proofs.Ytgjibihhchojoaa
