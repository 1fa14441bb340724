import Derived.Test.YtgjibihhchojoaaArgs
import Derived.Test.YtgjibihhchojoaaOneH
import Derived.Test.YtgjibihhchojoaaAllP
import Derived.Test.YtgjibihhchojoaaR5
import Derived.Test.YtgjibihhchojoaaBd
import Derived.Test.YtgjibihhchojoaaP2
namespace Go.Proofs.Ytgjibihhchojoaa
open Go.RowKit Go.PlainAid Go.MapKept
set_option linter.unusedVariables false
set_option linter.unusedSimpArgs false
theorem knows_iff (n : List UInt8) (KN : List (List UInt8 × Int)) : knows n KN = true ↔ n ∈ KN.map (·.1) := by
  induction KN with
  | nil => simp [knows, look]
  | cons p t ih =>
    by_cases h : n = p.1
    · simp [knows, look, h]
    · unfold knows look at ih ⊢
      rw [List.find?_cons_of_neg (by simpa using h)]
      rw [ih]
      simp [h]
structure RI (rep per : Int) (KN : List (List UInt8 × Int)) : Prop where
  good : ∀ p ∈ KN, nameB p.1 = true ∧ p.2 = homeN p.1 rep
  nd : (KN.map (·.1)).Nodup
  room : ∀ h, (cntH h KN : Int) ≤ per
theorem RI.nil {rep per : Int} (h : 0 ≤ per) : RI rep per [] := ⟨(fun p hp => by cases hp), (by simp), (fun x => by simp [cntH]; exact h)⟩
theorem RI.push {rep per : Int} {KN : List (List UInt8 × Int)} {n : List UInt8} (h : RI rep per KN) (hg : nameB n = true) (hk : knows n KN = false) (hc : (cntH (homeN n rep) KN : Int) < per) : RI rep per (KN ++ [(n, homeN n rep)]) := by
  refine ⟨fun p hp => ?_, ?_, fun x => ?_⟩
  · rcases List.mem_append.1 hp with hp | hp
    · exact h.good p hp
    · simp at hp; subst hp; exact ⟨hg, rfl⟩
  · rw [List.map_append, List.nodup_append]
    refine ⟨h.nd, by simp, fun a ha b hb => ?_⟩
    simp at hb
    subst hb
    intro e
    subst e
    have := (knows_iff a KN).2 ha
    rw [hk] at this
    cases this
  · have hx := h.room x
    have : cntH x (KN ++ [(n, homeN n rep)]) = cntH x KN + if homeN n rep == x then 1 else 0 := by simp [cntH, List.countP_cons]
    rw [this]
    by_cases e : homeN n rep = x
    · subst e; simp; omega
    · simp [e]; exact hx
theorem make_zero {me rep per : Int} {KN : List (List UInt8 × Int)} {n : List UInt8} (h : makeCode me rep per KN n = 0) : nameB n = true ∧ homeN n rep = me ∧ knows n KN = false ∧ (cntH me KN : Int) < per := by
  unfold makeCode at h
  split at h
  · cases h
  · split at h
    · cases h
    · split at h
      · cases h
      · split at h
        · cases h
        · rename_i a b c d
          exact ⟨by simpa using a, by simpa using b, by simpa using c, by omega⟩
theorem learn_true {me rep per : Int} {KN : List (List UInt8 × Int)} {n : List UInt8} (h : learnB me rep per KN n = true) : nameB n = true ∧ knows n KN = false ∧ (cntH (homeN n rep) KN : Int) < per := by
  unfold learnB at h
  simp at h
  exact ⟨h.1.1.1, h.1.2, h.2⟩
theorem knows_push (n : List UInt8) (x : Int) (KN : List (List UInt8 × Int)) : knows n (KN ++ [(n, x)]) = true := by rw [knows_iff]; simp
theorem isz9 : (Try.prog.info? 9).map (·.size) = some 1 := by kernel_rfl
def cntY (rep h : Int) (ys : List (List UInt8)) : Nat := ys.countP fun y => homeN y rep == h
theorem cntY_KN {rep per : Int} {KN : List (List UInt8 × Int)} (h : RI rep per KN) (x : Int) : cntY rep x (KN.map (·.1)) = cntH x KN := by
  unfold cntY cntH
  rw [List.countP_map]
  apply List.countP_congr
  intro p hp
  simp [(h.good p hp).2]
theorem cntY_take {rep x : Int} {ys : List (List UInt8)} {k : Nat} {y : List UInt8} (h : ys[k]? = some y) : cntY rep x (ys.take (k + 1)) = cntY rep x (ys.take k) + if homeN y rep = x then 1 else 0 := by
  unfold cntY
  rw [List.take_add_one, h, List.countP_append]
  simp [List.countP_cons]
theorem cntY_le (rep x : Int) (ys : List (List UInt8)) (k : Nat) : cntY rep x (ys.take k) ≤ cntY rep x ys := (List.take_sublist k ys).countP_le
def cntA (rep : Int) (ys : List (List UInt8)) (k : Nat) : Array Value := ((List.range 16).map fun x => Value.int .i64 (cntY rep (x : Nat) (ys.take k) : Nat)).toArray
theorem cntA_at (rep : Int) (ys : List (List UInt8)) (k x : Nat) (hx : x < 16) : (cntA rep ys k)[x]? = some (.int .i64 (cntY rep (x : Nat) (ys.take k) : Nat)) := by
  simp [cntA, hx]
theorem cntA_set {rep : Int} {ys : List (List UInt8)} {k x : Nat} {y : List UInt8} (h : ys[k]? = some y) (hx : homeN y rep = (x : Nat)) : (cntA rep ys k).setIfInBounds x (.int .i64 ((cntY rep (x : Nat) (ys.take k) : Nat) + 1 : Int)) = cntA rep ys (k + 1) := by
  apply Array.ext_getElem?
  intro j
  rw [Array.getElem?_setIfInBounds]
  by_cases hj : j < 16
  · rw [cntA_at _ _ _ _ hj, cntA_at _ _ _ _ hj, cntY_take h, hx]
    by_cases e : x = j
    · subst e; simp [cntA, hj]
    · simp [e, show ¬ ((x : Int) = (j : Int)) by omega]
  · have h1 : (cntA rep ys k)[j]? = none := Array.getElem?_eq_none (by simp [cntA]; omega)
    have h2 : (cntA rep ys (k + 1))[j]? = none := Array.getElem?_eq_none (by simp [cntA]; omega)
    rw [h1, h2]
    split
    · rw [if_neg (by simp [cntA]; omega)]
    · rfl
/-- The first loop's state. -/
structure R1S (hb mh mw : Nat) (me rep per : Int) (w wr : World) (k : Nat) (KN : List (List UInt8 × Int)) : Prop where
  t : Tb hb mh mw me rep per KN [] wr
  i : RI rep per KN
  l : KN.length ≤ k
  b : Below w.heap.size w wr
def R1E (hb mh mw : Nat) (me rep per : Int) (w wr : World) (k : Nat) (c : Int) : Prop := ∃ KN, c = (KN.length : Nat) ∧ R1S hb mh mw me rep per w wr k KN
structure R2S (hb mh mw ab base g cap : Nat) (me rep per : Int) (KN : List (List UInt8 × Int)) (ys : List (List UInt8)) (w wr : World) (k : Nat) : Prop where
  t : Tb hb mh mw me rep per KN [] wr
  a : Blk wr ab (cntA rep ys k) 53
  r : 0 < ys.length → wr.ownsRow base 9 1 (.slice (some ⟨g, 0, none⟩) ys.length cap) ys.length (flatS ys)
  b : Below w.heap.size w wr
set_option maxRecDepth 100000 in
set_option maxHeartbeats 6400000 in
theorem room_law (HAL : ∀ w, Calls Try.prog 9 #[] w fun e w' => e = .returned (.bool true) ∧ Below w.heap.size w w') (z0 z1 z2 : Int) (h0 : -9223372036854775808 ≤ z0 ∧ z0 ≤ 9223372036854775807) (h1 : -9223372036854775808 ≤ z1 ∧ z1 ≤ 9223372036854775807) (h2 : -9223372036854775808 ≤ z2 ∧ z2 ≤ 9223372036854775807)
    (ao : Option Addr) (N cap : Nat) (os : List (List UInt8)) (w : World) (hl : os.length = N) (hnc : N ≤ cap) (hcm : cap ≤ maxLen) (hok : ∀ o ∈ os, o.length ≤ 140737488351232)
    (hat : 0 < N → ∃ b off, ao = some ⟨b, off, none⟩ ∧ ∀ i o, os[i]? = some o → RowAt w b (off + i * 1) [Value.string ⟨o.toArray⟩]) :
    Calls Try.prog 6 #[.int .i64 z0, .int .i64 z1, .int .i64 z2, .slice ao N cap] w fun e w' => e = .returned (.bool true) ∧ Below w.heap.size w w' := by
  unfold maxLen at hcm
  by_cases hN : 100 < N
  · go_enter Try.func6, Try.ntmps6
    go_wp2_with fail
    go_ret
    exact ⟨rfl, Below.refl _ _⟩
  have HAT : Hid _ := hat
  have HOK : Hid _ := hok
  have HL0 : Hid (os.length = N) := hl
  clear hat hok hl
  go_enter Try.func6, Try.ntmps6
  go_wp2_with fail
  refine Calls.mono (HAL w) ?_
  rintro e w1 ⟨rfl, hb1⟩
  have HB1 : Hid _ := hb1
  clear hb1
  go_wp2_with fail
  refine Calls.mono (slot_any z1 15 w1 (by omega) (by omega) h1) ?_
  rintro e w2 ⟨s, hs0, hs1, rfl, hw2⟩
  replace hw2 := hw2.symm
  subst hw2
  obtain ⟨n, hn⟩ : ∃ n, n = 2 + s := ⟨_, rfl⟩
  have hn2 : 2 ≤ n := by omega
  have hn16 : n ≤ 16 := by omega
  go_wp2_with fail
  rw [← hn]
  clear hn hs0 hs1
  refine Calls.mono (slot_any z2 4 w1 (by omega) (by omega) h2) ?_
  rintro e w2 ⟨s2, hs0, hs1, rfl, hw2⟩
  replace hw2 := hw2.symm
  subst hw2
  obtain ⟨per, hper⟩ : ∃ per, per = 1 + s2 := ⟨_, rfl⟩
  have hp1 : 1 ≤ per := by omega
  have hp4 : per ≤ 4 := by omega
  go_wp2_with fail
  rw [← hper]
  clear hper hs0 hs1
  refine Calls.mono (slot_any z0 n w1 (by omega) (by omega) h0) ?_
  rintro e w2 ⟨me, hm0, hm1, rfl, hw2⟩
  replace hw2 := hw2.symm
  subst hw2
  have HNC : Hid (newCode me n per = 0) := show newCode me n per = 0 from by
    unfold newCode
    rw [if_neg (by omega), if_neg (by omega)]
  go_wp2_with fail
  refine Calls.mono (new_any me n per w1 HNC.out) ?_
  rintro e w3 ⟨rfl, hT3, hb3, hs3⟩
  obtain ⟨hb, hhb⟩ : ∃ hb, hb = w1.heap.size + 2 := ⟨_, rfl⟩
  obtain ⟨mh, hmh⟩ : ∃ mh, mh = w1.heap.size := ⟨_, rfl⟩
  obtain ⟨mw, hmw⟩ : ∃ mw, mw = w1.heap.size + 1 := ⟨_, rfl⟩
  rw [← hhb, ← hmw, ← hmh] at hT3
  rw [← hhb]
  have HM : Hid (w.heap.size ≤ mh) := show w.heap.size ≤ mh from by rw [hmh]; exact HB1.out.size
  have H3 : Hid (R1E hb mh mw me n per w w3 0 0) := ⟨[], rfl, hT3, RI.nil (by omega), Nat.le_refl _, HB1.out.trans (hb3.mono HB1.out.size)⟩
  clear hT3 hb3 hs3 hhb hmh hmw HB1 HNC
  go_wp2_with fail
  refine Calls.mono (num17 0 w3) ?_
  rintro e w4 ⟨rfl, hw4⟩
  replace hw4 := hw4.symm
  subst hw4
  go_wp2_with fail
  go_loopw [14, 15] (fun s14 s15 wr => ∃ (k : Nat) (c : Int), k ≤ N ∧ s15 = .int .i64 k ∧ s14 = .int .i64 c ∧ R1E hb mh mw me n per w wr k c) (fun _ s15 _ => N - (intOf s15).toNat)
  case atStart => exact ⟨0, 0, by omega, rfl, rfl, H3.out⟩
  case round =>
    obtain ⟨k, c, hk, rfl, rfl, KN, hc, hR⟩ := hrel
    have hKl := hR.l
    have hK5 : KN.length ≤ 100000 := by omega
    have hc0 : 0 ≤ c ∧ c ≤ 100 := by omega
    clear H3
    by_cases hlt : k < N
    · have hkb : k < os.length := by have := HL0.out; omega
      obtain ⟨nm, hnm⟩ : ∃ nm, nm = os[k] := ⟨_, rfl⟩
      have hnl : nm.length ≤ 140737488355328 := by have := HOK.out nm (by rw [hnm]; exact List.getElem_mem _); omega
      obtain ⟨b, off, hao, hcell⟩ := HAT.out (by omega)
      subst hao
      have hrow := hcell k nm (by rw [hnm]; exact List.getElem?_eq_getElem hkb)
      rw [Nat.mul_one] at hrow
      have HCE : Hid (∀ w', Below w.heap.size w w' → w'.cell? ⟨b, off + k, none⟩ = some (.string ⟨nm.toArray⟩)) := fun w' h => hrow.below h (hrow.lt (by simp)) 0 _ rfl
      have HT : Hid (Tb hb mh mw me n per KN [] wr) := hR.t
      have HI : Hid (RI n per KN) := hR.i
      have HB : Hid (Below w.heap.size w wr) := hR.b
      have HC0 : Hid (c = (KN.length : Nat)) := hc
      have HKL : Hid (KN.length ≤ k) := hKl
      have cs := HCE.out _ hR.b
      clear hR hc hKl hrow hcell hkb hnm HAT
      by_cases hM : makeCode me n per KN nm = 0
      · obtain ⟨m1, m2, m3, m4⟩ := make_zero hM
        have HMC : Hid (makeCode me n per KN nm = 0) := hM
        have HKN : Hid (knows nm KN = false) := m3
        have HI2 : Hid (RI n per (KN ++ [(nm, me)])) := show RI n per (KN ++ [(nm, me)]) from by have := HI.out.push m1 m3 (by rw [m2]; exact m4); rwa [m2] at this
        clear hM m1 m2 m3 m4
        go_wp2_with fail
        refine Calls.mono (knows_as nm wr HT.out (b := false) HKN.out) ?_
        rintro e x1 ⟨rfl, hwx1⟩
        replace hwx1 := hwx1.symm
        subst hwx1
        go_wp2_with fail
        refine Calls.mono (make_as nm wr HT.out hK5 hnl ⟨by omega, by omega⟩ (c := 0) (KN' := (KN ++ [(nm, me)])) HMC.out (by unfold makeNext; rw [if_pos HMC.out])) ?_
        rintro e w4 ⟨rfl, hT4, hC4⟩
        have HB4 : Hid (Below w.heap.size w w4) := HB.out.trans (hC4.lo HM.out HB.out.size)
        have HT4 : Hid (Tb hb mh mw me n per (KN ++ [(nm, me)]) [] w4) := hT4
        have cs4 := HCE.out _ HB4.out
        clear hT4 hC4 HT HB cs
        go_wp2_with fail
        refine Calls.mono (num17 0 w4) ?_
        rintro e x2 ⟨rfl, hwx2⟩
        replace hwx2 := hwx2.symm
        subst hwx2
        go_wp2_with fail
        refine Calls.mono (knows_as nm w4 HT4.out (b := true) (knows_push nm me KN)) ?_
        rintro e x3 ⟨rfl, hwx3⟩
        replace hwx3 := hwx3.symm
        subst hwx3
        go_wp2_with fail
        go_roundw
        case rel => exact ⟨k + 1, c + 1, by omega, by go_num, rfl, KN ++ [(nm, me)], by rw [HC0.out]; simp, HT4.out, HI2.out, by simp; exact HKL.out, HB4.out⟩
        case measure => simp [intOf]; omega
      · obtain ⟨mc, hmc⟩ : ∃ mc, mc = makeCode me n per KN nm := ⟨_, rfl⟩
        have hmc0 : ¬ mc = 0 := by rw [hmc]; exact hM
        have hmcb : (mc == 0) = false := by simpa using hmc0
        have HMC : Hid (makeCode me n per KN nm = mc) := hmc.symm
        clear hM hmc
        by_cases hL : learnB me n per KN nm = true
        · obtain ⟨m1, m3, m4⟩ := learn_true hL
          have HLB : Hid (learnB me n per KN nm = true) := hL
          have HKN : Hid (knows nm KN = false) := m3
          have HI2 : Hid (RI n per (KN ++ [(nm, homeN nm n)])) := HI.out.push m1 m3 m4
          clear hL m1 m3 m4
          go_wp2_with fail
          refine Calls.mono (knows_as nm wr HT.out (b := false) HKN.out) ?_
          rintro e x1 ⟨rfl, hwx1⟩
          replace hwx1 := hwx1.symm
          subst hwx1
          go_wp2_with fail
          refine Calls.mono (make_as nm wr HT.out hK5 hnl ⟨by omega, by omega⟩ (c := mc) (KN' := KN) HMC.out (by unfold makeNext; rw [if_neg (by rw [HMC.out]; exact hmc0)])) ?_
          rintro e w4 ⟨rfl, hT4, hC4⟩
          have HB4 : Hid (Below w.heap.size w w4) := HB.out.trans (hC4.lo HM.out HB.out.size)
          have HT4 : Hid (Tb hb mh mw me n per KN [] w4) := hT4
          have cs4 := HCE.out _ HB4.out
          clear hT4 hC4 HT HB cs
          go_wp2_with fail
          refine Calls.mono (num17 mc w4) ?_
          rintro e x2 ⟨rfl, hwx2⟩
          replace hwx2 := hwx2.symm
          subst hwx2
          go_wp2_with fail
          refine Calls.mono (learn_as nm w4 HT4.out hK5 hnl ⟨by omega, by omega⟩ (b := true) (KN' := (KN ++ [(nm, homeN nm n)])) HLB.out (by unfold learnNext; rw [if_pos HLB.out])) ?_
          rintro e w5 ⟨rfl, hT5, hC5⟩
          have HB5 : Hid (Below w.heap.size w w5) := HB4.out.trans (hC5.lo HM.out HB4.out.size)
          have HT5 : Hid (Tb hb mh mw me n per (KN ++ [(nm, homeN nm n)]) [] w5) := hT5
          have cs5 := HCE.out _ HB5.out
          clear hT5 hC5 HT4 HB4 cs4
          go_wp2_with fail
          refine Calls.mono (knows_as nm w5 HT5.out (b := true) (knows_push nm _ KN)) ?_
          rintro e x3 ⟨rfl, hwx3⟩
          replace hwx3 := hwx3.symm
          subst hwx3
          go_wp2_with fail
          go_roundw
          case rel => exact ⟨k + 1, c + 1, by omega, by go_num, rfl, KN ++ [(nm, homeN nm n)], by rw [HC0.out]; simp, HT5.out, HI2.out, by simp; exact HKL.out, HB5.out⟩
          case measure => simp [intOf]; omega
        · have HLB : Hid (learnB me n per KN nm = false) := show learnB me n per KN nm = false from by simpa using hL
          clear hL
          by_cases hkn : knows nm KN = true
          · have HKN : Hid (knows nm KN = true) := hkn
            clear hkn
            go_wp2_with fail
            refine Calls.mono (knows_as nm wr HT.out (b := true) HKN.out) ?_
            rintro e x1 ⟨rfl, hwx1⟩
            replace hwx1 := hwx1.symm
            subst hwx1
            go_wp2_with fail
            refine Calls.mono (make_as nm wr HT.out hK5 hnl ⟨by omega, by omega⟩ (c := mc) (KN' := KN) HMC.out (by unfold makeNext; rw [if_neg (by rw [HMC.out]; exact hmc0)])) ?_
            rintro e w4 ⟨rfl, hT4, hC4⟩
            have HB4 : Hid (Below w.heap.size w w4) := HB.out.trans (hC4.lo HM.out HB.out.size)
            have HT4 : Hid (Tb hb mh mw me n per KN [] w4) := hT4
            have cs4 := HCE.out _ HB4.out
            clear hT4 hC4 HT HB cs
            go_wp2_with fail
            refine Calls.mono (num17 mc w4) ?_
            rintro e x2 ⟨rfl, hwx2⟩
            replace hwx2 := hwx2.symm
            subst hwx2
            go_wp2_with fail
            refine Calls.mono (learn_as nm w4 HT4.out hK5 hnl ⟨by omega, by omega⟩ (b := false) (KN' := KN) HLB.out (by unfold learnNext; rw [if_neg (by rw [HLB.out]; simp)])) ?_
            rintro e w5 ⟨rfl, hT5, hC5⟩
            have HB5 : Hid (Below w.heap.size w w5) := HB4.out.trans (hC5.lo HM.out HB4.out.size)
            have HT5 : Hid (Tb hb mh mw me n per KN [] w5) := hT5
            have cs5 := HCE.out _ HB5.out
            clear hT5 hC5 HT4 HB4 cs4
            go_wp2_with fail
            refine Calls.mono (knows_as nm w5 HT5.out (b := true) HKN.out) ?_
            rintro e x3 ⟨rfl, hwx3⟩
            replace hwx3 := hwx3.symm
            subst hwx3
            go_wp2_with fail
            go_roundw
            case rel => exact ⟨k + 1, c, by omega, by go_num, rfl, KN, HC0.out, HT5.out, HI.out, Nat.le_succ_of_le HKL.out, HB5.out⟩
            case measure => simp [intOf]; omega
          · have HKN : Hid (knows nm KN = false) := show knows nm KN = false from by simpa using hkn
            clear hkn
            go_wp2_with fail
            refine Calls.mono (knows_as nm wr HT.out (b := false) HKN.out) ?_
            rintro e x1 ⟨rfl, hwx1⟩
            replace hwx1 := hwx1.symm
            subst hwx1
            go_wp2_with fail
            refine Calls.mono (make_as nm wr HT.out hK5 hnl ⟨by omega, by omega⟩ (c := mc) (KN' := KN) HMC.out (by unfold makeNext; rw [if_neg (by rw [HMC.out]; exact hmc0)])) ?_
            rintro e w4 ⟨rfl, hT4, hC4⟩
            have HB4 : Hid (Below w.heap.size w w4) := HB.out.trans (hC4.lo HM.out HB.out.size)
            have HT4 : Hid (Tb hb mh mw me n per KN [] w4) := hT4
            have cs4 := HCE.out _ HB4.out
            clear hT4 hC4 HT HB cs
            go_wp2_with fail
            refine Calls.mono (num17 mc w4) ?_
            rintro e x2 ⟨rfl, hwx2⟩
            replace hwx2 := hwx2.symm
            subst hwx2
            go_wp2_with fail
            refine Calls.mono (learn_as nm w4 HT4.out hK5 hnl ⟨by omega, by omega⟩ (b := false) (KN' := KN) HLB.out (by unfold learnNext; rw [if_neg (by rw [HLB.out]; simp)])) ?_
            rintro e w5 ⟨rfl, hT5, hC5⟩
            have HB5 : Hid (Below w.heap.size w w5) := HB4.out.trans (hC5.lo HM.out HB4.out.size)
            have HT5 : Hid (Tb hb mh mw me n per KN [] w5) := hT5
            have cs5 := HCE.out _ HB5.out
            clear hT5 hC5 HT4 HB4 cs4
            go_wp2_with fail
            refine Calls.mono (knows_as nm w5 HT5.out (b := false) HKN.out) ?_
            rintro e x3 ⟨rfl, hwx3⟩
            replace hwx3 := hwx3.symm
            subst hwx3
            go_wp2_with fail
            go_roundw
            case rel => exact ⟨k + 1, c, by omega, by go_num, rfl, KN, HC0.out, HT5.out, HI.out, Nat.le_succ_of_le HKL.out, HB5.out⟩
            case measure => simp [intOf]; omega
    · obtain rfl : k = N := by omega
      obtain ⟨Wl, hWl⟩ : ∃ Wl, Wl = wr := ⟨wr, rfl⟩
      subst hWl
      have HI : Hid (RI n per KN) := hR.i
      have HC0 : Hid (c = (KN.length : Nat)) := hc
      have HR : Hid _ := hR
      clear hc hR hKl
      go_wp2_with fail
      refine Calls.mono (all_any Wl HR.out.t hK5) ?_
      rintro e w5 ⟨v, ys, rfl, hp, hso, hrow, hb5⟩
      have hyl : ys.length = KN.length := by have := hp.length_eq; simpa using this
      have hyn : ys.length ≤ 100000 := by omega
      obtain ⟨aoy, capy, hv, hcy⟩ := own_slice hrow
      subst hv
      have hcap : capy ≤ maxLen := by obtain ⟨_, _, e, _, h, _⟩ := own_read hrow; cases e; exact h
      unfold maxLen at hcap
      obtain ⟨g, hg⟩ : ∃ g, 0 < ys.length → aoy = some ⟨g, 0, none⟩ := by
        obtain ⟨_, _, e, _, _, h⟩ := own_read hrow
        cases e
        by_cases h0 : 0 < ys.length
        · obtain ⟨g, e, _⟩ := h h0; exact ⟨g, fun _ => e⟩
        · exact ⟨0, fun h => absurd h h0⟩
      have hT5 := HR.out.t.more hb5
      obtain ⟨ab, hab⟩ : ∃ ab, ab = w5.heap.size := ⟨_, rfl⟩
      have hB05 : Below w.heap.size w w5 := HR.out.b.trans (hb5.mono HR.out.b.size)
      obtain ⟨X, hX⟩ : ∃ X, X = w5.alloc (.cells #[.int .i64 0, .int .i64 0, .int .i64 0, .int .i64 0, .int .i64 0, .int .i64 0, .int .i64 0, .int .i64 0, .int .i64 0, .int .i64 0, .int .i64 0, .int .i64 0, .int .i64 0, .int .i64 0, .int .i64 0, .int .i64 0] 53) := ⟨_, rfl⟩
      have hbX : Below w5.heap.size w5 X := by rw [hX]; exact (Below.refl _ _).alloc (Nat.le_refl _) _
      have H0 : Hid (R2S hb mh mw ab Wl.heap.size g capy me n per KN ys w X 0) := ⟨hT5.more hbX, by rw [hX, hab]; exact heap_alloc_new w5 _, fun h => by
        have := hrow
        rw [hg h] at this
        exact ownsRow_same this (fun g e => hbX.block g (ownsRow_lt this e).2), hB05.trans (hbX.mono hB05.size)⟩
      have HG : Hid (0 < ys.length → aoy = some ⟨g, 0, none⟩) := hg
      have HYL : Hid (ys.length = KN.length) := hyl
      have hst : ys.Pairwise (fun a b => sl a b = true) := strictS hso (hp.nodup_iff.2 HI.out.nd)
      have HST : Hid (∀ i a b, ys[i]? = some a → ys[i + 1]? = some b → sl a b = true) := fun i a b ha hb => by
        obtain ⟨hi, rfl⟩ := List.getElem?_eq_some_iff.1 ha
        obtain ⟨hj, rfl⟩ := List.getElem?_eq_some_iff.1 hb
        exact List.pairwise_iff_getElem.1 hst i (i + 1) hi hj (by omega)
      have HGD : Hid (∀ y ∈ ys, nameB y = true ∧ knows y KN = true ∧ y.length ≤ 140737488355328) := fun y hy => by
        have h1 : y ∈ KN.map (·.1) := hp.mem_iff.1 hy
        obtain ⟨p, hpm, rfl⟩ := List.mem_map.1 h1
        have h3 := (HI.out.good p hpm).1
        refine ⟨h3, (knows_iff _ _).2 h1, ?_⟩
        unfold nameB at h3
        simp at h3
        omega
      have HCN : Hid (∀ (x : Int) (j : Nat), (cntY n x (ys.take j) : Int) ≤ per) := fun x j => by
        have h1 := cntY_le n x ys j
        have h2 : cntY n x ys = cntH x KN := by rw [← cntY_KN HI.out]; exact hp.countP_eq _
        have h3 := HI.out.room x
        omega
      have HAB : Hid (w.heap.size ≤ ab) := show w.heap.size ≤ ab from by rw [hab]; exact hB05.size
      clear hp hso hrow hb5 hT5 hB05 hbX hst hg hyl
      go_upto_region 23 with fail
      rw [← hX, ← hab]
      clear hX hab
      go_wp2_with fail
      go_loopw [20] (fun s20 wr => ∃ j : Nat, j ≤ ys.length ∧ s20 = .int .i64 j ∧ R2S hb mh mw ab Wl.heap.size g capy me n per KN ys w wr j) (fun s20 _ => ys.length - (intOf s20).toNat)
      case atStart => exact ⟨0, by omega, rfl, H0.out⟩
      case round =>
        obtain ⟨j, hj, rfl, hS⟩ := hrel
        clear H0
        by_cases hjl : j < ys.length
        · obtain ⟨y, hy⟩ : ∃ y, y = ys[j] := ⟨_, rfl⟩
          have hyj : ys[j]? = some y := by rw [hy]; exact List.getElem?_eq_getElem hjl
          obtain ⟨hy1, hy2, hy3⟩ := HGD.out y (by rw [hy]; exact List.getElem_mem _)
          have hay := HG.out (by omega)
          subst hay
          have hrw := hS.r (by omega)
          have hcj : ∀ w', Below wr.heap.size wr w' → w'.cell? ⟨g, j, none⟩ = some (.string ⟨y.toArray⟩) := fun w' h => by
            have h1 := World.ownsRow.cellAt hrw j (by omega)
            rw [show (flatS ys)[j]? = some (Str y) from by unfold flatS; rw [List.getElem?_map, hyj]; rfl] at h1
            exact (h.cell (p := ⟨g, j, none⟩) (World.block_lt_of_cell? wr _ h1)).trans h1
          have HCJ : Hid _ := hcj
          have cj := hcj wr (Below.refl _ _)
          have HS : Hid _ := hS
          have HYJ : Hid (ys[j]? = some y) := hyj
          clear hS hrw hcj hy hyj
          go_wp2_with fail
          refine Calls.mono (home_any y n wr hy3 ⟨by omega, by omega⟩) ?_
          rintro e w6 ⟨rfl, hb6⟩
          obtain ⟨hm, hhm⟩ : ∃ hm, hm = homeN y n := ⟨_, rfl⟩
          have hm0 : 0 ≤ hm ∧ hm < n := by
            rw [hhm]; unfold homeN; rw [if_neg (by omega)]
            exact ⟨Int.emod_nonneg _ (by omega), Int.emod_lt_of_pos _ (by omega)⟩
          rw [← hhm]
          have HHM : Hid (hm = homeN y n) := hhm
          have cj6 := HCJ.out w6 hb6
          have cj7 : ∀ q, (w6.drewN q).cell? ⟨g, j, none⟩ = some (.string ⟨y.toArray⟩) := fun q => cj6
          have hT6 := HS.out.t.more hb6
          have hA6 : Blk w6 ab (cntA n ys j) 53 := HS.out.a.below hb6 HS.out.a.lt
          have HT6 : Hid _ := hT6
          have HA6 : Hid (Blk w6 ab (cntA n ys j) 53) := hA6
          have HB6 : Hid (Below w.heap.size w w6) := HS.out.b.trans (hb6.mono HS.out.b.size)
          have HRW6 : Hid (World.ownsRow w6 Wl.heap.size 9 1 (.slice (some ⟨g, 0, none⟩) ys.length capy) ys.length (flatS ys)) := ownsRow_same (HS.out.r (by omega)) (fun g e => hb6.block g (ownsRow_lt (HS.out.r (by omega)) e).2)
          have HK6 : Hid (∀ q, Calls Try.prog 23 #[.pointer (some ⟨hb, 0, none⟩), .string ⟨y.toArray⟩] (w6.drewN q) fun e w' => e = .returned (.bool true) ∧ w' = w6.drewN q) := fun q => knows_as y (w6.drewN q) (hT6.keep (Chg.ofBelow (fun _ => False) (below_drewN (Below.refl _ _) q)) (fun e => e) (fun e => e) (fun e => e)) hy2
          have HG6 : Hid (∀ q, Calls Try.prog 14 #[.string ⟨y.toArray⟩] (w6.drewN q) fun e w' => e = .returned (.bool true) ∧ w' = w6.drewN q) := fun q => good_as y (w6.drewN q) hy3 hy1
          clear hb6 hhm hT6 hA6 cj hy1 hy2 HS HCJ
          by_cases hj0 : j = 0
          · subst hj0
            go_wp2_with fail
            rename_i K hK
            try rw [show ∀ a : Act, a.put none undef = a from fun _ => rfl]
            refine wp_region_mix (fun wz => Below w6.heap.size w6 wz) (fun i => i == 4 || i == 12 || i == 99) 99 (by kernel_rfl) rfl (by kernel_rfl) (by kernel_rfl) (by kernel_rfl) ?_
            refine withFrP (N := 169) rfl ?_
            intro f0 F0 hff
            have e10 : f0 10 = Value.int .i64 n := hff 10
            have e12 : f0 12 = Value.pointer (some ⟨hb, 0, none⟩) := hff 12
            have e18 : f0 18 = Value.slice (some ⟨g, 0, none⟩) ys.length capy := hff 18
            have e20 : f0 20 = Value.int .i64 ((0 : Nat) : Int) := hff 20
            have e21 : f0 21 = Value.int .i64 hm := hff 21
            clear hff
            have HCC : (fun wz => Below w6.heap.size w6 wz) (({ w6 with drawn := w6.drawn + 1 } : World)) := Below.drew (Below.refl _ _)
            have CJ : ∀ wz, Below w6.heap.size w6 wz → wz.cell? ⟨g, 0, none⟩ = some (.string ⟨y.toArray⟩) := fun wz h => (h.cell (p := ⟨g, 0, none⟩) (World.block_lt_of_cell? w6 _ cj6)).trans cj6
            refine lyp F0 rfl HCC rfl (by omega) (wanted_none rfl) (v := Value.slice (some ⟨g, 0, none⟩) ys.length capy) (fun wr hwr => by simp only [execOp, (F0.eval 18 (by omega)).trans (show _ = Value.slice (some ⟨g, 0, none⟩) ys.length capy from by simp [upd, e10, e12, e18, e20, e21])]; first | rfl | simp [go_sem]) fun F1 => ?_
            refine lyp F1 rfl HCC rfl (by omega) (wanted_none rfl) (v := Value.int .i64 ((0 : Nat) : Int)) (fun wr hwr => by simp only [execOp, (F1.eval 20 (by omega)).trans (show _ = Value.int .i64 ((0 : Nat) : Int) from by simp [upd, e10, e12, e18, e20, e21])]; first | rfl | simp [go_sem]) fun F2 => ?_
            refine lyp F2 rfl HCC rfl (by omega) (wanted_none rfl) (v := Value.pointer (some ⟨g, 0, none⟩)) (fun wr hwr => by simp only [execOp, (F2.eval 115 (by omega)).trans (show _ = Value.slice (some ⟨g, 0, none⟩) ys.length capy from by simp [upd, e10, e12, e18, e20, e21]), (F2.eval 116 (by omega)).trans (show _ = Value.int .i64 ((0 : Nat) : Int) from by simp [upd, e10, e12, e18, e20, e21])]; simp only [Sem.run_bind, Sem.run_pure, Result.andThen_ok, idx_run 51 9 1 Try.underlying51 isz9 wr g 0 ys.length capy 0 hjl, Nat.zero_add, Nat.mul_one]; try rfl) fun F3 => ?_
            refine lyp F3 rfl HCC rfl (by omega) (wanted_none rfl) (v := Value.string ⟨y.toArray⟩) (fun wr hwr => by simp only [execOp, (F3.eval 117 (by omega)).trans (show _ = Value.pointer (some ⟨g, 0, none⟩) from by simp [upd, e10, e12, e18, e20, e21])]; simp [go_sem, CJ wr hwr]) fun F4 => ?_
            refine lcp F4 rfl HCC rfl (by omega) (wanted_none rfl) (g := 14) (args := #[Value.string ⟨y.toArray⟩]) (by simp only [execOp, resolve, invoke, List.map_toArray, List.map_cons, List.map_nil, (F4.eval 118 (by omega)).trans (show _ = Value.string ⟨y.toArray⟩ from by simp [upd, e10, e12, e18, e20, e21])]; simp [go_sem, Act.eval]) (HG6.out 1) ?_
            rintro e wg ⟨rfl, hwg⟩
            replace hwg := hwg.symm
            subst hwg
            refine ⟨_, rfl, fun F5 => ?_⟩
            refine lyp F5 rfl HCC rfl (by omega) (wanted_none rfl) (v := Value.bool false) (fun wr hwr => by simp only [execOp, (F5.eval 119 (by omega)).trans (show _ = Value.bool true from by simp [upd, e10, e12, e18, e20, e21])]; simp [go_sem, Act.eval]) fun F6 => ?_
            refine lyp F6 rfl HCC rfl (by omega) (wanted_none rfl) (v := Value.bool false) (fun wr hwr => by simp only [execOp, (F6.eval 120 (by omega)).trans (show _ = Value.bool false from by simp [upd, e10, e12, e18, e20, e21])]; first | rfl | simp [go_sem]) fun F7 => ?_
            refine lyp F7 rfl HCC rfl (by omega) (want_yes F7 rfl (e := 121) rfl (by omega) (show _ = Value.bool false from by simp [upd, e10, e12, e18, e20, e21])) (v := Value.pointer (some ⟨hb, 0, none⟩)) (fun wr hwr => by simp only [execOp, (F7.eval 12 (by omega)).trans (show _ = Value.pointer (some ⟨hb, 0, none⟩) from by simp [upd, e10, e12, e18, e20, e21])]; first | rfl | simp [go_sem]) fun F8 => ?_
            refine lyp F8 rfl HCC rfl (by omega) (want_yes F8 rfl (e := 121) rfl (by omega) (show _ = Value.bool false from by simp [upd, e10, e12, e18, e20, e21])) (v := Value.slice (some ⟨g, 0, none⟩) ys.length capy) (fun wr hwr => by simp only [execOp, (F8.eval 18 (by omega)).trans (show _ = Value.slice (some ⟨g, 0, none⟩) ys.length capy from by simp [upd, e10, e12, e18, e20, e21])]; first | rfl | simp [go_sem]) fun F9 => ?_
            refine lyp F9 rfl HCC rfl (by omega) (want_yes F9 rfl (e := 121) rfl (by omega) (show _ = Value.bool false from by simp [upd, e10, e12, e18, e20, e21])) (v := Value.int .i64 ((0 : Nat) : Int)) (fun wr hwr => by simp only [execOp, (F9.eval 20 (by omega)).trans (show _ = Value.int .i64 ((0 : Nat) : Int) from by simp [upd, e10, e12, e18, e20, e21])]; first | rfl | simp [go_sem]) fun F10 => ?_
            refine lyp F10 rfl HCC rfl (by omega) (want_yes F10 rfl (e := 121) rfl (by omega) (show _ = Value.bool false from by simp [upd, e10, e12, e18, e20, e21])) (v := Value.pointer (some ⟨g, 0, none⟩)) (fun wr hwr => by simp only [execOp, (F10.eval 123 (by omega)).trans (show _ = Value.slice (some ⟨g, 0, none⟩) ys.length capy from by simp [upd, e10, e12, e18, e20, e21]), (F10.eval 124 (by omega)).trans (show _ = Value.int .i64 ((0 : Nat) : Int) from by simp [upd, e10, e12, e18, e20, e21])]; simp only [Sem.run_bind, Sem.run_pure, Result.andThen_ok, idx_run 51 9 1 Try.underlying51 isz9 wr g 0 ys.length capy 0 hjl, Nat.zero_add, Nat.mul_one]; try rfl) fun F11 => ?_
            refine lyp F11 rfl HCC rfl (by omega) (want_yes F11 rfl (e := 121) rfl (by omega) (show _ = Value.bool false from by simp [upd, e10, e12, e18, e20, e21])) (v := Value.string ⟨y.toArray⟩) (fun wr hwr => by simp only [execOp, (F11.eval 125 (by omega)).trans (show _ = Value.pointer (some ⟨g, 0, none⟩) from by simp [upd, e10, e12, e18, e20, e21])]; simp [go_sem, CJ wr hwr]) fun F12 => ?_
            refine lcp F12 rfl HCC rfl (by omega) (want_yes F12 rfl (e := 121) rfl (by omega) (show _ = Value.bool false from by simp [upd, e10, e12, e18, e20, e21])) (g := 23) (args := #[Value.pointer (some ⟨hb, 0, none⟩), Value.string ⟨y.toArray⟩]) (by simp only [execOp, resolve, invoke, List.map_toArray, List.map_cons, List.map_nil, (F12.eval 122 (by omega)).trans (show _ = Value.pointer (some ⟨hb, 0, none⟩) from by simp [upd, e10, e12, e18, e20, e21]), (F12.eval 126 (by omega)).trans (show _ = Value.string ⟨y.toArray⟩ from by simp [upd, e10, e12, e18, e20, e21])]; simp [go_sem, Act.eval]) (HK6.out 1) ?_
            rintro e wg ⟨rfl, hwg⟩
            replace hwg := hwg.symm
            subst hwg
            refine ⟨_, rfl, fun F13 => ?_⟩
            refine lyp F13 rfl HCC rfl (by omega) (want_yes F13 rfl (e := 121) rfl (by omega) (show _ = Value.bool false from by simp [upd, e10, e12, e18, e20, e21])) (v := Value.bool false) (fun wr hwr => by simp only [execOp, (F13.eval 127 (by omega)).trans (show _ = Value.bool true from by simp [upd, e10, e12, e18, e20, e21])]; simp [go_sem, Act.eval]) fun F14 => ?_
            refine lyp F14 rfl HCC rfl (by omega) (wanted_none rfl) (v := Value.bool false) (fun wr hwr => by simp only [execOp, (F14.eval 121 (by omega)).trans (show _ = Value.bool false from by simp [upd, e10, e12, e18, e20, e21]), (F14.eval 128 (by omega)).trans (show _ = Value.bool false from by simp [upd, e10, e12, e18, e20, e21])]; simp [go_sem, Act.eval]) fun F15 => ?_
            refine lyp F15 rfl HCC rfl (by omega) (wanted_none rfl) (v := Value.bool false) (fun wr hwr => by simp only [execOp, (F15.eval 129 (by omega)).trans (show _ = Value.bool false from by simp [upd, e10, e12, e18, e20, e21])]; first | rfl | simp [go_sem]) fun F16 => ?_
            refine lyp F16 rfl HCC rfl (by omega) (want_yes F16 rfl (e := 130) rfl (by omega) (show _ = Value.bool false from by simp [upd, e10, e12, e18, e20, e21])) (v := Value.int .i64 ((0 : Nat) : Int)) (fun wr hwr => by simp only [execOp, (F16.eval 20 (by omega)).trans (show _ = Value.int .i64 ((0 : Nat) : Int) from by simp [upd, e10, e12, e18, e20, e21])]; first | rfl | simp [go_sem]) fun F17 => ?_
            refine lyp F17 rfl HCC rfl (by omega) (want_yes F17 rfl (e := 130) rfl (by omega) (show _ = Value.bool false from by simp [upd, e10, e12, e18, e20, e21])) (v := Value.bool false) (fun wr hwr => by simp only [execOp, (F17.eval 131 (by omega)).trans (show _ = Value.int .i64 ((0 : Nat) : Int) from by simp [upd, e10, e12, e18, e20, e21])]; simp [go_sem, Act.eval]) fun F18 => ?_
            refine lyp F18 rfl HCC rfl (by omega) (want_yes F18 rfl (e := 130) rfl (by omega) (show _ = Value.bool false from by simp [upd, e10, e12, e18, e20, e21])) (v := Value.bool false) (fun wr hwr => by simp only [execOp, (F18.eval 132 (by omega)).trans (show _ = Value.bool false from by simp [upd, e10, e12, e18, e20, e21])]; first | rfl | simp [go_sem]) fun F19 => ?_
            refine lnp F19 rfl HCC rfl (by omega) (want_no F19 rfl (e := 133) rfl (by omega) (show _ = Value.bool false from by simp [upd, e10, e12, e18, e20, e21]) (by decide)) fun F20 => ?_
            refine lnp F20 rfl HCC rfl (by omega) (want_no F20 rfl (e := 133) rfl (by omega) (show _ = Value.bool false from by simp [upd, e10, e12, e18, e20, e21]) (by decide)) fun F21 => ?_
            refine lnp F21 rfl HCC rfl (by omega) (want_no F21 rfl (e := 133) rfl (by omega) (show _ = Value.bool false from by simp [upd, e10, e12, e18, e20, e21]) (by decide)) fun F22 => ?_
            refine lnp F22 rfl HCC rfl (by omega) (want_no F22 rfl (e := 133) rfl (by omega) (show _ = Value.bool false from by simp [upd, e10, e12, e18, e20, e21]) (by decide)) fun F23 => ?_
            refine lnp F23 rfl HCC rfl (by omega) (want_no F23 rfl (e := 133) rfl (by omega) (show _ = Value.bool false from by simp [upd, e10, e12, e18, e20, e21]) (by decide)) fun F24 => ?_
            refine lnp F24 rfl HCC rfl (by omega) (want_no F24 rfl (e := 133) rfl (by omega) (show _ = Value.bool false from by simp [upd, e10, e12, e18, e20, e21]) (by decide)) fun F25 => ?_
            refine lnp F25 rfl HCC rfl (by omega) (want_no F25 rfl (e := 133) rfl (by omega) (show _ = Value.bool false from by simp [upd, e10, e12, e18, e20, e21]) (by decide)) fun F26 => ?_
            refine lnp F26 rfl HCC rfl (by omega) (want_no F26 rfl (e := 133) rfl (by omega) (show _ = Value.bool false from by simp [upd, e10, e12, e18, e20, e21]) (by decide)) fun F27 => ?_
            refine lnp F27 rfl HCC rfl (by omega) (want_no F27 rfl (e := 133) rfl (by omega) (show _ = Value.bool false from by simp [upd, e10, e12, e18, e20, e21]) (by decide)) fun F28 => ?_
            refine lnp F28 rfl HCC rfl (by omega) (want_no F28 rfl (e := 133) rfl (by omega) (show _ = Value.bool false from by simp [upd, e10, e12, e18, e20, e21]) (by decide)) fun F29 => ?_
            refine lyp F29 rfl HCC rfl (by omega) (want_yes F29 rfl (e := 130) rfl (by omega) (show _ = Value.bool false from by simp [upd, e10, e12, e18, e20, e21])) (v := Value.bool false) (fun wr hwr => by simp only [execOp, (F29.eval 133 (by omega)).trans (show _ = Value.bool false from by simp [upd, e10, e12, e18, e20, e21])]; simp [go_sem, Act.eval]) fun F30 => ?_
            refine lyp F30 rfl HCC rfl (by omega) (wanted_none rfl) (v := Value.bool false) (fun wr hwr => by simp only [execOp, (F30.eval 130 (by omega)).trans (show _ = Value.bool false from by simp [upd, e10, e12, e18, e20, e21]), (F30.eval 144 (by omega)).trans (show _ = Value.bool false from by simp [upd, e10, e12, e18, e20, e21])]; simp [go_sem, Act.eval]) fun F31 => ?_
            refine lyp F31 rfl HCC rfl (by omega) (wanted_none rfl) (v := Value.bool false) (fun wr hwr => by simp only [execOp, (F31.eval 145 (by omega)).trans (show _ = Value.bool false from by simp [upd, e10, e12, e18, e20, e21])]; first | rfl | simp [go_sem]) fun F32 => ?_
            refine lyp F32 rfl HCC rfl (by omega) (want_yes F32 rfl (e := 146) rfl (by omega) (show _ = Value.bool false from by simp [upd, e10, e12, e18, e20, e21])) (v := Value.int .i64 hm) (fun wr hwr => by simp only [execOp, (F32.eval 21 (by omega)).trans (show _ = Value.int .i64 hm from by simp [upd, e10, e12, e18, e20, e21])]; first | rfl | simp [go_sem]) fun F33 => ?_
            refine lyp F33 rfl HCC rfl (by omega) (want_yes F33 rfl (e := 146) rfl (by omega) (show _ = Value.bool false from by simp [upd, e10, e12, e18, e20, e21])) (v := Value.bool false) (fun wr hwr => by simp only [execOp, (F33.eval 147 (by omega)).trans (show _ = Value.int .i64 hm from by simp [upd, e10, e12, e18, e20, e21])]; simp [go_sem, Act.eval]; try omega) fun F34 => ?_
            refine lyp F34 rfl HCC rfl (by omega) (wanted_none rfl) (v := Value.bool false) (fun wr hwr => by simp only [execOp, (F34.eval 146 (by omega)).trans (show _ = Value.bool false from by simp [upd, e10, e12, e18, e20, e21]), (F34.eval 148 (by omega)).trans (show _ = Value.bool false from by simp [upd, e10, e12, e18, e20, e21])]; simp [go_sem, Act.eval]) fun F35 => ?_
            refine lyp F35 rfl HCC rfl (by omega) (wanted_none rfl) (v := Value.bool false) (fun wr hwr => by simp only [execOp, (F35.eval 149 (by omega)).trans (show _ = Value.bool false from by simp [upd, e10, e12, e18, e20, e21])]; first | rfl | simp [go_sem]) fun F36 => ?_
            refine lyp F36 rfl HCC rfl (by omega) (want_yes F36 rfl (e := 150) rfl (by omega) (show _ = Value.bool false from by simp [upd, e10, e12, e18, e20, e21])) (v := Value.int .i64 hm) (fun wr hwr => by simp only [execOp, (F36.eval 21 (by omega)).trans (show _ = Value.int .i64 hm from by simp [upd, e10, e12, e18, e20, e21])]; first | rfl | simp [go_sem]) fun F37 => ?_
            refine lyp F37 rfl HCC rfl (by omega) (want_yes F37 rfl (e := 150) rfl (by omega) (show _ = Value.bool false from by simp [upd, e10, e12, e18, e20, e21])) (v := Value.int .i64 n) (fun wr hwr => by simp only [execOp, (F37.eval 10 (by omega)).trans (show _ = Value.int .i64 n from by simp [upd, e10, e12, e18, e20, e21])]; first | rfl | simp [go_sem]) fun F38 => ?_
            refine lyp F38 rfl HCC rfl (by omega) (want_yes F38 rfl (e := 150) rfl (by omega) (show _ = Value.bool false from by simp [upd, e10, e12, e18, e20, e21])) (v := Value.bool false) (fun wr hwr => by simp only [execOp, (F38.eval 151 (by omega)).trans (show _ = Value.int .i64 hm from by simp [upd, e10, e12, e18, e20, e21]), (F38.eval 152 (by omega)).trans (show _ = Value.int .i64 n from by simp [upd, e10, e12, e18, e20, e21])]; simp [go_sem, Act.eval]; try omega) fun F39 => ?_
            refine lyp F39 rfl HCC rfl (by omega) (wanted_none rfl) (v := Value.bool false) (fun wr hwr => by simp only [execOp, (F39.eval 150 (by omega)).trans (show _ = Value.bool false from by simp [upd, e10, e12, e18, e20, e21]), (F39.eval 153 (by omega)).trans (show _ = Value.bool false from by simp [upd, e10, e12, e18, e20, e21])]; simp [go_sem, Act.eval]) fun F40 => ?_
            refine ⟨fun _ => HCC, ?_⟩
            refine hK _ _ ?_
            clear F0 F1 F2 F3 F4 F5 F6 F7 F8 F9 F10 F11 F12 F13 F14 F15 F16 F17 F18 F19 F20 F21 F22 F23 F24 F25 F26 F27 F28 F29 F30 F31 F32 F33 F34 F35 F36 F37 F38 F39 F40 e10 e12 e18 e20 e21 CJ HCC
            simp only [Act.put, List.setIfInBounds_toArray, List.set_cons_succ, List.set_cons_zero]
            have hA7 : Blk (w6.drewN 1) ab (cntA n ys 0) 53 := HA6.out
            have HB7 : Hid (Below w.heap.size w (w6.drewN 1)) := HB6.out.trans (below_drewN (Below.refl _ _) 1)
            have HT7 : Hid (Tb hb mh mw me n per KN [] (w6.drewN 1)) := HT6.out.keep (Chg.ofBelow (fun _ => False) (below_drewN (Below.refl _ _) 1)) (fun e => e) (fun e => e) (fun e => e)
            have HR7 : Hid (World.ownsRow (w6.drewN 1) Wl.heap.size 9 1 (.slice (some ⟨g, 0, none⟩) ys.length capy) ys.length (flatS ys)) := HRW6.out
            generalize w6.drewN 1 = W7 at hA7 HB7 HT7 HR7 ⊢
            have hmn : hm = (hm.toNat : Int) := by omega
            obtain ⟨xm, hxm⟩ : ∃ xm, xm = hm.toNat := ⟨_, rfl⟩
            rw [← hxm] at hmn
            have hx16 : xm < 16 := by omega
            have cA : W7.cell? ⟨ab, xm, none⟩ = some (.int .i64 (cntY n (xm : Nat) (ys.take 0) : Nat)) := (hA7.cell xm).trans (cntA_at _ _ _ _ hx16)
            have fA := hA7.frozen xm
            have hcp := HCN.out (xm : Nat) 0
            have hcp2 := HCN.out (xm : Nat) (0 + 1)
            rw [cntY_take HYJ.out, if_pos (by rw [← HHM.out, ← hmn])] at hcp2
            have hset := cntA_set (rep := n) (x := xm) HYJ.out (by rw [← HHM.out, ← hmn])
            have hA8 : Blk (W7.setCell ⟨ab, xm, none⟩ (.int .i64 ((cntY n (xm : Nat) (ys.take 0) : Nat) + 1 : Int))) ab (cntA n ys (0 + 1)) 53 := by
              have := hA7.set xm (.int .i64 ((cntY n (xm : Nat) (ys.take 0) : Nat) + 1 : Int))
              rwa [hset] at this
            have hlow : w.heap.size ≤ ab := HAB.out
            have hch : Chg (fun b => b = ab) W7 (W7.setCell ⟨ab, xm, none⟩ (.int .i64 ((cntY n (xm : Nat) (ys.take 0) : Nat) + 1 : Int))) := ⟨rfl, rfl, rfl, by simp [World.setCell], fun j hj hn => Below.heap_setCell _ _ _ _ hn⟩
            have HN : Hid (R2S hb mh mw ab Wl.heap.size g capy me n per KN ys w (W7.setCell ⟨ab, xm, none⟩ (.int .i64 ((cntY n (xm : Nat) (ys.take 0) : Nat) + 1 : Int))) (0 + 1)) := ⟨HT7.out.keep hch (HT7.out.blk.ne_t hA7 (by decide)) (fun e => HT7.out.hm.ne_b hA7 e.symm) (fun e => HT7.out.wm.ne_b hA7 e.symm), hA8, fun _ => ownsRow_same HR7.out (fun g e => by
              obtain ⟨cu, hcu⟩ := ownsRow_type HR7.out e
              exact hch.block g (ownsRow_lt HR7.out e).2 ((show Blk W7 g cu 9 from hcu).ne_t hA7 (by decide))), HB7.out.trans (hch.below HB7.out.size (fun k e => by rw [e]; exact hlow))⟩
            have c8 : (W7.setCell ⟨ab, xm, none⟩ (.int .i64 ((cntY n (xm : Nat) (ys.take 0) : Nat) + 1 : Int))).cell? ⟨ab, xm, none⟩ = some (.int .i64 ((cntY n (xm : Nat) (ys.take 0) : Nat) + 1 : Int)) := by
              rw [hA8.cell xm, cntA_at _ _ _ _ hx16, cntY_take HYJ.out, if_pos (by rw [← HHM.out, ← hmn])]
              rfl
            subst hmn
            generalize cntY n (xm : Nat) (ys.take 0) = cy at *
            clear hset hA8 hch hxm HA6 HT6 HRW6 HB6 hA7 HT7 HR7 HB7 HHM HYJ HK6 HG6 cj6 cj7
            go_wp2_with fail
            go_roundw
            case rel => exact ⟨0 + 1, by omega, by go_num, HN.out⟩
            case measure => simp [intOf]; omega
          · obtain ⟨i, rfl⟩ : ∃ i, j = i + 1 := ⟨j - 1, by omega⟩
            obtain ⟨x, hx⟩ : ∃ x, x = ys[i] := ⟨_, rfl⟩
            have hxi : ys[i]? = some x := by rw [hx]; exact List.getElem?_eq_getElem (by omega)
            have hsl := HST.out i x y hxi HYJ.out
            have hraw := sl_raw x y
            rw [hsl] at hraw
            have hraw2 : Op.bytesLess x y = true := by simpa using hraw
            have ci : w6.cell? ⟨g, i, none⟩ = some (.string ⟨x.toArray⟩) := by
              have h1 := World.ownsRow.cellAt HRW6.out i (by omega)
              rw [show (flatS ys)[i]? = some (Str x) from by unfold flatS; rw [List.getElem?_map, hxi]; rfl] at h1
              exact h1
            have ci7 : ∀ q, (w6.drewN q).cell? ⟨g, i, none⟩ = some (.string ⟨x.toArray⟩) := fun q => ci
            clear hx hxi hsl hj0
            go_wp2_with fail
            rename_i K hK
            try rw [show ∀ a : Act, a.put none undef = a from fun _ => rfl]
            refine wp_region_mix (fun wz => Below w6.heap.size w6 wz) (fun i => i == 4 || i == 12 || i == 99) 99 (by kernel_rfl) rfl (by kernel_rfl) (by kernel_rfl) (by kernel_rfl) ?_
            refine withFrP (N := 169) rfl ?_
            intro f0 F0 hff
            have e10 : f0 10 = Value.int .i64 n := hff 10
            have e12 : f0 12 = Value.pointer (some ⟨hb, 0, none⟩) := hff 12
            have e18 : f0 18 = Value.slice (some ⟨g, 0, none⟩) ys.length capy := hff 18
            have e20 : f0 20 = Value.int .i64 ((i + 1 : Nat) : Int) := hff 20
            have e21 : f0 21 = Value.int .i64 hm := hff 21
            clear hff
            have HCC : (fun wz => Below w6.heap.size w6 wz) (({ w6 with drawn := w6.drawn + 1 } : World)) := Below.drew (Below.refl _ _)
            have CJ : ∀ wz, Below w6.heap.size w6 wz → wz.cell? ⟨g, (i + 1), none⟩ = some (.string ⟨y.toArray⟩) := fun wz h => (h.cell (p := ⟨g, (i + 1), none⟩) (World.block_lt_of_cell? w6 _ cj6)).trans cj6
            have CI : ∀ wz, Below w6.heap.size w6 wz → wz.cell? ⟨g, i, none⟩ = some (.string ⟨x.toArray⟩) := fun wz h => (h.cell (p := ⟨g, i, none⟩) (World.block_lt_of_cell? w6 _ ci)).trans ci
            refine lyp F0 rfl HCC rfl (by omega) (wanted_none rfl) (v := Value.slice (some ⟨g, 0, none⟩) ys.length capy) (fun wr hwr => by simp only [execOp, (F0.eval 18 (by omega)).trans (show _ = Value.slice (some ⟨g, 0, none⟩) ys.length capy from by simp [upd, e10, e12, e18, e20, e21])]; first | rfl | simp [go_sem]) fun F1 => ?_
            refine lyp F1 rfl HCC rfl (by omega) (wanted_none rfl) (v := Value.int .i64 ((i + 1 : Nat) : Int)) (fun wr hwr => by simp only [execOp, (F1.eval 20 (by omega)).trans (show _ = Value.int .i64 ((i + 1 : Nat) : Int) from by simp [upd, e10, e12, e18, e20, e21])]; first | rfl | simp [go_sem]) fun F2 => ?_
            refine lyp F2 rfl HCC rfl (by omega) (wanted_none rfl) (v := Value.pointer (some ⟨g, (i + 1), none⟩)) (fun wr hwr => by simp only [execOp, (F2.eval 115 (by omega)).trans (show _ = Value.slice (some ⟨g, 0, none⟩) ys.length capy from by simp [upd, e10, e12, e18, e20, e21]), (F2.eval 116 (by omega)).trans (show _ = Value.int .i64 ((i + 1 : Nat) : Int) from by simp [upd, e10, e12, e18, e20, e21])]; simp only [Sem.run_bind, Sem.run_pure, Result.andThen_ok, idx_run 51 9 1 Try.underlying51 isz9 wr g 0 ys.length capy (i + 1) hjl, Nat.zero_add, Nat.mul_one]; try rfl) fun F3 => ?_
            refine lyp F3 rfl HCC rfl (by omega) (wanted_none rfl) (v := Value.string ⟨y.toArray⟩) (fun wr hwr => by simp only [execOp, (F3.eval 117 (by omega)).trans (show _ = Value.pointer (some ⟨g, (i + 1), none⟩) from by simp [upd, e10, e12, e18, e20, e21])]; simp [go_sem, CJ wr hwr]) fun F4 => ?_
            refine lcp F4 rfl HCC rfl (by omega) (wanted_none rfl) (g := 14) (args := #[Value.string ⟨y.toArray⟩]) (by simp only [execOp, resolve, invoke, List.map_toArray, List.map_cons, List.map_nil, (F4.eval 118 (by omega)).trans (show _ = Value.string ⟨y.toArray⟩ from by simp [upd, e10, e12, e18, e20, e21])]; simp [go_sem, Act.eval]) (HG6.out 1) ?_
            rintro e wg ⟨rfl, hwg⟩
            replace hwg := hwg.symm
            subst hwg
            refine ⟨_, rfl, fun F5 => ?_⟩
            refine lyp F5 rfl HCC rfl (by omega) (wanted_none rfl) (v := Value.bool false) (fun wr hwr => by simp only [execOp, (F5.eval 119 (by omega)).trans (show _ = Value.bool true from by simp [upd, e10, e12, e18, e20, e21])]; simp [go_sem, Act.eval]) fun F6 => ?_
            refine lyp F6 rfl HCC rfl (by omega) (wanted_none rfl) (v := Value.bool false) (fun wr hwr => by simp only [execOp, (F6.eval 120 (by omega)).trans (show _ = Value.bool false from by simp [upd, e10, e12, e18, e20, e21])]; first | rfl | simp [go_sem]) fun F7 => ?_
            refine lyp F7 rfl HCC rfl (by omega) (want_yes F7 rfl (e := 121) rfl (by omega) (show _ = Value.bool false from by simp [upd, e10, e12, e18, e20, e21])) (v := Value.pointer (some ⟨hb, 0, none⟩)) (fun wr hwr => by simp only [execOp, (F7.eval 12 (by omega)).trans (show _ = Value.pointer (some ⟨hb, 0, none⟩) from by simp [upd, e10, e12, e18, e20, e21])]; first | rfl | simp [go_sem]) fun F8 => ?_
            refine lyp F8 rfl HCC rfl (by omega) (want_yes F8 rfl (e := 121) rfl (by omega) (show _ = Value.bool false from by simp [upd, e10, e12, e18, e20, e21])) (v := Value.slice (some ⟨g, 0, none⟩) ys.length capy) (fun wr hwr => by simp only [execOp, (F8.eval 18 (by omega)).trans (show _ = Value.slice (some ⟨g, 0, none⟩) ys.length capy from by simp [upd, e10, e12, e18, e20, e21])]; first | rfl | simp [go_sem]) fun F9 => ?_
            refine lyp F9 rfl HCC rfl (by omega) (want_yes F9 rfl (e := 121) rfl (by omega) (show _ = Value.bool false from by simp [upd, e10, e12, e18, e20, e21])) (v := Value.int .i64 ((i + 1 : Nat) : Int)) (fun wr hwr => by simp only [execOp, (F9.eval 20 (by omega)).trans (show _ = Value.int .i64 ((i + 1 : Nat) : Int) from by simp [upd, e10, e12, e18, e20, e21])]; first | rfl | simp [go_sem]) fun F10 => ?_
            refine lyp F10 rfl HCC rfl (by omega) (want_yes F10 rfl (e := 121) rfl (by omega) (show _ = Value.bool false from by simp [upd, e10, e12, e18, e20, e21])) (v := Value.pointer (some ⟨g, (i + 1), none⟩)) (fun wr hwr => by simp only [execOp, (F10.eval 123 (by omega)).trans (show _ = Value.slice (some ⟨g, 0, none⟩) ys.length capy from by simp [upd, e10, e12, e18, e20, e21]), (F10.eval 124 (by omega)).trans (show _ = Value.int .i64 ((i + 1 : Nat) : Int) from by simp [upd, e10, e12, e18, e20, e21])]; simp only [Sem.run_bind, Sem.run_pure, Result.andThen_ok, idx_run 51 9 1 Try.underlying51 isz9 wr g 0 ys.length capy (i + 1) hjl, Nat.zero_add, Nat.mul_one]; try rfl) fun F11 => ?_
            refine lyp F11 rfl HCC rfl (by omega) (want_yes F11 rfl (e := 121) rfl (by omega) (show _ = Value.bool false from by simp [upd, e10, e12, e18, e20, e21])) (v := Value.string ⟨y.toArray⟩) (fun wr hwr => by simp only [execOp, (F11.eval 125 (by omega)).trans (show _ = Value.pointer (some ⟨g, (i + 1), none⟩) from by simp [upd, e10, e12, e18, e20, e21])]; simp [go_sem, CJ wr hwr]) fun F12 => ?_
            refine lcp F12 rfl HCC rfl (by omega) (want_yes F12 rfl (e := 121) rfl (by omega) (show _ = Value.bool false from by simp [upd, e10, e12, e18, e20, e21])) (g := 23) (args := #[Value.pointer (some ⟨hb, 0, none⟩), Value.string ⟨y.toArray⟩]) (by simp only [execOp, resolve, invoke, List.map_toArray, List.map_cons, List.map_nil, (F12.eval 122 (by omega)).trans (show _ = Value.pointer (some ⟨hb, 0, none⟩) from by simp [upd, e10, e12, e18, e20, e21]), (F12.eval 126 (by omega)).trans (show _ = Value.string ⟨y.toArray⟩ from by simp [upd, e10, e12, e18, e20, e21])]; simp [go_sem, Act.eval]) (HK6.out 1) ?_
            rintro e wg ⟨rfl, hwg⟩
            replace hwg := hwg.symm
            subst hwg
            refine ⟨_, rfl, fun F13 => ?_⟩
            refine lyp F13 rfl HCC rfl (by omega) (want_yes F13 rfl (e := 121) rfl (by omega) (show _ = Value.bool false from by simp [upd, e10, e12, e18, e20, e21])) (v := Value.bool false) (fun wr hwr => by simp only [execOp, (F13.eval 127 (by omega)).trans (show _ = Value.bool true from by simp [upd, e10, e12, e18, e20, e21])]; simp [go_sem, Act.eval]) fun F14 => ?_
            refine lyp F14 rfl HCC rfl (by omega) (wanted_none rfl) (v := Value.bool false) (fun wr hwr => by simp only [execOp, (F14.eval 121 (by omega)).trans (show _ = Value.bool false from by simp [upd, e10, e12, e18, e20, e21]), (F14.eval 128 (by omega)).trans (show _ = Value.bool false from by simp [upd, e10, e12, e18, e20, e21])]; simp [go_sem, Act.eval]) fun F15 => ?_
            refine lyp F15 rfl HCC rfl (by omega) (wanted_none rfl) (v := Value.bool false) (fun wr hwr => by simp only [execOp, (F15.eval 129 (by omega)).trans (show _ = Value.bool false from by simp [upd, e10, e12, e18, e20, e21])]; first | rfl | simp [go_sem]) fun F16 => ?_
            refine lyp F16 rfl HCC rfl (by omega) (want_yes F16 rfl (e := 130) rfl (by omega) (show _ = Value.bool false from by simp [upd, e10, e12, e18, e20, e21])) (v := Value.int .i64 ((i + 1 : Nat) : Int)) (fun wr hwr => by simp only [execOp, (F16.eval 20 (by omega)).trans (show _ = Value.int .i64 ((i + 1 : Nat) : Int) from by simp [upd, e10, e12, e18, e20, e21])]; first | rfl | simp [go_sem]) fun F17 => ?_
            refine lyp F17 rfl HCC rfl (by omega) (want_yes F17 rfl (e := 130) rfl (by omega) (show _ = Value.bool false from by simp [upd, e10, e12, e18, e20, e21])) (v := Value.bool true) (fun wr hwr => by simp only [execOp, (F17.eval 131 (by omega)).trans (show _ = Value.int .i64 ((i + 1 : Nat) : Int) from by simp [upd, e10, e12, e18, e20, e21])]; simp [go_sem, Act.eval]; try omega) fun F18 => ?_
            refine lyp F18 rfl HCC rfl (by omega) (want_yes F18 rfl (e := 130) rfl (by omega) (show _ = Value.bool false from by simp [upd, e10, e12, e18, e20, e21])) (v := Value.bool true) (fun wr hwr => by simp only [execOp, (F18.eval 132 (by omega)).trans (show _ = Value.bool true from by simp [upd, e10, e12, e18, e20, e21])]; first | rfl | simp [go_sem]) fun F19 => ?_
            refine lyp F19 rfl HCC rfl (by omega) (want_yes F19 rfl (e := 133) rfl (by omega) (show _ = Value.bool true from by simp [upd, e10, e12, e18, e20, e21])) (v := Value.slice (some ⟨g, 0, none⟩) ys.length capy) (fun wr hwr => by simp only [execOp, (F19.eval 18 (by omega)).trans (show _ = Value.slice (some ⟨g, 0, none⟩) ys.length capy from by simp [upd, e10, e12, e18, e20, e21])]; first | rfl | simp [go_sem]) fun F20 => ?_
            refine lyp F20 rfl HCC rfl (by omega) (want_yes F20 rfl (e := 133) rfl (by omega) (show _ = Value.bool true from by simp [upd, e10, e12, e18, e20, e21])) (v := Value.int .i64 ((i + 1 : Nat) : Int)) (fun wr hwr => by simp only [execOp, (F20.eval 20 (by omega)).trans (show _ = Value.int .i64 ((i + 1 : Nat) : Int) from by simp [upd, e10, e12, e18, e20, e21])]; first | rfl | simp [go_sem]) fun F21 => ?_
            refine lyp F21 rfl HCC rfl (by omega) (want_yes F21 rfl (e := 133) rfl (by omega) (show _ = Value.bool true from by simp [upd, e10, e12, e18, e20, e21])) (v := Value.int .i64 ((i : Nat) : Int)) (fun wr hwr => by simp only [execOp, (F21.eval 135 (by omega)).trans (show _ = Value.int .i64 ((i + 1 : Nat) : Int) from by simp [upd, e10, e12, e18, e20, e21])]; simp [go_sem, Act.eval]; try (rw [IntKind.wrap_i64]; omega)) fun F22 => ?_
            refine lyp F22 rfl HCC rfl (by omega) (want_yes F22 rfl (e := 133) rfl (by omega) (show _ = Value.bool true from by simp [upd, e10, e12, e18, e20, e21])) (v := Value.pointer (some ⟨g, i, none⟩)) (fun wr hwr => by simp only [execOp, (F22.eval 134 (by omega)).trans (show _ = Value.slice (some ⟨g, 0, none⟩) ys.length capy from by simp [upd, e10, e12, e18, e20, e21]), (F22.eval 136 (by omega)).trans (show _ = Value.int .i64 ((i : Nat) : Int) from by simp [upd, e10, e12, e18, e20, e21])]; simp only [Sem.run_bind, Sem.run_pure, Result.andThen_ok, idx_run 51 9 1 Try.underlying51 isz9 wr g 0 ys.length capy i (by omega), Nat.zero_add, Nat.mul_one]; try rfl) fun F23 => ?_
            refine lyp F23 rfl HCC rfl (by omega) (want_yes F23 rfl (e := 133) rfl (by omega) (show _ = Value.bool true from by simp [upd, e10, e12, e18, e20, e21])) (v := Value.string ⟨x.toArray⟩) (fun wr hwr => by simp only [execOp, (F23.eval 137 (by omega)).trans (show _ = Value.pointer (some ⟨g, i, none⟩) from by simp [upd, e10, e12, e18, e20, e21])]; simp [go_sem, CI wr hwr]) fun F24 => ?_
            refine lyp F24 rfl HCC rfl (by omega) (want_yes F24 rfl (e := 133) rfl (by omega) (show _ = Value.bool true from by simp [upd, e10, e12, e18, e20, e21])) (v := Value.slice (some ⟨g, 0, none⟩) ys.length capy) (fun wr hwr => by simp only [execOp, (F24.eval 18 (by omega)).trans (show _ = Value.slice (some ⟨g, 0, none⟩) ys.length capy from by simp [upd, e10, e12, e18, e20, e21])]; first | rfl | simp [go_sem]) fun F25 => ?_
            refine lyp F25 rfl HCC rfl (by omega) (want_yes F25 rfl (e := 133) rfl (by omega) (show _ = Value.bool true from by simp [upd, e10, e12, e18, e20, e21])) (v := Value.int .i64 ((i + 1 : Nat) : Int)) (fun wr hwr => by simp only [execOp, (F25.eval 20 (by omega)).trans (show _ = Value.int .i64 ((i + 1 : Nat) : Int) from by simp [upd, e10, e12, e18, e20, e21])]; first | rfl | simp [go_sem]) fun F26 => ?_
            refine lyp F26 rfl HCC rfl (by omega) (want_yes F26 rfl (e := 133) rfl (by omega) (show _ = Value.bool true from by simp [upd, e10, e12, e18, e20, e21])) (v := Value.pointer (some ⟨g, (i + 1), none⟩)) (fun wr hwr => by simp only [execOp, (F26.eval 139 (by omega)).trans (show _ = Value.slice (some ⟨g, 0, none⟩) ys.length capy from by simp [upd, e10, e12, e18, e20, e21]), (F26.eval 140 (by omega)).trans (show _ = Value.int .i64 ((i + 1 : Nat) : Int) from by simp [upd, e10, e12, e18, e20, e21])]; simp only [Sem.run_bind, Sem.run_pure, Result.andThen_ok, idx_run 51 9 1 Try.underlying51 isz9 wr g 0 ys.length capy (i + 1) hjl, Nat.zero_add, Nat.mul_one]; try rfl) fun F27 => ?_
            refine lyp F27 rfl HCC rfl (by omega) (want_yes F27 rfl (e := 133) rfl (by omega) (show _ = Value.bool true from by simp [upd, e10, e12, e18, e20, e21])) (v := Value.string ⟨y.toArray⟩) (fun wr hwr => by simp only [execOp, (F27.eval 141 (by omega)).trans (show _ = Value.pointer (some ⟨g, (i + 1), none⟩) from by simp [upd, e10, e12, e18, e20, e21])]; simp [go_sem, CJ wr hwr]) fun F28 => ?_
            refine lyp F28 rfl HCC rfl (by omega) (want_yes F28 rfl (e := 133) rfl (by omega) (show _ = Value.bool true from by simp [upd, e10, e12, e18, e20, e21])) (v := Value.bool false) (fun wr hwr => by simp only [execOp, (F28.eval 138 (by omega)).trans (show _ = Value.string ⟨x.toArray⟩ from by simp [upd, e10, e12, e18, e20, e21]), (F28.eval 142 (by omega)).trans (show _ = Value.string ⟨y.toArray⟩ from by simp [upd, e10, e12, e18, e20, e21])]; simp [go_sem, Act.eval, hraw2]) fun F29 => ?_
            refine lyp F29 rfl HCC rfl (by omega) (want_yes F29 rfl (e := 130) rfl (by omega) (show _ = Value.bool false from by simp [upd, e10, e12, e18, e20, e21])) (v := Value.bool false) (fun wr hwr => by simp only [execOp, (F29.eval 133 (by omega)).trans (show _ = Value.bool true from by simp [upd, e10, e12, e18, e20, e21]), (F29.eval 143 (by omega)).trans (show _ = Value.bool false from by simp [upd, e10, e12, e18, e20, e21])]; simp [go_sem, Act.eval]) fun F30 => ?_
            refine lyp F30 rfl HCC rfl (by omega) (wanted_none rfl) (v := Value.bool false) (fun wr hwr => by simp only [execOp, (F30.eval 130 (by omega)).trans (show _ = Value.bool false from by simp [upd, e10, e12, e18, e20, e21]), (F30.eval 144 (by omega)).trans (show _ = Value.bool false from by simp [upd, e10, e12, e18, e20, e21])]; simp [go_sem, Act.eval]) fun F31 => ?_
            refine lyp F31 rfl HCC rfl (by omega) (wanted_none rfl) (v := Value.bool false) (fun wr hwr => by simp only [execOp, (F31.eval 145 (by omega)).trans (show _ = Value.bool false from by simp [upd, e10, e12, e18, e20, e21])]; first | rfl | simp [go_sem]) fun F32 => ?_
            refine lyp F32 rfl HCC rfl (by omega) (want_yes F32 rfl (e := 146) rfl (by omega) (show _ = Value.bool false from by simp [upd, e10, e12, e18, e20, e21])) (v := Value.int .i64 hm) (fun wr hwr => by simp only [execOp, (F32.eval 21 (by omega)).trans (show _ = Value.int .i64 hm from by simp [upd, e10, e12, e18, e20, e21])]; first | rfl | simp [go_sem]) fun F33 => ?_
            refine lyp F33 rfl HCC rfl (by omega) (want_yes F33 rfl (e := 146) rfl (by omega) (show _ = Value.bool false from by simp [upd, e10, e12, e18, e20, e21])) (v := Value.bool false) (fun wr hwr => by simp only [execOp, (F33.eval 147 (by omega)).trans (show _ = Value.int .i64 hm from by simp [upd, e10, e12, e18, e20, e21])]; simp [go_sem, Act.eval]; try omega) fun F34 => ?_
            refine lyp F34 rfl HCC rfl (by omega) (wanted_none rfl) (v := Value.bool false) (fun wr hwr => by simp only [execOp, (F34.eval 146 (by omega)).trans (show _ = Value.bool false from by simp [upd, e10, e12, e18, e20, e21]), (F34.eval 148 (by omega)).trans (show _ = Value.bool false from by simp [upd, e10, e12, e18, e20, e21])]; simp [go_sem, Act.eval]) fun F35 => ?_
            refine lyp F35 rfl HCC rfl (by omega) (wanted_none rfl) (v := Value.bool false) (fun wr hwr => by simp only [execOp, (F35.eval 149 (by omega)).trans (show _ = Value.bool false from by simp [upd, e10, e12, e18, e20, e21])]; first | rfl | simp [go_sem]) fun F36 => ?_
            refine lyp F36 rfl HCC rfl (by omega) (want_yes F36 rfl (e := 150) rfl (by omega) (show _ = Value.bool false from by simp [upd, e10, e12, e18, e20, e21])) (v := Value.int .i64 hm) (fun wr hwr => by simp only [execOp, (F36.eval 21 (by omega)).trans (show _ = Value.int .i64 hm from by simp [upd, e10, e12, e18, e20, e21])]; first | rfl | simp [go_sem]) fun F37 => ?_
            refine lyp F37 rfl HCC rfl (by omega) (want_yes F37 rfl (e := 150) rfl (by omega) (show _ = Value.bool false from by simp [upd, e10, e12, e18, e20, e21])) (v := Value.int .i64 n) (fun wr hwr => by simp only [execOp, (F37.eval 10 (by omega)).trans (show _ = Value.int .i64 n from by simp [upd, e10, e12, e18, e20, e21])]; first | rfl | simp [go_sem]) fun F38 => ?_
            refine lyp F38 rfl HCC rfl (by omega) (want_yes F38 rfl (e := 150) rfl (by omega) (show _ = Value.bool false from by simp [upd, e10, e12, e18, e20, e21])) (v := Value.bool false) (fun wr hwr => by simp only [execOp, (F38.eval 151 (by omega)).trans (show _ = Value.int .i64 hm from by simp [upd, e10, e12, e18, e20, e21]), (F38.eval 152 (by omega)).trans (show _ = Value.int .i64 n from by simp [upd, e10, e12, e18, e20, e21])]; simp [go_sem, Act.eval]; try omega) fun F39 => ?_
            refine lyp F39 rfl HCC rfl (by omega) (wanted_none rfl) (v := Value.bool false) (fun wr hwr => by simp only [execOp, (F39.eval 150 (by omega)).trans (show _ = Value.bool false from by simp [upd, e10, e12, e18, e20, e21]), (F39.eval 153 (by omega)).trans (show _ = Value.bool false from by simp [upd, e10, e12, e18, e20, e21])]; simp [go_sem, Act.eval]) fun F40 => ?_
            refine ⟨fun _ => HCC, ?_⟩
            refine hK _ _ ?_
            clear F0 F1 F2 F3 F4 F5 F6 F7 F8 F9 F10 F11 F12 F13 F14 F15 F16 F17 F18 F19 F20 F21 F22 F23 F24 F25 F26 F27 F28 F29 F30 F31 F32 F33 F34 F35 F36 F37 F38 F39 F40 e10 e12 e18 e20 e21 CJ HCC CI
            simp only [Act.put, List.setIfInBounds_toArray, List.set_cons_succ, List.set_cons_zero]
            have hA7 : Blk (w6.drewN 1) ab (cntA n ys (i + 1)) 53 := HA6.out
            have HB7 : Hid (Below w.heap.size w (w6.drewN 1)) := HB6.out.trans (below_drewN (Below.refl _ _) 1)
            have HT7 : Hid (Tb hb mh mw me n per KN [] (w6.drewN 1)) := HT6.out.keep (Chg.ofBelow (fun _ => False) (below_drewN (Below.refl _ _) 1)) (fun e => e) (fun e => e) (fun e => e)
            have HR7 : Hid (World.ownsRow (w6.drewN 1) Wl.heap.size 9 1 (.slice (some ⟨g, 0, none⟩) ys.length capy) ys.length (flatS ys)) := HRW6.out
            generalize w6.drewN 1 = W7 at hA7 HB7 HT7 HR7 ⊢
            have hmn : hm = (hm.toNat : Int) := by omega
            obtain ⟨xm, hxm⟩ : ∃ xm, xm = hm.toNat := ⟨_, rfl⟩
            rw [← hxm] at hmn
            have hx16 : xm < 16 := by omega
            have cA : W7.cell? ⟨ab, xm, none⟩ = some (.int .i64 (cntY n (xm : Nat) (ys.take (i + 1)) : Nat)) := (hA7.cell xm).trans (cntA_at _ _ _ _ hx16)
            have fA := hA7.frozen xm
            have hcp := HCN.out (xm : Nat) (i + 1)
            have hcp2 := HCN.out (xm : Nat) ((i + 1) + 1)
            rw [cntY_take HYJ.out, if_pos (by rw [← HHM.out, ← hmn])] at hcp2
            have hset := cntA_set (rep := n) (x := xm) HYJ.out (by rw [← HHM.out, ← hmn])
            have hA8 : Blk (W7.setCell ⟨ab, xm, none⟩ (.int .i64 ((cntY n (xm : Nat) (ys.take (i + 1)) : Nat) + 1 : Int))) ab (cntA n ys ((i + 1) + 1)) 53 := by
              have := hA7.set xm (.int .i64 ((cntY n (xm : Nat) (ys.take (i + 1)) : Nat) + 1 : Int))
              rwa [hset] at this
            have hlow : w.heap.size ≤ ab := HAB.out
            have hch : Chg (fun b => b = ab) W7 (W7.setCell ⟨ab, xm, none⟩ (.int .i64 ((cntY n (xm : Nat) (ys.take (i + 1)) : Nat) + 1 : Int))) := ⟨rfl, rfl, rfl, by simp [World.setCell], fun j hj hn => Below.heap_setCell _ _ _ _ hn⟩
            have HN : Hid (R2S hb mh mw ab Wl.heap.size g capy me n per KN ys w (W7.setCell ⟨ab, xm, none⟩ (.int .i64 ((cntY n (xm : Nat) (ys.take (i + 1)) : Nat) + 1 : Int))) ((i + 1) + 1)) := ⟨HT7.out.keep hch (HT7.out.blk.ne_t hA7 (by decide)) (fun e => HT7.out.hm.ne_b hA7 e.symm) (fun e => HT7.out.wm.ne_b hA7 e.symm), hA8, fun _ => ownsRow_same HR7.out (fun g e => by
              obtain ⟨cu, hcu⟩ := ownsRow_type HR7.out e
              exact hch.block g (ownsRow_lt HR7.out e).2 ((show Blk W7 g cu 9 from hcu).ne_t hA7 (by decide))), HB7.out.trans (hch.below HB7.out.size (fun k e => by rw [e]; exact hlow))⟩
            have c8 : (W7.setCell ⟨ab, xm, none⟩ (.int .i64 ((cntY n (xm : Nat) (ys.take (i + 1)) : Nat) + 1 : Int))).cell? ⟨ab, xm, none⟩ = some (.int .i64 ((cntY n (xm : Nat) (ys.take (i + 1)) : Nat) + 1 : Int)) := by
              rw [hA8.cell xm, cntA_at _ _ _ _ hx16, cntY_take HYJ.out, if_pos (by rw [← HHM.out, ← hmn])]
              rfl
            subst hmn
            generalize cntY n (xm : Nat) (ys.take (i + 1)) = cy at *
            clear hset hA8 hch hxm HA6 HT6 HRW6 HB6 hA7 HT7 HR7 HB7 HHM HYJ HK6 HG6 cj6 cj7
            go_wp2_with fail
            go_roundw
            case rel => exact ⟨(i + 1) + 1, by omega, by go_num, HN.out⟩
            case measure => simp [intOf]; omega
        · obtain rfl : j = ys.length := by omega
          have HF : Hid _ := hS.b
          have hlen : (ys.length : Int) = c := by rw [HC0.out, HYL.out]
          have hlb : ((ys.length : Int) == c) = true := by simpa using hlen
          clear hS hlen
          go_wp2_with fail
          go_ret
          exact ⟨rfl, HF.out⟩
end Go.Proofs.Ytgjibihhchojoaa
