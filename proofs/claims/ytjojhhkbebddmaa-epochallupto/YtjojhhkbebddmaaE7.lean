import Derived.Test.YtjojhhkbebddmaaE6
namespace Go.Proofs.Ytjojhhkbebddmaa
open Go.RowKit Go.PlainAid
set_option linter.unusedVariables false
set_option linter.unusedSimpArgs false
/-- The numbers of a machine. -/
structure EV.Nm (x : EV) : Prop where
  n : 2 ≤ x.n ∧ x.n ≤ 16
  me : x.me < x.n
  hd : ∀ j, 0 ≤ x.hd j ∧ x.hd j ≤ 1099511627776
def hasB (x : EV) (l r h : Int) : Bool := !decide (liveE x x.me = e0) && cnts l r h && (!x.need || allB x) && decide (r + h + sumH x.hd 16 = l)
theorem cnt_bd {a : Int} (h : cnt a = true) : 0 ≤ a ∧ a ≤ 1099511627776 := by unfold cnt at h; simpa using h
theorem cnts_bd {l r h : Int} (hc : cnts l r h = true) : (1 ≤ l ∧ l ≤ 1099511627776) ∧ (0 ≤ r ∧ r ≤ 1099511627776) ∧ (0 ≤ h ∧ h ≤ 1099511627776) := by
  unfold cnts at hc
  simp only [Bool.and_eq_true, decide_eq_true_eq] at hc
  obtain ⟨⟨⟨h1, h2⟩, h3⟩, h4⟩ := hc
  have := cnt_bd h2
  exact ⟨⟨h1, this.2⟩, cnt_bd h3, cnt_bd h4⟩
set_option maxRecDepth 100000 in
set_option maxHeartbeats 3200000 in
theorem hasAll_any {L mb cb : Nat} {x : EV} {A : List Ac} (l r h : Int) (w : World) (hM : MM L mb cb x A w) (hx : x.Nm) : Calls Try.prog 31 #[.pointer (some ⟨mb, 0, none⟩), .int .i64 l, .int .i64 r, .int .i64 h] w fun e w' => e = .returned (.bool (hasB x l r h)) ∧ Below w.heap.size w w' := by
  obtain ⟨⟨hn1, hn2⟩, hme, hhd⟩ := hx
  have HM : Hid _ := hM
  have c34 := hM.c34
  have hm := hM.b.lt
  obtain ⟨er, ek, hE⟩ : ∃ er ek, liveE x x.me = ⟨er, ek⟩ := ⟨_, _, rfl⟩
  have HO : Hid (Calls Try.prog 22 #[.pointer (some ⟨mb, 0, none⟩)] w fun e w' => e = .returned (epV ⟨er, ek⟩) ∧ Below w.heap.size w w') := show Calls Try.prog 22 #[.pointer (some ⟨mb, 0, none⟩)] w fun e w' => e = .returned (epV ⟨er, ek⟩) ∧ Below w.heap.size w w' from by rw [← hE]; exact own_any w hM (by omega)
  have HH : Hid (hasB x l r h = (!decide ((⟨er, ek⟩ : Ep) = e0) && cnts l r h && (!x.need || allB x) && decide (r + h + sumH x.hd 16 = l))) := show hasB x l r h = _ from by unfold hasB; rw [hE]
  clear hE hM
  unfold epV at *
  have HN : Hid _ := fun W => isNone_any er ek W
  cases hd : decide ((⟨er, ek⟩ : Ep) = e0)
  · rw [hd] at HN HH
    clear hd
    cases hc : cnts l r h
    · rw [hc] at HH
      have HHH : Hid (hasB x l r h = false) := HH.out.trans (by simp)
      clear HH
      go_enter Try.func31, Try.ntmps31
      go_wp2_with (first
        | (go_at_call 22; refine Calls.mono HO.out ?_; rintro e w1 ⟨rfl, hb1⟩)
        | (go_at_call 34; refine Calls.mono (HN.out _) ?_; rintro e w2 ⟨rfl, hb2⟩)
        | (go_at_call 30; refine Calls.mono (areCounts_any _ _ _ _) ?_; rintro e w3 ⟨rfl, rfl⟩)
        | fail)
      go_ret
      exact ⟨by rw [HHH.out]; rfl, bgo hb1 hb2 (Nat.le_refl _)⟩
    · obtain ⟨⟨l1, l2⟩, ⟨r1, r2⟩, ⟨h1, h2⟩⟩ := cnts_bd hc
      obtain ⟨s1, s2⟩ := sumH_bd hhd 16
      have HHD : Hid (∀ j, 0 ≤ x.hd j ∧ x.hd j ≤ 1099511627776) := hhd
      have HC : Hid (cnts l r h = true) := hc
      rw [hc] at HH
      clear hhd
      have HR : Hid (∀ W, Below w.heap.size w W → Calls Try.prog 59 #[.pointer (some ⟨mb, 0, none⟩)] W fun e w' => e = .returned (.int .i64 (sumH x.hd 16)) ∧ w' = W) := fun W hW => reported_any W (HM.out.more hW) HHD.out
      generalize sumH x.hd 16 = S at *
      have s2' : S ≤ 17592186044416 := by omega
      clear s2
      cases hq : x.need
      · rw [hq] at HH
        by_cases hs : r + h + S = l
        · have HHH : Hid (hasB x l r h = true) := HH.out.trans (by simp [hs])
          have hsb : (r + h + S == l) = true := by simpa using hs
          clear HH
          go_enter Try.func31, Try.ntmps31
          go_wp2_with (first
            | (go_at_call 22; refine Calls.mono HO.out ?_; rintro e w1 ⟨rfl, hb1⟩)
            | (go_at_call 34; refine Calls.mono (HN.out _) ?_; rintro e w2 ⟨rfl, hb2⟩; have hb12 := bgo hb1 hb2 (Nat.le_refl _); have c34' := (HM.out.more hb12).c34; rw [hq] at c34')
            | (go_at_call 30; refine Calls.mono (areCounts_any _ _ _ _) ?_; rintro e w3 ⟨rfl, rfl⟩)
            | (go_at_call 59; refine Calls.mono (HR.out _ hb12) ?_; rintro e w3 ⟨rfl, rfl⟩)
            | fail)
          go_ret
          exact ⟨by rw [HHH.out]; rfl, hb12⟩
        · have HHH : Hid (hasB x l r h = false) := HH.out.trans (by simp [hs])
          have hsb : (r + h + S == l) = false := by simpa using hs
          clear HH
          go_enter Try.func31, Try.ntmps31
          go_wp2_with (first
            | (go_at_call 22; refine Calls.mono HO.out ?_; rintro e w1 ⟨rfl, hb1⟩)
            | (go_at_call 34; refine Calls.mono (HN.out _) ?_; rintro e w2 ⟨rfl, hb2⟩; have hb12 := bgo hb1 hb2 (Nat.le_refl _); have c34' := (HM.out.more hb12).c34; rw [hq] at c34')
            | (go_at_call 30; refine Calls.mono (areCounts_any _ _ _ _) ?_; rintro e w3 ⟨rfl, rfl⟩)
            | (go_at_call 59; refine Calls.mono (HR.out _ hb12) ?_; rintro e w3 ⟨rfl, rfl⟩)
            | fail)
          go_ret
          exact ⟨by rw [HHH.out]; rfl, hb12⟩
      · rw [hq] at HH
        have HAL : Hid (∀ W, Below w.heap.size w W → Calls Try.prog 58 #[.pointer (some ⟨mb, 0, none⟩)] W fun e w' => e = .returned (.bool (allB x)) ∧ w' = W) := fun W hW => all_any W (HM.out.more hW) hn2
        cases ha : allB x
        · rw [ha] at HH HAL
          have HHH : Hid (hasB x l r h = false) := HH.out.trans (by simp)
          clear HH ha
          go_enter Try.func31, Try.ntmps31
          go_wp2_with (first
            | (go_at_call 22; refine Calls.mono HO.out ?_; rintro e w1 ⟨rfl, hb1⟩)
            | (go_at_call 34; refine Calls.mono (HN.out _) ?_; rintro e w2 ⟨rfl, hb2⟩; have hb12 := bgo hb1 hb2 (Nat.le_refl _); have c34' := (HM.out.more hb12).c34; rw [hq] at c34')
            | (go_at_call 30; refine Calls.mono (areCounts_any _ _ _ _) ?_; rintro e w3 ⟨rfl, rfl⟩)
            | (go_at_call 58; refine Calls.mono (HAL.out _ hb12) ?_; rintro e w3 ⟨rfl, rfl⟩)
            | fail)
          go_ret
          exact ⟨by rw [HHH.out]; rfl, hb12⟩
        · rw [ha] at HH HAL
          clear ha
          by_cases hs : r + h + S = l
          all_goals
            have HHH : Hid (hasB x l r h = decide (r + h + S = l)) := HH.out.trans (by simp)
            have hsb : (r + h + S == l) = decide (r + h + S = l) := by rw [Bool.eq_iff_iff]; simp
            first | rw [decide_eq_true hs] at HHH hsb | rw [decide_eq_false hs] at HHH hsb
            clear HH
            go_enter Try.func31, Try.ntmps31
            go_wp2_with (first
              | (go_at_call 22; refine Calls.mono HO.out ?_; rintro e w1 ⟨rfl, hb1⟩)
              | (go_at_call 34; refine Calls.mono (HN.out _) ?_; rintro e w2 ⟨rfl, hb2⟩; have hb12 := bgo hb1 hb2 (Nat.le_refl _); have c34' := (HM.out.more hb12).c34; rw [hq] at c34')
              | (go_at_call 30; refine Calls.mono (areCounts_any _ _ _ _) ?_; rintro e w3 ⟨rfl, rfl⟩)
              | (go_at_call 58; refine Calls.mono (HAL.out _ hb12) ?_; rintro e w3 ⟨rfl, rfl⟩)
              | (go_at_call 59; refine Calls.mono (HR.out _ hb12) ?_; rintro e w3 ⟨rfl, rfl⟩)
              | fail)
            go_ret
            exact ⟨by rw [HHH.out]; rfl, hb12⟩
  · rw [hd] at HN HH
    have HHH : Hid (hasB x l r h = false) := HH.out.trans (by simp)
    clear HH hd
    go_enter Try.func31, Try.ntmps31
    go_wp2_with (first
      | (go_at_call 22; refine Calls.mono HO.out ?_; rintro e w1 ⟨rfl, hb1⟩)
      | (go_at_call 34; refine Calls.mono (HN.out _) ?_; rintro e w2 ⟨rfl, hb2⟩)
      | fail)
    go_ret
    exact ⟨by rw [HHH.out]; rfl, bgo hb1 hb2 (Nat.le_refl _)⟩
end Go.Proofs.Ytjojhhkbebddmaa
