import Derived.Test.YtgajmiibkakobaaSo2
namespace Go.Proofs.Ytgajmiibkakobaa
open Go.RowKit Go.PlainAid Go.MapKept
set_option linter.unusedVariables false
set_option linter.unusedSimpArgs false
theorem lk_some {L : List (List UInt8 × Ct)} {n : List UInt8} {c : Ct} (h : Gm.look n L = some c) : lkOf L n = ⟨c.val, c.held, c.lim, true⟩ := by unfold lkOf ctOf isOf; rw [h]; rfl
theorem lk_none {L : List (List UInt8 × Ct)} {n : List UInt8} (h : Gm.look n L = none) : lkOf L n = ⟨0, 0, 0, false⟩ := by unfold lkOf ctOf isOf; rw [h]; rfl
theorem lk_put (L : List (List UInt8 × Ct)) (n : List UInt8) (c : Ct) : lkOf (Gm.putM n c L) n = ⟨c.val, c.held, c.lim, true⟩ := lk_some (by rw [look_put, if_pos rfl])
theorem lk_other {L : List (List UInt8 × Ct)} {n m : List UInt8} (R : Out) (hb : Nat) (h : m ≠ n) : lkOf (doL R n hb L) m = lkOf L m := by
  unfold doL
  split
  · unfold lkOf ctOf isOf
    rw [look_put, if_neg h]
  · rfl
theorem lk_ok {L : List (List UInt8 × Ct)} (hL : ∀ p ∈ L, p.2.Ok) (n : List UInt8) : 0 ≤ (lkOf L n).val ∧ 0 ≤ (lkOf L n).held ∧ (lkOf L n).val + (lkOf L n).held ≤ (lkOf L n).lim ∧ (lkOf L n).lim ≤ 1099511627776 := by
  cases h : Gm.look n L with
  | none => rw [lk_none h]; decide
  | some c =>
    rw [lk_some h]
    have hc := hL _ (look_mem h)
    exact ⟨hc.val, hc.heldnn, hc.sum, hc.lim.2⟩
theorem ctO_err0 {k A B q : Int} {c : Ct} (h : (ctO k A B q c).1.2 ≠ 0) : (ctO k A B q c).1.1 = 0 := by
  unfold ctO at h ⊢
  split
  · unfold incO at h ⊢; split <;> rfl
  rename_i c2
  rw [if_neg c2] at h
  split
  · unfold decO at h ⊢; split <;> rfl
  rename_i c3
  rw [if_neg c3] at h
  split
  · rename_i c4
    rw [if_pos c4] at h
    unfold holdO at h ⊢
    split
    · rfl
    · rename_i h1
      rw [if_neg h1] at h
      split
      · rfl
      · rename_i h2
        rw [if_neg h2] at h
        exact absurd rfl h
  rename_i c4
  rw [if_neg c4] at h
  split
  · rename_i c5
    rw [if_pos c5] at h
    unfold endO at h ⊢
    split
    · rfl
    · rename_i h1
      rw [if_neg h1] at h
      exact absurd rfl h
  rename_i c5
  rw [if_neg c5] at h
  split
  · rename_i c8
    rw [if_pos c8] at h
    unfold takeO at h ⊢
    split
    · rfl
    · rename_i h1
      rw [if_neg h1] at h
      split
      · rfl
      · rename_i h2
        rw [if_neg h2] at h
        exact absurd rfl h
  rename_i c8
  rw [if_neg c8] at h
  split
  · rename_i c9
    rw [if_pos c9] at h
    unfold resetO at h ⊢
    split
    · rfl
    · rename_i h1
      rw [if_neg h1] at h
      exact absurd rfl h
  rename_i c9
  rw [if_neg c9] at h
  split
  · rename_i c10
    rw [if_pos c10] at h
    unfold recapO at h ⊢
    split
    · rfl
    · rename_i h1
      rw [if_neg h1] at h
      exact absurd rfl h
  rename_i c10
  rw [if_neg c10] at h
  exact absurd rfl h
theorem mapO_err0 {k A B q : Int} {n : List UInt8} {L : List (List UInt8 × Ct)} (h : (mapO k A B q n L).1.2 ≠ 0) : (mapO k A B q n L).1.1 = 0 := by
  unfold mapO at h ⊢
  by_cases hr : (nameB n && opB k A B) = false
  · rw [if_pos hr]
  · rw [if_neg hr] at h ⊢
    cases hl : Gm.look n L with
    | none =>
      rw [hl] at h
      by_cases hk : k = 1
      · simp only [if_pos hk] at h ⊢
        unfold createO
        split <;> rfl
      · simp only [if_neg hk]
    | some c =>
      rw [hl] at h
      by_cases hk : k = 1
      · simp only [if_pos hk]
      · simp only [if_neg hk] at h ⊢
        exact ctO_err0 h
/-- An op that was answered OK fits. -/
theorem fits_do {L : List (List UInt8 × Ct)} (hL : ∀ p ∈ L, p.2.Ok) (k A B q : Int) (n : List UInt8) (hb' : Nat) (W : World) (h0 : (mapO k A B q n L).1.2 = 0) :
    Calls Try.prog 18 #[.agg #[.int .i64 k, .string ⟨n.toArray⟩, .int .i64 A, .int .i64 B], .int .i64 (mapO k A B q n L).1.1, .agg (lkOf L n).cs, .agg (lkOf (doL (mapO k A B q n L) n hb' L) n).cs] W fun e w' => e = .returned (.bool true) ∧ Below W.heap.size W w' := by
  unfold doL
  rw [if_pos h0, lk_put]
  simp only [Lk.cs]
  unfold mapO at h0 ⊢
  by_cases hr : (nameB n && opB k A B) = false
  · rw [if_pos hr] at h0; simp at h0
  · rw [if_neg hr] at h0 ⊢
    have ho : opB k A B = true := by
      rw [Bool.not_eq_false, Bool.and_eq_true] at hr
      exact hr.2
    cases hl : Gm.look n L with
    | none =>
      rw [hl] at h0
      rw [lk_none hl]
      by_cases hk : k = 1
      · simp only [if_pos hk] at h0 ⊢
        subst hk
        simp [opB] at ho
        have b2 := valB_yes ho.2
        unfold createO at h0 ⊢
        by_cases hq : A < B
        · rw [if_pos hq] at h0; simp at h0
        · rw [if_neg hq]
          exact fit_1 A B b2 n W
      · simp only [if_neg hk] at h0
        simp at h0
    | some c =>
      rw [hl] at h0
      rw [lk_some hl]
      have hc := hL _ (look_mem hl)
      obtain ⟨l1, l2⟩ := hc.lim
      have l3 := hc.val
      have l4 := hc.sum
      have l5 := hc.heldnn
      simp only at l1 l2 l3 l4 l5
      by_cases hk : k = 1
      · simp only [if_pos hk] at h0
        simp at h0
      · simp only [if_neg hk] at h0 ⊢
        unfold ctO at h0 ⊢
        by_cases c2 : k = 2
        · simp only [if_pos c2] at h0 ⊢
          subst c2
          simp [opB] at ho
          have b := amtB_yes ho.1
          unfold incO at h0 ⊢
          by_cases hq : c.lim < c.val + c.held + A
          · rw [if_pos hq] at h0; simp at h0
          · rw [if_neg hq]
            exact fit_2 c.val c.held c.lim A B (by omega) (by omega) b n W
        by_cases c3 : k = 3
        · simp only [if_neg c2, if_pos c3] at h0 ⊢
          subst c3
          simp [opB] at ho
          have b := amtB_yes ho.1
          unfold decO at h0 ⊢
          by_cases hq : c.val < A
          · rw [if_pos hq] at h0; simp at h0
          · rw [if_neg hq]
            exact fit_3 c.val c.held c.lim A B (by omega) (by omega) b n W
        by_cases c4 : k = 4
        · simp only [if_neg c2, if_neg c3, if_pos c4] at h0 ⊢
          subst c4
          simp [opB] at ho
          have b := amtB_yes ho.1
          unfold holdO at h0 ⊢
          by_cases hq : c.val < A
          · rw [if_pos hq] at h0; simp at h0
          · rw [if_neg hq] at h0 ⊢
            by_cases hu : q < 1 ∨ (Gm.look q c.H).isSome = true
            · rw [if_pos hu] at h0; simp at h0
            · rw [if_neg hu]
              exact fit_4 c.val c.held c.lim A B (by omega) (by omega) b q (by omega) n W
        by_cases c5 : k = 5 ∨ k = 6 ∨ k = 12
        · simp only [if_neg c2, if_neg c3, if_neg c4, if_pos c5] at h0 ⊢
          have b := hc.amt A
          simp only at b
          unfold endO at h0 ⊢
          by_cases hq : amt A c = 0
          · rw [if_pos hq] at h0; simp at h0
          · rw [if_neg hq]
            rcases c5 with rfl | rfl | rfl
            · exact fit_5 c.val c.held c.lim A B (by omega) (by omega) (amt A c) (by omega) n W
            · exact fit_6 c.val c.held c.lim A B (by omega) (by omega) (amt A c) (by omega) n W
            · exact fit_12 c.val c.held c.lim A B (by omega) (by omega) (amt A c) (by omega) n W
        by_cases c8 : k = 8
        · simp only [if_neg c2, if_neg c3, if_neg c4, if_neg c5, if_pos c8] at h0 ⊢
          subst c8
          simp [opB] at ho
          have b1 := valB_yes ho.1
          have b := amtB_yes ho.2
          unfold takeO at h0 ⊢
          by_cases hv : c.val ≠ A
          · rw [if_pos hv] at h0; simp at h0
          · rw [if_neg hv] at h0 ⊢
            by_cases hq : c.val < B
            · rw [if_pos hq] at h0; simp at h0
            · rw [if_neg hq]
              have hv2 : c.val = A := by omega
              simp only [hv2]
              exact fit_8 c.held c.lim A B b1 (by omega) b n W
        by_cases c9 : k = 9
        · simp only [if_neg c2, if_neg c3, if_neg c4, if_neg c5, if_neg c8, if_pos c9] at h0 ⊢
          subst c9
          simp [opB] at ho
          have b := valB_yes ho.1
          unfold resetO at h0 ⊢
          by_cases hq : c.lim < A + c.held
          · rw [if_pos hq] at h0; simp at h0
          · rw [if_neg hq]
            exact fit_9 c.val c.held c.lim A B (by omega) (by omega) b n W
        by_cases c10 : k = 10
        · simp only [if_neg c2, if_neg c3, if_neg c4, if_neg c5, if_neg c8, if_neg c9, if_pos c10] at h0 ⊢
          subst c10
          unfold recapO at h0 ⊢
          by_cases hq : A < c.val + c.held
          · rw [if_pos hq] at h0; simp at h0
          · rw [if_neg hq]
            exact fit_10 c.val c.held c.lim A B (by omega) (by omega) n W
        · simp only [if_neg c2, if_neg c3, if_neg c4, if_neg c5, if_neg c8, if_neg c9, if_neg c10] at h0 ⊢
          have hk7 : k = 7 := by
            unfold opB at ho
            rw [if_neg hk, if_neg (show ¬ (k = 2 ∨ k = 3 ∨ k = 10) by omega), if_neg c4, if_neg c5] at ho
            by_cases c7 : k = 7
            · exact c7
            · rw [if_neg c7, if_neg c8, if_neg c9] at ho
              cases ho
          subst hk7
          exact fit_7 c.val c.held c.lim A B (by omega) (by omega) n W
theorem AX.do2 {w0 w : World} {ab mb : Nat} {L : List (List UInt8 × Ct)} (h : AX w0 ab mb L w) (k A B q : Int) (n : List UInt8) (hn : n.length ≤ 140737488355328) :
    Calls Try.prog 12 #[.pointer (some ⟨ab, 0, none⟩), .agg #[.int .i64 k, .string ⟨n.toArray⟩, .int .i64 A, .int .i64 B], .int .i64 q] w fun e w' => ∃ hb', e = .returned (.tuple #[.int .i64 (mapO k A B q n L).1.1, .int .i64 (mapO k A B q n L).1.2]) ∧ AX w0 ab mb (doL (mapO k A B q n L) n hb' L) w' ∧ ∀ b C T, Blk w b C T → Blk w' b C T := by
  refine (do_any k A B q n w h.am hn).mono ?_
  rintro e w' ⟨hb', rfl, hA, hh, hc⟩
  refine ⟨hb', rfl, ⟨hA, ⟨h.lo.1, h.lo.2.1, fun p hp x hx => ?_⟩, h.bel.trans (hc.below h.bel.size (fun k hk => ?_))⟩, fun b C T hB => hc.blk hB (fun e => ?_)⟩
  · unfold doL at hp
    by_cases hr : (mapO k A B q n L).1.2 = 0
    · rw [if_pos hr] at hp
      rcases putM_in h.am.kd hp with rfl | ⟨hp, _⟩
      · have hx : hb' = x := by simpa using hx
        subst hx
        rcases hh hr with ⟨p, hp, hpb⟩ | hh
        · exact h.lo.2.2 p hp _ hpb
        · exact Nat.le_trans h.bel.size hh
      · exact h.lo.2.2 p hp x hx
    · rw [if_neg hr] at hp
      exact h.lo.2.2 p hp x hx
  · rcases hk with rfl | ⟨p, hp, hpb⟩
    · exact h.lo.2.1
    · exact h.lo.2.2 p hp _ hpb
  · rcases e with rfl | ⟨p, hp, hpb⟩
    · exact h.am.map.ne_b hB rfl
    · obtain ⟨_, _, x, c1, d1, _⟩ := h.am.ct p hp
      rw [hpb] at c1
      cases c1
      exact d1.ne_b hB rfl
theorem own_keep {w w' : World} {base e s n : Nat} {v : Value} {xs : List Value} (h : w.ownsRow base e s v n xs) (hk : ∀ b C T, Blk w b C T → Blk w' b C T) : w'.ownsRow base e s v n xs :=
  ownsRow_same h (fun g hg => by
    obtain ⟨c, hc⟩ := ownsRow_type h hg
    exact (hk g c e hc).trans (Eq.symm hc))
end Go.Proofs.Ytgajmiibkakobaa
