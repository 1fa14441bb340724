import Derived.Test.YtgajmiibkakobaaAl
namespace Go.Proofs.Ytgajmiibkakobaa
open Go.RowKit Go.PlainAid Go.MapKept
set_option linter.unusedVariables false
set_option linter.unusedSimpArgs false
def wx (x m : Int) : Int := (if x < 0 then -(x + 1) else x) % m
theorem wx_in (x m : Int) (h : 0 < m) : 0 ≤ wx x m ∧ wx x m < m := ⟨Int.emod_nonneg _ (by omega), Int.emod_lt_of_pos _ h⟩
set_option maxRecDepth 100000 in
set_option maxHeartbeats 1600000 in
theorem within_any (x lo hi : Int) (W : World) (h1 : -9223372036854775808 ≤ x) (h2 : x ≤ 9223372036854775807) (h3 : 0 ≤ lo) (h4 : lo ≤ hi) (h5 : hi ≤ 4611686018427387904) :
    Calls Try.prog 11 #[.int .i64 x, .int .i64 lo, .int .i64 hi] W fun e w' => e = .returned (.int .i64 (lo + wx x (hi - lo + 1))) ∧ w' = W := by
  have hw1 : IntKind.i64.wrap (hi - lo) = hi - lo := by rw [IntKind.wrap_i64]; omega
  have hw2 : IntKind.i64.wrap (hi - lo + 1) = hi - lo + 1 := by rw [IntKind.wrap_i64]; omega
  have hin := wx_in x (hi - lo + 1) (by omega)
  have hnz : hi - lo + 1 ≠ 0 := by omega
  have hnzb : (hi - lo + 1 == 0) = false := by simpa using hnz
  by_cases hx : x < 0
  · have hw4 : IntKind.i64.wrap (x + 1) = x + 1 := by rw [IntKind.wrap_i64]; omega
    have hw5 : IntKind.i64.wrap (-(x + 1)) = -(x + 1) := by rw [IntKind.wrap_i64]; omega
    have e9 : -((x + 1).tmod (hi - lo + 1)) = wx x (hi - lo + 1) := by rw [← Int.neg_tmod]; unfold wx; rw [if_pos hx, Int.tmod_eq_emod_of_nonneg (by omega)]
    have HE9 : Hid _ := e9
    clear hin e9
    go_enter Try.func11, Try.ntmps11
    go_wp2_with fail
    go_ret
    refine ⟨ret_i64 ?_, rfl⟩
    rw [HE9.out]
    have := wx_in x (hi - lo + 1) (by omega)
    unfold wrap64
    omega
  · have e9 : x % (hi - lo + 1) = wx x (hi - lo + 1) := by unfold wx; rw [if_neg hx]
    have HE9 : Hid _ := e9
    clear hin e9
    go_enter Try.func11, Try.ntmps11
    go_wp2_with fail
    go_ret
    refine ⟨ret_i64 ?_, rfl⟩
    rw [HE9.out]
    have := wx_in x (hi - lo + 1) (by omega)
    unfold wrap64
    omega
/-- 1 .. hi of a number. -/
theorem within_1 (x hi : Int) (W : World) (h1 : -9223372036854775808 ≤ x) (h2 : x ≤ 9223372036854775807) (h4 : 1 ≤ hi) (h5 : hi ≤ 4611686018427387904) :
    Calls Try.prog 11 #[.int .i64 x, .int .i64 1, .int .i64 hi] W fun e w' => ∃ y, e = .returned (.int .i64 y) ∧ 1 ≤ y ∧ y ≤ hi ∧ w' = W := by
  refine (within_any x 1 hi W h1 h2 (by decide) h4 h5).mono ?_
  rintro e w' ⟨rfl, rfl⟩
  have := wx_in x (hi - 1 + 1) (by omega)
  exact ⟨_, rfl, by omega, by omega, rfl⟩
theorem within_02 (x : Int) (W : World) (h1 : -9223372036854775808 ≤ x) (h2 : x ≤ 9223372036854775807) :
    Calls Try.prog 11 #[.int .i64 x, .int .i64 0, .int .i64 2] W fun e w' => ∃ y : Nat, e = .returned (.int .i64 y) ∧ y ≤ 2 ∧ w' = W := by
  refine (within_any x 0 2 W h1 h2 (by decide) (by decide) (by decide)).mono ?_
  rintro e w' ⟨rfl, rfl⟩
  have := wx_in x (2 - 0 + 1) (by decide)
  refine ⟨(0 + wx x (2 - 0 + 1)).toNat, ?_, by omega, rfl⟩
  rw [show (((0 + wx x (2 - 0 + 1)).toNat : Nat) : Int) = 0 + wx x (2 - 0 + 1) from by omega]
def sgn (k : Int) : Int := if k = 5 then 0 else 1
set_option maxRecDepth 100000 in
theorem sign_any (k : Int) (W : World) : Calls Try.prog 14 #[.int .i64 k] W fun e w' => e = .returned (.int .i64 (sgn k)) ∧ w' = W := by
  by_cases h : k = 5
  · subst h
    go_enter Try.func14, Try.ntmps14
    go_wp2
    go_ret
    exact ⟨rfl, rfl⟩
  · have hb : (k == 5) = false := by simpa using h
    have HS : Hid (sgn k = 1) := show _ = _ from by unfold sgn; rw [if_neg h]
    clear h
    go_enter Try.func14, Try.ntmps14
    go_wp2
    go_ret
    exact ⟨by rw [HS.out]; rfl, rfl⟩
/-- The hold stands. -/
def Holds (q a : Int) (L : List (List UInt8 × Ct)) : Prop := ∃ c, Gm.look [107] L = some c ∧ c.Ok ∧ Gm.look q c.H = some a
theorem holds_do {q a : Int} {L : List (List UInt8 × Ct)} (h : Holds q a L) (hL : ∀ p ∈ L, p.2.Ok) (k A B h0 : Int) (n : List UInt8) (hb' : Nat) (hk : ¬ ((k = 5 ∨ k = 6 ∨ k = 12) ∧ A = q)) : Holds q a (doL (mapO k A B h0 n L) n hb' L) := by
  obtain ⟨c, h1, h2, h3⟩ := h
  unfold doL
  by_cases hr : (mapO k A B h0 n L).1.2 = 0
  · rw [if_pos hr]
    have hok := mapO_ok hL k A B h0 n hb' hr
    by_cases hn : n = [107]
    · subst hn
      refine ⟨_, by rw [look_put, if_pos rfl], hok, ?_⟩
      simp only
      unfold mapO at hr ⊢
      by_cases hg : (nameB [107] && opB k A B) = false
      · rw [if_pos hg] at hr; simp at hr
      · rw [if_neg hg] at hr ⊢
        rw [h1] at hr ⊢
        by_cases hk1 : k = 1
        · simp only [if_pos hk1] at hr; simp at hr
        · simp only [if_neg hk1] at hr ⊢
          unfold ctO at hr ⊢
          by_cases c2 : k = 2
          · simp only [if_pos c2]; unfold incO; split <;> exact h3
          by_cases c3 : k = 3
          · simp only [if_neg c2, if_pos c3]; unfold decO; split <;> exact h3
          by_cases c4 : k = 4
          · simp only [if_neg c2, if_neg c3, if_pos c4]
            unfold holdO
            split
            · exact h3
            · split
              · exact h3
              · rename_i hu
                have hne : ¬ q = h0 := fun e => hu (Or.inr (by rw [← e, h3]; rfl))
                show Gm.look q (Gm.putM h0 A c.H) = some a
                rw [look_put, if_neg hne]
                exact h3
          by_cases c5 : k = 5 ∨ k = 6 ∨ k = 12
          · simp only [if_neg c2, if_neg c3, if_neg c4, if_pos c5]
            unfold endO
            split
            · exact h3
            · have hne : ¬ q = A := fun e => hk ⟨c5, e.symm⟩
              show Gm.look q (Gm.putM A 0 c.H) = some a
              rw [look_put, if_neg hne]
              exact h3
          by_cases c8 : k = 8
          · simp only [if_neg c2, if_neg c3, if_neg c4, if_neg c5, if_pos c8]
            unfold takeO
            split
            · exact h3
            · split <;> exact h3
          by_cases c9 : k = 9
          · simp only [if_neg c2, if_neg c3, if_neg c4, if_neg c5, if_neg c8, if_pos c9]; unfold resetO; split <;> exact h3
          by_cases c10 : k = 10
          · simp only [if_neg c2, if_neg c3, if_neg c4, if_neg c5, if_neg c8, if_neg c9, if_pos c10]; unfold recapO; split <;> exact h3
          · simp only [if_neg c2, if_neg c3, if_neg c4, if_neg c5, if_neg c8, if_neg c9, if_neg c10]; exact h3
    · exact ⟨c, by rw [look_put, if_neg (fun e => hn e.symm)]; exact h1, h2, h3⟩
  · rw [if_neg hr]
    exact ⟨c, h1, h2, h3⟩
theorem opB_end {k q : Int} (hk : k = 5 ∨ k = 6 ∨ k = 12) (hq : 1 ≤ q) : opB k q 0 = true := by
  unfold opB
  rw [if_neg (show ¬ k = 1 by omega), if_neg (show ¬ (k = 2 ∨ k = 3 ∨ k = 10) by omega), if_neg (show ¬ k = 4 by omega), if_pos hk]
  simp [hq]
theorem good_k : nameB [107] = true := by kernel_rfl
/-- The end of a hold that stands, and what is left. -/
theorem holds_end {q a : Int} {L : List (List UInt8 × Ct)} {c : Ct} (h1 : Gm.look [107] L = some c) (h3 : Gm.look q c.H = some a) (ha : a ≠ 0) (hq : 1 ≤ q) (k : Int) (hk : k = 5 ∨ k = 6 ∨ k = 12) (h0 : Int) :
    mapO k q 0 h0 [107] L = ((if k = 12 then 0 else a, 0), (c.lim, if k = 5 then c.val else c.val + a, c.held - a, Gm.putM q 0 c.H)) := by
  unfold mapO
  rw [if_neg (by rw [good_k, opB_end hk hq]; decide), h1]
  simp only [if_neg (show ¬ k = 1 by omega)]
  unfold ctO
  rw [if_neg (show ¬ k = 2 by omega), if_neg (show ¬ k = 3 by omega), if_neg (show ¬ k = 4 by omega), if_pos hk]
  unfold endO
  have e : amt q c = a := by unfold amt; rw [h3]; rfl
  rw [e, if_neg ha]
theorem gone_end {q : Int} {L : List (List UInt8 × Ct)} {c : Ct} (h1 : Gm.look [107] L = some c) (h3 : Gm.look q c.H = some 0) (hq : 1 ≤ q) (k : Int) (hk : k = 5 ∨ k = 6 ∨ k = 12) (h0 : Int) :
    (mapO k q 0 h0 [107] L).1 = (0, 70) := by
  unfold mapO
  rw [if_neg (by rw [good_k, opB_end hk hq]; decide), h1]
  simp only [if_neg (show ¬ k = 1 by omega)]
  unfold ctO
  rw [if_neg (show ¬ k = 2 by omega), if_neg (show ¬ k = 3 by omega), if_neg (show ¬ k = 4 by omega), if_pos hk]
  unfold endO
  have e : amt q c = 0 := by unfold amt; rw [h3]; rfl
  rw [if_pos e]
theorem gone_hold {q : Int} {L : List (List UInt8 × Ct)} {c : Ct} (h1 : Gm.look [107] L = some c) (h3 : Gm.look q c.H = some 0) :
    (mapO 4 1 1 q [107] L).1.2 = if c.val < 1 then 60 else 1 := by
  unfold mapO
  rw [if_neg (by rw [good_k]; decide), h1]
  simp only [if_neg (show ¬ (4 : Int) = 1 by decide)]
  unfold ctO
  rw [if_neg (show ¬ (4 : Int) = 2 by decide), if_neg (show ¬ (4 : Int) = 3 by decide), if_pos rfl]
  unfold holdO
  by_cases hv : c.val < 1
  · rw [if_pos hv, if_pos hv]
  · rw [if_neg hv, if_neg hv, if_pos (Or.inr (by rw [h3]; rfl))]
end Go.Proofs.Ytgajmiibkakobaa
