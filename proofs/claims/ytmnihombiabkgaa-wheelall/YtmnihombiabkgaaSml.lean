import Derived.Test.YtmnihombiabkgaaTk
namespace Go.Proofs.Ytmnihombiabkgaa
open Go.RowKit Go.PlainAid Go.MapKept
set_option linter.unusedVariables false
set_option linter.unusedSimpArgs false
set_option maxRecDepth 100000 in
theorem within_any (x : Int) (w : World) (hx : -9223372036854775808 ≤ x ∧ x ≤ 9223372036854775807) : Calls Try.prog 10 #[.int .i64 x, .int .i64 64] w fun e w' => (∃ z : Int, e = .returned (.int .i64 z) ∧ 1 ≤ z ∧ z ≤ 64) ∧ w' = w := by
  obtain ⟨h1, h2⟩ := hx
  by_cases h : x < 0
  · go_enter Try.func10, Try.ntmps10
    go_wp2_with fail
    go_ret
    have ht : (x + 1).tmod 64 = -((-(x + 1)) % 64) := by
      obtain ⟨y, hy⟩ : ∃ y, y = -(x + 1) := ⟨_, rfl⟩
      rw [show x + 1 = -y by omega, Int.neg_tmod, Int.neg_neg, Int.tmod_eq_emod_of_nonneg (by omega)]
    refine ⟨⟨_, rfl, ?_, ?_⟩, rfl⟩ <;> (rw [ht]; unfold wrap64; omega)
  · go_enter Try.func10, Try.ntmps10
    go_wp2_with fail
    go_ret
    refine ⟨⟨_, rfl, ?_, ?_⟩, rfl⟩ <;> omega
set_option maxHeartbeats 2000000 in
theorem eqt_in (n : Nat) (a c : Tm) (w : World) : (Go.Op.equalIn (n + 2) 50 (.agg #[.int .i64 a.due, .int .i64 a.num, .int .i64 a.kind, .int .i64 a.id]) (.agg #[.int .i64 c.due, .int .i64 c.num, .int .i64 c.kind, .int .i64 c.id])).run Try.prog w = .ok (decide (a = c)) w := by
  obtain ⟨k1, n1, a1, b1⟩ := a
  obtain ⟨k2, n2, a2, b2⟩ := c
  have h0 : Try.prog.stoodInHeld 50 = false := by kernel_rfl
  have e1 : ∀ x y : Int, (Go.Op.equalIn (n + 1) 3 (.int .i64 x) (.int .i64 y)).run Try.prog w = .ok (x == y) w := fun x y => by kernel_rfl
  have hx : decide ((⟨k1, n1, a1, b1⟩ : Tm) = ⟨k2, n2, a2, b2⟩) = (k1 == k2 && (n1 == n2 && (a1 == a2 && b1 == b2))) := by
    by_cases h1 : k1 = k2 <;> by_cases h2 : n1 = n2 <;> by_cases h3 : a1 = a2 <;> by_cases h4 : b1 = b2 <;> simp [h1, h2, h3, h4]
  rw [hx]
  unfold Go.Op.equalIn
  have q1 := e1 k1 k2
  have q2 := e1 n1 n2
  have q3 := e1 a1 a2
  have q4 := e1 b1 b2
  generalize (k1 == k2) = c1 at *
  generalize (n1 == n2) = c2 at *
  generalize (a1 == a2) = c3 at *
  generalize (b1 == b2) = c4 at *
  clear e1 hx
  cases c1 <;> cases c2 <;> cases c3 <;> cases c4 <;> simp [go_sem, h0, Result.andThen, q1, q2, q3, q4, run_underlying Try.underlying50]
theorem eqT (a c : Tm) (w : World) : (Go.Op.equal 50 (.agg #[.int .i64 a.due, .int .i64 a.num, .int .i64 a.kind, .int .i64 a.id]) (.agg #[.int .i64 c.due, .int .i64 c.num, .int .i64 c.kind, .int .i64 c.id])).run Try.prog w = .ok (decide (a = c)) w := eqt_in 9998 a c w
theorem WB.new {u : Int} (h : 1 ≤ u ∧ u ≤ 64) : WB u 0 0 [] := ⟨h, ⟨by omega, by omega⟩, ⟨by omega, by omega⟩, (fun t ht => by cases ht), (fun t ht => by cases ht), List.Pairwise.nil, by simp⟩
theorem WB.tick {u now last : Int} {A : List Tm} (h : WB u now last A) (hn : now < 1000000) : WB u (now + 1) last (stay (now + 1) A) := by
  refine ⟨h.hu, ⟨by have := h.hw; omega, by omega⟩, h.hl, fun t ht => h.num t (List.mem_filter.1 ht).1, fun t ht => ?_, h.up.sublist List.filter_sublist, by have := h.len; have := stay_len (now + 1) A; omega⟩
  obtain ⟨h1, h2⟩ := List.mem_filter.1 ht
  have h3 := h.due t h1
  have h4 : t.due ≠ now + 1 := by simpa using h2
  omega
theorem wown_low {whb mp : Nat} {vs vs' : List Value} {w w' : World} {L : Nat} (h : WStp whb mp vs vs' w w') (hL : L ≤ w.heap.size) (hw : ∀ k, wown whb mp vs k → L ≤ k) : ∀ k, wown whb mp vs' k → L ≤ k := fun k hk => by
  rcases h.2 k hk with h1 | h1
  · exact hw k h1
  · omega
set_option maxRecDepth 100000 in
set_option maxHeartbeats 3200000 in
theorem able_any (w : World) : Calls Try.prog 11 #[] w fun e w' => e = .returned (.bool true) ∧ Below w.heap.size w w' := by
  have HNEW : Hid _ := new_any 3 w (by omega)
  go_enter Try.func11, Try.ntmps11
  go_wp2_with fail
  refine Calls.mono HNEW.out ?_
  rintro e w1 ⟨rfl, hW1, hb1⟩
  have HW1 : Hid _ := hW1
  have HB1 : Hid (Below w.heap.size w w1) := hb1
  have HA : Hid _ := arm_any 2 7 8 w1 hW1 (WB.new (by omega)) (by omega)
  clear hW1 hb1 HNEW
  go_wp2_with fail
  refine Calls.mono HA.out ?_
  rintro e w2 ⟨rfl, vs2, hW2, hs2⟩
  have HW2 : Hid _ := hW2
  have HB2 : Hid (Below w.heap.size w w2) := show Below w.heap.size w w2 from HB1.out.trans (hs2.1.below HB1.out.size (fun k hk => HW1.out.ge hk))
  have hq2 : WB 3 0 (0 + 1) (([] : List Tm) ++ [(⟨0 + dl 2, 0 + 1, 7, 8⟩ : Tm)]) := (WB.new (by omega)).push (by omega) 2 7 8
  have HT : Hid _ := tick_any w2 hW2 hq2 (by omega)
  have HQ2 : Hid _ := hq2
  clear hW2 hs2 HA HW1 HB1 hq2
  go_wp2_with fail
  refine Calls.mono HT.out ?_
  rintro e w3 ⟨v3, rfl, hr3, vs3, hW3, hc3, ho3⟩
  have hcm : comes (0 + 1) (([] : List Tm) ++ [(⟨0 + dl 2, 0 + 1, 7, 8⟩ : Tm)]) = [] := by decide
  rw [hcm] at hr3
  obtain ⟨ao3, cap3, hv3, hn3⟩ := own_slice hr3
  subst hv3
  have HW3 : Hid _ := hW3
  have HB3 : Hid (Below w.heap.size w w3) := show Below w.heap.size w w3 from HB2.out.trans (hc3.below HB2.out.size (fun k hk => HW2.out.ge hk))
  have HT3 : Hid _ := tick_any w3 hW3 (HQ2.out.tick (by omega)) (by omega)
  clear hW3 hc3 ho3 hr3 HT HW2 HB2 hcm
  simp only [List.length_nil]
  go_wp2_with fail
  refine Calls.mono HT3.out ?_
  rintro e w4 ⟨v4, rfl, hr4, vs4, hW4, hc4, ho4⟩
  have hcm : comes (0 + 1 + 1) (stay (0 + 1) (([] : List Tm) ++ [(⟨0 + dl 2, 0 + 1, 7, 8⟩ : Tm)])) = [(⟨2, 1, 7, 8⟩ : Tm)] := by decide
  rw [hcm] at hr4
  obtain ⟨g, cap4, hv4, hn4, _, _⟩ := own_some hr4 (by decide)
  subst hv4
  obtain ⟨x0, x1, x2, x3⟩ := cellT (i := 0) hr4 rfl
  have HB4 : Hid (Below w.heap.size w w4) := show Below w.heap.size w w4 from HB3.out.trans (hc4.below HB3.out.size (fun k hk => HW3.out.ge hk))
  have heq : (Go.Op.equal 50 (.agg #[.int .i64 2, .int .i64 1, .int .i64 7, .int .i64 8]) (.agg #[.int .i64 2, .int .i64 1, .int .i64 7, .int .i64 8])).run Try.prog w4 = .ok true w4 := eqT ⟨2, 1, 7, 8⟩ ⟨2, 1, 7, 8⟩ w4
  clear hW4 hc4 ho4 hr4 HT3 HW3 HB3 hcm HQ2
  simp only [List.length_cons, List.length_nil, Nat.zero_mul, Nat.zero_add] at x0 x1 x2 x3 ⊢
  go_wp2_with fail
  go_ret
  exact ⟨rfl, HB4.out⟩
end Go.Proofs.Ytmnihombiabkgaa
