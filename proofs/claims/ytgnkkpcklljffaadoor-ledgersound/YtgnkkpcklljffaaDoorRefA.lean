import Derived.Test.YtgnkkpcklljffaaDoorCaps2
namespace Go.Proofs.YtgnkkpcklljffaaDoor
open Go.RowKit Go.PlainAid
set_option linter.unusedVariables false
set_option linter.unusedSimpArgs false
theorem okAmt_no {k : Int} (h : okAmt k = false) : k < 1 ∨ 1099511627776 < k := by
  by_cases h1 : k < 1
  · exact Or.inl h1
  · by_cases h2 : 1099511627776 < k
    · exact Or.inr h2
    · rw [show okAmt k = true from by simp [okAmt]; omega] at h; cases h
theorem okAmt_yes {k : Int} (h : okAmt k = true) : 1 ≤ k ∧ k ≤ 1099511627776 := by simpa [okAmt] using h
set_option maxRecDepth 100000 in
set_option maxHeartbeats 800000 in
theorem rnew_any (k : Int) (w : World) (hk : okAmt k = true) : Calls Tryd.prog 42 #[.int .i64 k] w fun r w' => r = .returned (.tuple #[.pointer (some ⟨w.heap.size, 0, none⟩), .int .i64 0]) ∧ w' = w.alloc (.cells (LS.mk 0 0 0 k 0).cs 81) := by
  have ha := okAmt_yes hk
  show Calls Tryd.prog 42 _ w fun r w' => _ ∧ w' = w.alloc (.cells #[.int .i64 0, .int .i64 0, .int .i64 0, .int .i64 k, .int .i64 0] 81)
  go_enter Tryd.func42, Tryd.ntmps42
  go_wp2
  go_ret2
  exact ⟨rfl, rfl⟩
set_option maxRecDepth 100000 in
set_option maxHeartbeats 800000 in
theorem rnew_no (k : Int) (w : World) (hk : okAmt k = false) : Calls Tryd.prog 42 #[.int .i64 k] w fun r w' => r = .returned (.tuple #[.pointer none, .int .i64 1]) ∧ w' = w := by
  by_cases h1 : k < 1
  · go_enter Tryd.func42, Tryd.ntmps42
    go_wp2
    go_ret2
    exact ⟨rfl, rfl⟩
  · have h2 : 1099511627776 < k := by rcases okAmt_no hk with h | h <;> omega
    go_enter Tryd.func42, Tryd.ntmps42
    go_wp2
    go_ret2
    exact ⟨rfl, rfl⟩
set_option maxRecDepth 100000 in
set_option maxHeartbeats 800000 in
theorem rheld_any {hb : Nat} {s : LS} (w : World) (h : Blk w hb s.cs 81) : Calls Tryd.prog 54 #[.pointer (some ⟨hb, 0, none⟩)] w fun r w' => r = .returned (.int .i64 s.h) ∧ w' = w := by
  have c2 : w.cell? ⟨hb, 2, none⟩ = some (.int .i64 s.h) := h.cell 2
  go_enter Tryd.func54, Tryd.ntmps54
  go_wp2
  go_ret
  exact ⟨rfl, rfl⟩
set_option maxRecDepth 100000 in
set_option maxHeartbeats 800000 in
theorem rall_any {hb : Nat} {s : LS} (w : World) (h : Blk w hb s.cs 81) (ho : s.Ok) :
    Calls Tryd.prog 58 #[.pointer (some ⟨hb, 0, none⟩)] w fun r w' => r = .returned (.int .i64 s.all) ∧ ∃ q, w' = w.drewN q := by
  obtain ⟨d, u, x, c, n⟩ := s
  obtain ⟨h1, h2, h3, h4, h5, h6⟩ := ho
  simp only at h1 h2 h3 h4 h5 h6
  have c0 : w.cell? ⟨hb, 0, none⟩ = some (.int .i64 d) := h.cell 0
  have c1 : w.cell? ⟨hb, 1, none⟩ = some (.int .i64 u) := h.cell 1
  have c2 : w.cell? ⟨hb, 2, none⟩ = some (.int .i64 x) := h.cell 2
  have e1 : IntKind.i64.wrap (d + u) = d + u := by rw [IntKind.wrap_i64]; omega
  have e2 : IntKind.i64.wrap (d + u + x) = d + u + x := by rw [IntKind.wrap_i64]; omega
  show Calls Tryd.prog 58 _ w fun r w' => r = .returned (.int .i64 (d + u + x)) ∧ _
  clear h
  go_enter Tryd.func58, Tryd.ntmps58
  go_wp2
  go_quiet (fail)
  go_wp2
  go_ret
  exact ⟨rfl, _, rfl⟩
set_option maxRecDepth 100000 in
set_option maxHeartbeats 1600000 in
theorem rset_any {hb : Nat} {s : LS} (w : World) (h : Blk w hb s.cs 81) (ho : s.Ok) (a : Int) :
    Calls Tryd.prog 50 #[.pointer (some ⟨hb, 0, none⟩), .int .i64 a] w fun r w' => r = .returned (.int .i64 (s.scode a)) ∧ Blk w' hb (s.snext a).cs 81 ∧ Stq hb w w' := by
  obtain ⟨d, u, x, c, n⟩ := s
  obtain ⟨h1, h2, h3, h4, h5, h6⟩ := ho
  simp only at h1 h2 h3 h4 h5 h6
  have c0 : w.cell? ⟨hb, 0, none⟩ = some (.int .i64 d) := h.cell 0
  have c1 : w.cell? ⟨hb, 1, none⟩ = some (.int .i64 u) := h.cell 1
  have z0 := h.frozen 0
  have z1 := h.frozen 1
  have e1 : IntKind.i64.wrap (d + u) = d + u := by rw [IntKind.wrap_i64]; omega
  unfold LS.snext
  by_cases hn : a < 0
  · rw [show (LS.mk d u x c n).scode a = 1 from by unfold LS.scode; rw [if_pos hn], if_neg (by decide)]
    have HB : Hid _ := h
    clear h
    go_enter Tryd.func50, Tryd.ntmps50
    go_wp2
    go_quiet (fail)
    go_wp2
    go_ret
    exact ⟨rfl, HB.out, (Stq.refl _ _).drewN _⟩
  · by_cases hc : d + u < a
    · rw [show (LS.mk d u x c n).scode a = 61 from by unfold LS.scode; rw [if_neg hn, if_pos hc], if_neg (by decide)]
      have HB : Hid _ := h
      clear h
      go_enter Tryd.func50, Tryd.ntmps50
      go_wp2
      go_quiet (fail)
      go_wp2
      go_ret
      exact ⟨rfl, HB.out, (Stq.refl _ _).drewN _⟩
    · rw [show (LS.mk d u x c n).scode a = 0 from by unfold LS.scode; rw [if_neg hn, if_neg hc], if_pos rfl]
      have HB : Hid _ := h
      clear h
      go_enter Tryd.func50, Tryd.ntmps50
      go_wp2
      go_quiet (fail)
      go_wp2
      go_ret
      refine ⟨rfl, ?_, ?_⟩
      · exact (Blk.set (Blk.set (show Blk (w.drewN nq) hb _ 81 from HB.out) 0 _) 1 _)
      · exact (((Stq.refl hb w).drewN _).trans (Stq.set hb 0 _ _)).trans (Stq.set hb 1 _ _)
theorem LS.news_cases (s : LS) (a b : Int) (h : s.news a b = false) : a < 1 ∨ (1 ≤ a ∧ 1099511627776 < a) ∨ (1 ≤ a ∧ a ≤ 1099511627776 ∧ b ≤ s.n) := by
  by_cases h1 : a < 1
  · exact Or.inl h1
  · by_cases h2 : 1099511627776 < a
    · exact Or.inr (Or.inl (by omega))
    · by_cases h3 : b ≤ s.n
      · exact Or.inr (Or.inr (by omega))
      · rw [show s.news a b = true from by simp [LS.news, okAmt]; omega] at h; cases h
set_option maxRecDepth 100000 in
set_option maxHeartbeats 3200000 in
theorem rrecap_any {hb : Nat} {s : LS} (w : World) (h : Blk w hb s.cs 81) (ho : s.Ok) (a b : Int) :
    Calls Tryd.prog 51 #[.pointer (some ⟨hb, 0, none⟩), .int .i64 a, .int .i64 b] w fun r w' => r = .returned (.int .i64 (s.rcode a b)) ∧ Blk w' hb (s.rnext a b).cs 81 ∧ Stq hb w w' := by
  unfold LS.rnext
  by_cases hn : s.news a b = true
  · have hna := LS.news_amt hn
    obtain ⟨d, u, x, c, n⟩ := s
    obtain ⟨h1, h2, h3, h4, h5, h6⟩ := ho
    simp only at h1 h2 h3 h4 h5 h6 hna
    have c1 : w.cell? ⟨hb, 1, none⟩ = some (.int .i64 u) := h.cell 1
    have c3 : w.cell? ⟨hb, 3, none⟩ = some (.int .i64 c) := h.cell 3
    have c4 : w.cell? ⟨hb, 4, none⟩ = some (.int .i64 n) := h.cell 4
    have z1 := h.frozen 1
    have z3 := h.frozen 3
    have z4 := h.frozen 4
    have e1 : IntKind.i64.wrap (u + a) = u + a := by rw [IntKind.wrap_i64]; omega
    have e2 : IntKind.i64.wrap (u + a - c) = u + a - c := by rw [IntKind.wrap_i64]; omega
    by_cases hc : u + a - c < 0
    · rw [show (LS.mk d u x c n).rcode a b = 61 from by unfold LS.rcode; rw [if_pos hn, if_pos hc], if_neg (by decide)]
      have HB : Hid _ := h
      clear h hn
      go_enter Tryd.func51, Tryd.ntmps51
      go_wp2
      go_quiet (fail)
      go_wp2
      go_ret
      exact ⟨rfl, HB.out, (Stq.refl _ _).drewN _⟩
    · rw [show (LS.mk d u x c n).rcode a b = 0 from by unfold LS.rcode; rw [if_pos hn, if_neg hc], if_pos rfl]
      have HB : Hid _ := h
      clear h hn
      go_enter Tryd.func51, Tryd.ntmps51
      go_wp2
      go_quiet (fail)
      go_wp2
      go_ret
      refine ⟨rfl, ?_, ?_⟩
      · exact ((Blk.set (show Blk (w.drewN nq) hb _ 81 from HB.out) 1 _).set 3 _).set 4 _
      · exact ((((Stq.refl hb w).drewN _).trans (Stq.set hb 1 _ _)).trans (Stq.set hb 3 _ _)).trans (Stq.set hb 4 _ _)
  · have hn2 : s.news a b = false := by simpa using hn
    rw [show s.rcode a b = 1 from by unfold LS.rcode; rw [if_neg hn], if_neg (by decide)]
    have hcs := s.news_cases a b hn2
    have c4 : w.cell? ⟨hb, 4, none⟩ = some (.int .i64 s.n) := h.cell 4
    have HB : Hid _ := h
    clear h hn hn2 ho
    rcases hcs with h1 | ⟨h1, h2⟩ | ⟨h1, h2, h3⟩
    · go_enter Tryd.func51, Tryd.ntmps51
      go_wp2
      go_ret
      exact ⟨rfl, HB.out, Stq.refl _ _⟩
    · go_enter Tryd.func51, Tryd.ntmps51
      go_wp2
      go_ret
      exact ⟨rfl, HB.out, Stq.refl _ _⟩
    · go_enter Tryd.func51, Tryd.ntmps51
      go_wp2
      go_ret
      exact ⟨rfl, HB.out, Stq.refl _ _⟩
set_option maxRecDepth 100000 in
set_option maxHeartbeats 3200000 in
theorem rhear_any {hb : Nat} {s : LS} (w : World) (h : Blk w hb s.cs 81) (ho : s.Ok) (a b : Int) :
    Calls Tryd.prog 52 #[.pointer (some ⟨hb, 0, none⟩), .int .i64 a, .int .i64 b] w fun r w' => r = .returned (.bool (s.hcode a b)) ∧ Blk w' hb (s.hnext a b).cs 81 ∧ Stq hb w w' := by
  have hal := rall_any w h ho
  have z3 := h.frozen 3
  have z4 := h.frozen 4
  have c3 : w.cell? ⟨hb, 3, none⟩ = some (.int .i64 s.c) := h.cell 3
  have c4 : w.cell? ⟨hb, 4, none⟩ = some (.int .i64 s.n) := h.cell 4
  unfold LS.hnext
  cases hn : s.news a b with
  | true =>
    have hna := LS.news_amt hn
    by_cases hc : s.all ≤ a
    · rw [show s.hcode a b = true from by unfold LS.hcode; rw [hn]; simpa using hc, if_pos rfl]
      have HB : Hid _ := h
      obtain ⟨d, u, x, c, n⟩ := s
      generalize hm : (LS.mk d u x c n).all = m at *
      clear hn h hm ho
      simp only at c3 c4 hna
      go_enter Tryd.func52, Tryd.ntmps52
      go_wp2_with fail
      refine hal.mono ?_
      rintro e w2 ⟨rfl, q, rfl⟩
      go_wp2_with fail
      go_ret
      refine ⟨rfl, ?_, ?_⟩
      · exact (Blk.set (show Blk (w.drewN q) hb _ 81 from HB.out) 3 _).set 4 _
      · exact (((Stq.refl hb w).drewN _).trans (Stq.set hb 3 _ _)).trans (Stq.set hb 4 _ _)
    · rw [show s.hcode a b = false from by unfold LS.hcode; rw [hn]; simpa using hc, if_neg (by decide)]
      have HB : Hid _ := h
      obtain ⟨d, u, x, c, n⟩ := s
      generalize hm : (LS.mk d u x c n).all = m at *
      clear hn h hm ho
      simp only at c3 c4 hna
      go_enter Tryd.func52, Tryd.ntmps52
      go_wp2_with fail
      refine hal.mono ?_
      rintro e w2 ⟨rfl, q, rfl⟩
      go_wp2_with fail
      go_ret
      exact ⟨rfl, HB.out, (Stq.refl hb w).drewN _⟩
  | false =>
    have hcs := s.news_cases a b hn
    rw [show s.hcode a b = false from by unfold LS.hcode; rw [hn]; rfl, if_neg (by decide)]
    have HB : Hid _ := h
    clear hn h hal c3 ho
    rcases hcs with h1 | ⟨h1, h2⟩ | ⟨h1, h2, h3⟩
    · go_enter Tryd.func52, Tryd.ntmps52
      go_wp2
      go_ret
      exact ⟨rfl, HB.out, Stq.refl _ _⟩
    · go_enter Tryd.func52, Tryd.ntmps52
      go_wp2
      go_ret
      exact ⟨rfl, HB.out, Stq.refl _ _⟩
    · go_enter Tryd.func52, Tryd.ntmps52
      go_wp2
      go_ret
      exact ⟨rfl, HB.out, Stq.refl _ _⟩
end Go.Proofs.YtgnkkpcklljffaaDoor
