import Derived.Test.YtjmbhaoehfdpoaaDoorLCaps2
namespace Go.Proofs.YtjmbhaoehfdpoaaDoor.Led
open Go.RowKit Go.PlainAid
set_option linter.unusedVariables false
set_option linter.unusedSimpArgs false
theorem okAmt_no {k : Int} (h : okAmt k = false) : k < 1 ∨ 1099511627776 < k := by
  by_cases h1 : k < 1
  · exact Or.inl h1
  · by_cases h2 : 1099511627776 < k
    · exact Or.inr h2
    · rw [show okAmt k = true from by simp [okAmt]; omega] at h; cases h
theorem okAmt_yes {k : Int} (h : okAmt k = true) : 1 ≤ k ∧ k ≤ 1099511627776 := by simpa [okAmt] using h
set_option maxRecDepth 100000 in
set_option maxHeartbeats 800000 in
theorem rnew_any (k : Int) (w : World) (hk : okAmt k = true) : Calls Tryd.prog 27 #[.int .i64 k] w fun r w' => r = .returned (.tuple #[.pointer (some ⟨w.heap.size, 0, none⟩), .int .i64 0]) ∧ w' = w.alloc (.cells (LS.mk 0 0 0 k 0).cs 94) := by
  have ha := okAmt_yes hk
  show Calls Tryd.prog 27 _ w fun r w' => _ ∧ w' = w.alloc (.cells #[.int .i64 0, .int .i64 0, .int .i64 0, .int .i64 k, .int .i64 0] 94)
  go_enter Tryd.func27, Tryd.ntmps27
  go_wp2
  go_ret2
  exact ⟨rfl, rfl⟩
set_option maxRecDepth 100000 in
set_option maxHeartbeats 800000 in
theorem rnew_no (k : Int) (w : World) (hk : okAmt k = false) : Calls Tryd.prog 27 #[.int .i64 k] w fun r w' => r = .returned (.tuple #[.pointer none, .int .i64 1]) ∧ w' = w := by
  by_cases h1 : k < 1
  · go_enter Tryd.func27, Tryd.ntmps27
    go_wp2
    go_ret2
    exact ⟨rfl, rfl⟩
  · have h2 : 1099511627776 < k := by rcases okAmt_no hk with h | h <;> omega
    go_enter Tryd.func27, Tryd.ntmps27
    go_wp2
    go_ret2
    exact ⟨rfl, rfl⟩
set_option maxRecDepth 100000 in
set_option maxHeartbeats 800000 in
theorem rall_any {hb : Nat} {s : LS} (w : World) (h : Blk w hb s.cs 94) (ho : s.Ok) :
    Calls Tryd.prog 51 #[.pointer (some ⟨hb, 0, none⟩)] w fun r w' => r = .returned (.int .i64 s.all) ∧ ∃ q, w' = w.drewN q := by
  obtain ⟨d, u, x, c, n⟩ := s
  obtain ⟨h1, h2, h3, h4, h5, h6⟩ := ho
  simp only at h1 h2 h3 h4 h5 h6
  have c0 : w.cell? ⟨hb, 0, none⟩ = some (.int .i64 d) := h.cell 0
  have c1 : w.cell? ⟨hb, 1, none⟩ = some (.int .i64 u) := h.cell 1
  have c2 : w.cell? ⟨hb, 2, none⟩ = some (.int .i64 x) := h.cell 2
  have e1 : IntKind.i64.wrap (d + u) = d + u := by rw [IntKind.wrap_i64]; omega
  have e2 : IntKind.i64.wrap (d + u + x) = d + u + x := by rw [IntKind.wrap_i64]; omega
  show Calls Tryd.prog 51 _ w fun r w' => r = .returned (.int .i64 (d + u + x)) ∧ _
  clear h
  go_enter Tryd.func51, Tryd.ntmps51
  go_wp2
  go_quiet (fail)
  go_wp2
  go_ret
  exact ⟨rfl, _, rfl⟩
theorem LS.news_cases (s : LS) (a b : Int) (h : s.news a b = false) : a < 1 ∨ (1 ≤ a ∧ 1099511627776 < a) ∨ (1 ≤ a ∧ a ≤ 1099511627776 ∧ b ≤ s.n) := by
  by_cases h1 : a < 1
  · exact Or.inl h1
  · by_cases h2 : 1099511627776 < a
    · exact Or.inr (Or.inl (by omega))
    · by_cases h3 : b ≤ s.n
      · exact Or.inr (Or.inr (by omega))
      · rw [show s.news a b = true from by simp [LS.news, okAmt]; omega] at h; cases h
end Go.Proofs.YtjmbhaoehfdpoaaDoor.Led

