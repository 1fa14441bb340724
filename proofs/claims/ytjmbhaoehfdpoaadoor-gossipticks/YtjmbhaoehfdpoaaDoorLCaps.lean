import Derived.Test.YtjmbhaoehfdpoaaDoorLInOut
namespace Go.Proofs.YtjmbhaoehfdpoaaDoor.Led
open Go.RowKit Go.PlainAid
set_option linter.unusedVariables false
set_option linter.unusedSimpArgs false
def LS.scode (s : LS) (a : Int) : Int := if a < 0 then 1 else if s.d + s.u < a then 61 else 0
def LS.snext (s : LS) (a : Int) : LS := if s.scode a = 0 then { s with d := a, u := s.d + s.u - a } else s
def LS.news (s : LS) (a b : Int) : Bool := okAmt a && decide (s.n < b)
def LS.rcode (s : LS) (a b : Int) : Int := if s.news a b = true then (if s.u + a - s.c < 0 then 61 else 0) else 1
def LS.rnext (s : LS) (a b : Int) : LS := if s.rcode a b = 0 then { s with u := s.u + a - s.c, c := a, n := b } else s
def LS.hcode (s : LS) (a b : Int) : Bool := s.news a b && decide (s.all ≤ a)
def LS.hnext (s : LS) (a b : Int) : LS := if s.hcode a b = true then { s with c := a, n := b } else s
def LS.bare (s : LS) : LS := { s with d := 0, u := 0 }
theorem LS.scode_is (s : LS) (a : Int) : s.scode a = 0 ∨ s.scode a = 1 ∨ s.scode a = 60 ∨ s.scode a = 61 := by
  unfold LS.scode; split
  · simp
  · split <;> simp
theorem LS.rcode_is (s : LS) (a b : Int) : s.rcode a b = 0 ∨ s.rcode a b = 1 ∨ s.rcode a b = 60 ∨ s.rcode a b = 61 := by
  unfold LS.rcode; split
  · split <;> simp
  · simp
theorem LS.snext_ok (s : LS) (h : s.Ok) (a : Int) : (s.snext a).Ok := by
  obtain ⟨h1, h2, h3, h4, h5, h6⟩ := h
  unfold LS.snext LS.scode
  by_cases hn : a < 0
  · rw [if_pos hn, if_neg (by decide)]; exact ⟨h1, h2, h3, h4, h5, h6⟩
  · rw [if_neg hn]
    by_cases hc : s.d + s.u < a
    · rw [if_pos hc, if_neg (by decide)]; exact ⟨h1, h2, h3, h4, h5, h6⟩
    · rw [if_neg hc, if_pos rfl]
      exact ⟨by simp only; omega, by simp only; omega, h3, by simp only; omega, h5, h6⟩
theorem LS.news_amt {s : LS} {a b : Int} (h : s.news a b = true) : 1 ≤ a ∧ a ≤ 1099511627776 ∧ s.n < b := by
  simp [LS.news, okAmt] at h
  omega
theorem LS.rnext_ok (s : LS) (h : s.Ok) (a b : Int) : (s.rnext a b).Ok := by
  obtain ⟨h1, h2, h3, h4, h5, h6⟩ := h
  unfold LS.rnext LS.rcode
  by_cases hn : s.news a b = true
  · have := LS.news_amt hn
    rw [if_pos hn]
    by_cases hc : s.u + a - s.c < 0
    · rw [if_pos hc, if_neg (by decide)]; exact ⟨h1, h2, h3, h4, h5, h6⟩
    · rw [if_neg hc, if_pos rfl]
      exact ⟨h1, by simp only; omega, h3, by simp only; omega, by simp only; omega, by simp only; omega⟩
  · rw [if_neg hn, if_neg (by decide)]; exact ⟨h1, h2, h3, h4, h5, h6⟩
theorem LS.hnext_ok (s : LS) (h : s.Ok) (a b : Int) : (s.hnext a b).Ok := by
  have hh := h
  obtain ⟨h1, h2, h3, h4, h5, h6⟩ := h
  unfold LS.hnext
  by_cases hn : s.hcode a b = true
  · rw [if_pos hn]
    unfold LS.hcode at hn
    rw [Bool.and_eq_true] at hn
    have := LS.news_amt hn.1
    have h7 : s.all ≤ a := by simpa using hn.2
    unfold LS.all at h7
    exact ⟨h1, h2, h3, h7, by simp only; omega, by simp only; omega⟩
  · rw [if_neg hn]; exact hh
theorem LS.bare_ok (s : LS) (h : s.Ok) : s.bare.Ok := by
  obtain ⟨h1, h2, h3, h4, h5, h6⟩ := h
  exact ⟨by simp [LS.bare], by simp [LS.bare], h3, by simp only [LS.bare]; omega, h5, h6⟩
set_option maxRecDepth 100000 in
set_option maxHeartbeats 800000 in
theorem new_any (k : Int) (w : World) (hk : okAmt k = true) : Calls Tryd.prog 10 #[.int .i64 k] w fun r w' => r = .returned (.tuple #[.pointer (some ⟨w.heap.size, 0, none⟩), .int .i64 0]) ∧ w' = w.alloc (.cells (LS.mk 0 0 0 k 0).cs 63) := by
  have ha := amount_any k w
  rw [hk] at ha
  show Calls Tryd.prog 10 _ w fun r w' => _ ∧ w' = w.alloc (.cells #[.int .i64 0, .int .i64 0, .int .i64 0, .int .i64 k, .int .i64 0] 63)
  go_enter Tryd.func10, Tryd.ntmps10
  go_wp2_with fail
  refine ha.mono ?_
  rintro e w' ⟨rfl, rfl⟩
  go_wp2_with fail
  go_ret2
  exact ⟨rfl, rfl⟩
set_option maxRecDepth 100000 in
set_option maxHeartbeats 800000 in
theorem new_no (k : Int) (w : World) (hk : okAmt k = false) : Calls Tryd.prog 10 #[.int .i64 k] w fun r w' => r = .returned (.tuple #[.pointer none, .int .i64 1]) ∧ w' = w := by
  have ha := amount_any k w
  rw [hk] at ha
  go_enter Tryd.func10, Tryd.ntmps10
  go_wp2_with fail
  refine ha.mono ?_
  rintro e w' ⟨rfl, rfl⟩
  go_wp2_with fail
  go_ret2
  exact ⟨rfl, rfl⟩
end Go.Proofs.YtjmbhaoehfdpoaaDoor.Led

