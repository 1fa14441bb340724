import Derived.Test.YtnphkmdanicemaaGreatDoorLInOut
namespace Go.Proofs.YtnphkmdanicemaaGreatDoor.Led
open Go.RowKit Go.PlainAid
set_option linter.unusedVariables false
set_option linter.unusedSimpArgs false
def LS.scode (s : LS) (a : Int) : Int := if a < 0 then 1 else if s.d + s.u < a then 61 else 0
def LS.snext (s : LS) (a : Int) : LS := if s.scode a = 0 then { s with d := a, u := s.d + s.u - a } else s
def LS.news (s : LS) (a b : Int) : Bool := okAmt a && decide (s.n < b)
def LS.rcode (s : LS) (a b : Int) : Int := if s.news a b = true then (if s.u + a - s.c < 0 then 61 else 0) else 1
def LS.rnext (s : LS) (a b : Int) : LS := if s.rcode a b = 0 then { s with u := s.u + a - s.c, c := a, n := b } else s
def LS.hcode (s : LS) (a b : Int) : Bool := s.news a b && decide (s.all ≤ a)
def LS.hnext (s : LS) (a b : Int) : LS := if s.hcode a b = true then { s with c := a, n := b } else s
def LS.bare (s : LS) : LS := { s with d := 0, u := 0 }
theorem LS.scode_is (s : LS) (a : Int) : s.scode a = 0 ∨ s.scode a = 1 ∨ s.scode a = 60 ∨ s.scode a = 61 := by
  unfold LS.scode; split
  · simp
  · split <;> simp
theorem LS.rcode_is (s : LS) (a b : Int) : s.rcode a b = 0 ∨ s.rcode a b = 1 ∨ s.rcode a b = 60 ∨ s.rcode a b = 61 := by
  unfold LS.rcode; split
  · split <;> simp
  · simp
theorem LS.snext_ok (s : LS) (h : s.Ok) (a : Int) : (s.snext a).Ok := by
  obtain ⟨h1, h2, h3, h4, h5, h6⟩ := h
  unfold LS.snext LS.scode
  by_cases hn : a < 0
  · rw [if_pos hn, if_neg (by decide)]; exact ⟨h1, h2, h3, h4, h5, h6⟩
  · rw [if_neg hn]
    by_cases hc : s.d + s.u < a
    · rw [if_pos hc, if_neg (by decide)]; exact ⟨h1, h2, h3, h4, h5, h6⟩
    · rw [if_neg hc, if_pos rfl]
      exact ⟨by simp only; omega, by simp only; omega, h3, by simp only; omega, h5, h6⟩
theorem LS.news_amt {s : LS} {a b : Int} (h : s.news a b = true) : 1 ≤ a ∧ a ≤ 1099511627776 ∧ s.n < b := by
  simp [LS.news, okAmt] at h
  omega
theorem LS.rnext_ok (s : LS) (h : s.Ok) (a b : Int) : (s.rnext a b).Ok := by
  obtain ⟨h1, h2, h3, h4, h5, h6⟩ := h
  unfold LS.rnext LS.rcode
  by_cases hn : s.news a b = true
  · have := LS.news_amt hn
    rw [if_pos hn]
    by_cases hc : s.u + a - s.c < 0
    · rw [if_pos hc, if_neg (by decide)]; exact ⟨h1, h2, h3, h4, h5, h6⟩
    · rw [if_neg hc, if_pos rfl]
      exact ⟨h1, by simp only; omega, h3, by simp only; omega, by simp only; omega, by simp only; omega⟩
  · rw [if_neg hn, if_neg (by decide)]; exact ⟨h1, h2, h3, h4, h5, h6⟩
theorem LS.hnext_ok (s : LS) (h : s.Ok) (a b : Int) : (s.hnext a b).Ok := by
  have hh := h
  obtain ⟨h1, h2, h3, h4, h5, h6⟩ := h
  unfold LS.hnext
  by_cases hn : s.hcode a b = true
  · rw [if_pos hn]
    unfold LS.hcode at hn
    rw [Bool.and_eq_true] at hn
    have := LS.news_amt hn.1
    have h7 : s.all ≤ a := by simpa using hn.2
    unfold LS.all at h7
    exact ⟨h1, h2, h3, h7, by simp only; omega, by simp only; omega⟩
  · rw [if_neg hn]; exact hh
theorem LS.bare_ok (s : LS) (h : s.Ok) : s.bare.Ok := by
  obtain ⟨h1, h2, h3, h4, h5, h6⟩ := h
  exact ⟨by simp [LS.bare], by simp [LS.bare], h3, by simp only [LS.bare]; omega, h5, h6⟩
set_option maxRecDepth 100000 in
set_option maxHeartbeats 800000 in
theorem new_any (k : Int) (w : World) (hk : okAmt k = true) : Calls Tryz.prog 17 #[.int .i64 k] w fun r w' => r = .returned (.tuple #[.pointer (some ⟨w.heap.size, 0, none⟩), .int .i64 0]) ∧ w' = w.alloc (.cells (LS.mk 0 0 0 k 0).cs 82) := by
  have ha := amount_any k w
  rw [hk] at ha
  show Calls Tryz.prog 17 _ w fun r w' => _ ∧ w' = w.alloc (.cells #[.int .i64 0, .int .i64 0, .int .i64 0, .int .i64 k, .int .i64 0] 82)
  go_enter Tryz.func17, Tryz.ntmps17
  go_wp2_with fail
  refine ha.mono ?_
  rintro e w' ⟨rfl, rfl⟩
  go_wp2_with fail
  go_ret2
  exact ⟨rfl, rfl⟩
set_option maxRecDepth 100000 in
set_option maxHeartbeats 800000 in
theorem new_no (k : Int) (w : World) (hk : okAmt k = false) : Calls Tryz.prog 17 #[.int .i64 k] w fun r w' => r = .returned (.tuple #[.pointer none, .int .i64 1]) ∧ w' = w := by
  have ha := amount_any k w
  rw [hk] at ha
  go_enter Tryz.func17, Tryz.ntmps17
  go_wp2_with fail
  refine ha.mono ?_
  rintro e w' ⟨rfl, rfl⟩
  go_wp2_with fail
  go_ret2
  exact ⟨rfl, rfl⟩
end Go.Proofs.YtnphkmdanicemaaGreatDoor.Led

namespace Go.Proofs.YtnphkmdanicemaaGreatDoor.Led
open Go.RowKit Go.PlainAid
set_option linter.unusedVariables false
set_option linter.unusedSimpArgs false
def RC (d u : Int) : Array Value := #[.int .i64 d, .int .i64 u]
set_option maxRecDepth 100000 in
set_option maxHeartbeats 1600000 in
theorem rights_any {hb : Nat} {s : LS} (w : World) (h : Blk w hb s.cs 82) :
    Calls Tryz.prog 11 #[.pointer (some ⟨hb, 0, none⟩)] w fun r w' => r = .returned (.agg #[.int .i64 s.d, .int .i64 s.u]) ∧ Below w.heap.size w w' := by
  have hgr : Below w.heap.size w (w.alloc (.cells #[.int .i64 0, .int .i64 0] 37)) := by go_grown
  have hB1 : Blk (w.alloc (.cells #[.int .i64 0, .int .i64 0] 37)) hb s.cs 82 := h.below hgr h.lt
  have c0 : (w.alloc (.cells #[.int .i64 0, .int .i64 0] 37)).cell? ⟨hb, 0, none⟩ = some (.int .i64 s.d) := hB1.cell 0
  have c1 : (w.alloc (.cells #[.int .i64 0, .int .i64 0] 37)).cell? ⟨hb, 1, none⟩ = some (.int .i64 s.u) := hB1.cell 1
  generalize s.d = d at *
  generalize s.u = u at *
  clear hB1 h
  have HG : Hid _ := hgr
  clear hgr
  go_enter Tryz.func11, Tryz.ntmps11
  go_wp2
  have hB : (w.alloc (.cells #[.int .i64 d, .int .i64 u] 37)).heap[w.heap.size]? = some (.cells #[.int .i64 d, .int .i64 u] 37 (0, 0)) := heap_alloc_new w _
  exact bodyPost_ret (results_cell_row Tryz.results11 _ _ (w.heap.size) 37 _ (0, 0) _ rfl hB Tryz.underlying37 rfl (by kernel_rfl)) rfl ⟨rfl, by go_grown⟩
end Go.Proofs.YtnphkmdanicemaaGreatDoor.Led

namespace Go.Proofs.YtnphkmdanicemaaGreatDoor.Led
open Go.RowKit Go.PlainAid
set_option linter.unusedVariables false
set_option linter.unusedSimpArgs false
theorem okAmt_no {k : Int} (h : okAmt k = false) : k < 1 ∨ 1099511627776 < k := by
  by_cases h1 : k < 1
  · exact Or.inl h1
  · by_cases h2 : 1099511627776 < k
    · exact Or.inr h2
    · rw [show okAmt k = true from by simp [okAmt]; omega] at h; cases h
theorem okAmt_yes {k : Int} (h : okAmt k = true) : 1 ≤ k ∧ k ≤ 1099511627776 := by simpa [okAmt] using h
set_option maxRecDepth 100000 in
set_option maxHeartbeats 800000 in
theorem rnew_any (k : Int) (w : World) (hk : okAmt k = true) : Calls Tryz.prog 28 #[.int .i64 k] w fun r w' => r = .returned (.tuple #[.pointer (some ⟨w.heap.size, 0, none⟩), .int .i64 0]) ∧ w' = w.alloc (.cells (LS.mk 0 0 0 k 0).cs 122) := by
  have ha := okAmt_yes hk
  show Calls Tryz.prog 28 _ w fun r w' => _ ∧ w' = w.alloc (.cells #[.int .i64 0, .int .i64 0, .int .i64 0, .int .i64 k, .int .i64 0] 122)
  go_enter Tryz.func28, Tryz.ntmps28
  go_wp2
  go_ret2
  exact ⟨rfl, rfl⟩
set_option maxRecDepth 100000 in
set_option maxHeartbeats 800000 in
theorem rnew_no (k : Int) (w : World) (hk : okAmt k = false) : Calls Tryz.prog 28 #[.int .i64 k] w fun r w' => r = .returned (.tuple #[.pointer none, .int .i64 1]) ∧ w' = w := by
  by_cases h1 : k < 1
  · go_enter Tryz.func28, Tryz.ntmps28
    go_wp2
    go_ret2
    exact ⟨rfl, rfl⟩
  · have h2 : 1099511627776 < k := by rcases okAmt_no hk with h | h <;> omega
    go_enter Tryz.func28, Tryz.ntmps28
    go_wp2
    go_ret2
    exact ⟨rfl, rfl⟩
set_option maxRecDepth 100000 in
set_option maxHeartbeats 800000 in
theorem rall_any {hb : Nat} {s : LS} (w : World) (h : Blk w hb s.cs 122) (ho : s.Ok) :
    Calls Tryz.prog 59 #[.pointer (some ⟨hb, 0, none⟩)] w fun r w' => r = .returned (.int .i64 s.all) ∧ ∃ q, w' = w.drewN q := by
  obtain ⟨d, u, x, c, n⟩ := s
  obtain ⟨h1, h2, h3, h4, h5, h6⟩ := ho
  simp only at h1 h2 h3 h4 h5 h6
  have c0 : w.cell? ⟨hb, 0, none⟩ = some (.int .i64 d) := h.cell 0
  have c1 : w.cell? ⟨hb, 1, none⟩ = some (.int .i64 u) := h.cell 1
  have c2 : w.cell? ⟨hb, 2, none⟩ = some (.int .i64 x) := h.cell 2
  have e1 : IntKind.i64.wrap (d + u) = d + u := by rw [IntKind.wrap_i64]; omega
  have e2 : IntKind.i64.wrap (d + u + x) = d + u + x := by rw [IntKind.wrap_i64]; omega
  show Calls Tryz.prog 59 _ w fun r w' => r = .returned (.int .i64 (d + u + x)) ∧ _
  clear h
  go_enter Tryz.func59, Tryz.ntmps59
  go_wp2
  go_quiet (fail)
  go_wp2
  go_ret
  exact ⟨rfl, _, rfl⟩
theorem LS.news_cases (s : LS) (a b : Int) (h : s.news a b = false) : a < 1 ∨ (1 ≤ a ∧ 1099511627776 < a) ∨ (1 ≤ a ∧ a ≤ 1099511627776 ∧ b ≤ s.n) := by
  by_cases h1 : a < 1
  · exact Or.inl h1
  · by_cases h2 : 1099511627776 < a
    · exact Or.inr (Or.inl (by omega))
    · by_cases h3 : b ≤ s.n
      · exact Or.inr (Or.inr (by omega))
      · rw [show s.news a b = true from by simp [LS.news, okAmt]; omega] at h; cases h
end Go.Proofs.YtnphkmdanicemaaGreatDoor.Led

