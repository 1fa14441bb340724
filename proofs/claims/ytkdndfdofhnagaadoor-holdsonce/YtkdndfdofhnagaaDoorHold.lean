import Derived.Test.YtkdndfdofhnagaaDoorEnd
import Derived.Test.YtkdndfdofhnagaaDoorJF
namespace Go.Proofs.YtkdndfdofhnagaaDoor
open Go.RowKit Go.PlainAid
set_option linter.unusedVariables false
set_option linter.unusedSimpArgs false
def ncode (me room : Int) : Int := bif decide (0 ≤ me) && decide (me < 16) then (bif decide (0 ≤ room) && decide (room ≤ 16) then 0 else 1) else 3
set_option maxRecDepth 100000 in
set_option maxHeartbeats 800000 in
theorem bnew_any (me room : Int) (w : World) (hc : ncode me room = 0) : Calls Tryd.prog 13 #[.int .i64 me, .int .i64 room] w fun r w' => r = .returned (.tuple #[.pointer (some ⟨w.heap.size + 1, 0, none⟩), .int .i64 0]) ∧ Bk (w.heap.size + 1) w.heap.size ⟨me, room, 0, []⟩ w' ∧ Below w.heap.size w w' ∧ w'.heap.size = w.heap.size + 2 := by
  have h1 : 0 ≤ me ∧ me < 16 := by
    by_cases h : 0 ≤ me ∧ me < 16
    · exact h
    · have : (decide (0 ≤ me) && decide (me < 16)) = false := by simp only [Bool.and_eq_false_iff, decide_eq_false_iff_not]; omega
      simp [ncode, this] at hc
  have h2 : 0 ≤ room ∧ room ≤ 16 := by
    by_cases h : 0 ≤ room ∧ room ≤ 16
    · exact h
    · have : (decide (0 ≤ room) && decide (room ≤ 16)) = false := by simp only [Bool.and_eq_false_iff, decide_eq_false_iff_not]; omega
      simp [ncode, this, h1] at hc
  obtain ⟨h11, h12⟩ := h1
  obtain ⟨h21, h22⟩ := h2
  have hmm := @run_makeMap Tryd.prog
  clear hc
  go_enter Tryd.func13, Tryd.ntmps13
  go_wp2
  go_ret2
  refine ⟨rfl, ⟨?_, ?_⟩, by go_grown, by simp⟩
  · have := heap_alloc_new (w.alloc (.map #[] 0)) (.cells #[.int .i64 me, .int .i64 room, .int .i64 0, .map (some w.heap.size)] 68)
    rw [World.size_alloc] at this
    exact this
  · exact (HMap.made w me).same (Below.heap_alloc _ _ _ (by simp))
set_option maxRecDepth 100000 in
set_option maxHeartbeats 800000 in
theorem bnew_no (me room : Int) (w : World) (hc : ncode me room ≠ 0) : Calls Tryd.prog 13 #[.int .i64 me, .int .i64 room] w fun r w' => r = .returned (.tuple #[.pointer none, .int .i64 (ncode me room)]) ∧ w' = w := by
  by_cases h1 : 0 ≤ me
  · by_cases h2 : me < 16
    · by_cases h3 : 0 ≤ room
      · by_cases h4 : room ≤ 16
        · exact absurd (by simp [ncode, h1, h2, h3, h4]) hc
        · rw [show ncode me room = 1 by simp [ncode, h1, h2, h3, h4]]
          clear hc
          go_enter Tryd.func13, Tryd.ntmps13
          go_wp2
          go_ret2
          exact ⟨rfl, rfl⟩
      · rw [show ncode me room = 1 by simp [ncode, h1, h2, h3]]
        clear hc
        go_enter Tryd.func13, Tryd.ntmps13
        go_wp2
        go_ret2
        exact ⟨rfl, rfl⟩
    · rw [show ncode me room = 3 by simp [ncode, h1, h2]]
      clear hc
      go_enter Tryd.func13, Tryd.ntmps13
      go_wp2
      go_ret2
      exact ⟨rfl, rfl⟩
  · rw [show ncode me room = 3 by simp [ncode, h1]]
    clear hc
    go_enter Tryd.func13, Tryd.ntmps13
    go_wp2
    go_ret2
    exact ⟨rfl, rfl⟩
set_option maxRecDepth 100000 in
theorem commit_any {S : Sens} {L hb mb lb : Nat} {b : BS} {s : LS} (w : World) (hS : Sen S L w) (hB : Bk hb mb b w) (h : Blk w lb s.cs 71) (ho : s.Ok) (hL : L ≤ lb) (n : Int) (hn : IntKind.i64.wrap n = n) :
    Calls Tryd.prog 21 #[.pointer (some ⟨hb, 0, none⟩), .pointer (some ⟨lb, 0, none⟩), .int .i64 n] w fun r w' => r = .returned (.tuple #[.int .i64 (b.eamt s n), .int .i64 (b.ecode s n)]) ∧ Bk hb mb (b.enext s n) w' ∧ Blk w' lb (b.elnext s 1 n).cs 71 ∧ Chg (fun k => k = mb ∨ k = lb) w w' := by
  have hc := endB_any w hS hB h ho hL n hn
  clear hS hB h ho hL hn
  go_enter Tryd.func21, Tryd.ntmps21
  go_wp2_with fail
  refine hc.mono ?_
  rintro e w1 ⟨rfl, h1, h2, h3⟩
  go_wp2_with fail
  go_ret2
  exact ⟨rfl, h1, h2, h3⟩
set_option maxRecDepth 100000 in
theorem release_any {S : Sens} {L hb mb lb : Nat} {b : BS} {s : LS} (w : World) (hS : Sen S L w) (hB : Bk hb mb b w) (h : Blk w lb s.cs 71) (ho : s.Ok) (hL : L ≤ lb) (n : Int) (hn : IntKind.i64.wrap n = n) :
    Calls Tryd.prog 22 #[.pointer (some ⟨hb, 0, none⟩), .pointer (some ⟨lb, 0, none⟩), .int .i64 n] w fun r w' => r = .returned (.tuple #[.int .i64 (b.eamt s n), .int .i64 (b.ecode s n)]) ∧ Bk hb mb (b.enext s n) w' ∧ Blk w' lb (b.elnext s 0 n).cs 71 ∧ Chg (fun k => k = mb ∨ k = lb) w w' := by
  have hc := endF_any w hS hB h ho hL n hn
  clear hS hB h ho hL hn
  go_enter Tryd.func22, Tryd.ntmps22
  go_wp2_with fail
  refine hc.mono ?_
  rintro e w1 ⟨rfl, h1, h2, h3⟩
  go_wp2_with fail
  go_ret2
  exact ⟨rfl, h1, h2, h3⟩
end Go.Proofs.YtkdndfdofhnagaaDoor
