import Derived.Test.YtjojhhkbebddmaaE12
namespace Go.Proofs.Ytjojhhkbebddmaa
open Go.RowKit Go.PlainAid
set_option linter.unusedVariables false
set_option linter.unusedSimpArgs false
theorem mkChan3 (w : World) : (Instr.makeChan 80 (.int .i64 3)).run Try.prog w = .ok (.chan (some w.heap.size)) (w.alloc (.chan 3 #[] false 0 0 false)) := by
  obtain ⟨i0, hi, _, _, hb⟩ := info_parts info56
  exact Conc.run_makeChan Try.underlying80 hi .i64 3 (by omega) (by rw [hb]; omega)
def newX (me n : Nat) : EV := ⟨me, n, fun _ => 0, fun _ => 0, false, fun _ => false, fun _ => 0⟩
def newC (me n : Int) : Int := if n < 2 ∨ 16 < n then 1 else if me < 0 ∨ n ≤ me then 3 else 0
set_option maxRecDepth 100000 in
set_option maxHeartbeats 3200000 in
theorem new_no (me n : Int) (w : World) (h : newC me n ≠ 0) : Calls Try.prog 16 #[.int .i64 me, .int .i64 n] w fun e w' => e = .returned (.tuple #[.pointer none, .int .i64 (newC me n)]) ∧ w' = w := by
  by_cases h1 : n < 2
  · have hc : newC me n = 1 := by unfold newC; rw [if_pos (.inl h1)]
    rw [hc]
    clear h hc
    go_enter Try.func16, Try.ntmps16
    go_wp2
    go_ret2
    exact ⟨rfl, rfl⟩
  · by_cases h2 : 16 < n
    · have hc : newC me n = 1 := by unfold newC; rw [if_pos (.inr h2)]
      rw [hc]
      clear h hc
      go_enter Try.func16, Try.ntmps16
      go_wp2
      go_ret2
      exact ⟨rfl, rfl⟩
    · by_cases h3 : me < 0
      · have hc : newC me n = 3 := by unfold newC; rw [if_neg (by omega), if_pos (.inl h3)]
        rw [hc]
        clear h hc
        go_enter Try.func16, Try.ntmps16
        go_wp2
        go_ret2
        exact ⟨rfl, rfl⟩
      · by_cases h4 : n ≤ me
        · have hc : newC me n = 3 := by unfold newC; rw [if_neg (by omega), if_pos (.inr h4)]
          rw [hc]
          clear h hc
          go_enter Try.func16, Try.ntmps16
          go_wp2
          go_ret2
          exact ⟨rfl, rfl⟩
        · exact absurd (by unfold newC; rw [if_neg (by omega), if_neg (by omega)]) h
set_option maxRecDepth 100000 in
set_option maxHeartbeats 3200000 in
theorem new_yes (me n : Nat) (w : World) (h : newC me n = 0) : Calls Try.prog 16 #[.int .i64 (me : Int), .int .i64 (n : Int)] w fun e w' => e = .returned (.tuple #[.pointer (some ⟨w.heap.size + 1, 0, none⟩), .int .i64 0]) ∧ MM w.heap.size (w.heap.size + 1) w.heap.size (newX me n) [] w' ∧ Below w.heap.size w w' := by
  have h1 : 2 ≤ n ∧ n ≤ 16 ∧ me < n := by
    unfold newC at h
    by_cases q : (n : Int) < 2 ∨ (16 : Int) < (n : Int)
    · rw [if_pos q] at h; cases h
    · rw [if_neg q] at h
      by_cases q2 : (me : Int) < 0 ∨ (n : Int) ≤ (me : Int)
      · rw [if_pos q2] at h; cases h
      · omega
  obtain ⟨a1, a2, a3⟩ := h1
  clear h
  have hmc := mkChan3
  go_enter Try.func16, Try.ntmps16
  go_wp2
  go_ret2
  have hb1 : Below w.heap.size w (w.alloc (.chan 3 #[] false 0 0 false)) := (Below.refl _ _).alloc (Nat.le_refl _) _
  have hb2 := hb1.alloc hb1.size (.cells (mbox (newX me n) w.heap.size) 86)
  refine ⟨rfl, ⟨?_, ⟨0, 0, ?_⟩, by omega, by omega⟩, hb2⟩
  · have := heap_alloc_new (w.alloc (.chan 3 #[] false 0 0 false)) (.cells (mbox (newX me n) w.heap.size) 86)
    simp only [World.size_alloc] at this
    exact this
  · have h1 : (w.alloc (.chan 3 #[] false 0 0 false)).heap[w.heap.size]? = some (.chan 3 #[] false 0 0 false) := heap_alloc_new w _
    exact (Below.heap_alloc (w.alloc (.chan 3 #[] false 0 0 false)) (.cells (mbox (newX me n) w.heap.size) 86) w.heap.size (by simp)).trans h1
end Go.Proofs.Ytjojhhkbebddmaa
