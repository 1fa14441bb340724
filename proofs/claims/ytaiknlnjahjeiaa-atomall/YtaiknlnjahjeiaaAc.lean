import Derived.Test.YtaiknlnjahjeiaaJoinA
namespace Go.Proofs.Ytaiknlnjahjeiaa
open Go.RowKit Go.PlainAid Go.MapKept
set_option linter.unusedVariables false
set_option linter.unusedSimpArgs false
def valB (n : Int) : Bool := decide (0 ≤ n) && decide (n ≤ 1099511627776)
def amtB (n : Int) : Bool := decide (1 ≤ n) && decide (n ≤ 1099511627776)
set_option maxRecDepth 100000 in
theorem isValue_any (n : Int) (w : World) : Calls Try.prog 46 #[.int .i64 n] w fun e w' => e = .returned (.bool (valB n)) ∧ w' = w := by
  by_cases h1 : 0 ≤ n
  · by_cases h2 : n ≤ 1099511627776
    · go_enter Try.func46, Try.ntmps46
      go_wp2
      go_ret
      exact ⟨by simp [valB, h1, h2], rfl⟩
    · go_enter Try.func46, Try.ntmps46
      go_wp2
      go_ret
      exact ⟨by simp [valB, h1, h2], rfl⟩
  · go_enter Try.func46, Try.ntmps46
    go_wp2
    go_ret
    exact ⟨by rw [show valB n = false from by unfold valB; rw [Bool.and_eq_false_iff]; exact Or.inl (by simpa using h1)]; rfl, rfl⟩
set_option maxRecDepth 100000 in
theorem isAmount_any (n : Int) (w : World) : Calls Try.prog 45 #[.int .i64 n] w fun e w' => e = .returned (.bool (amtB n)) ∧ w' = w := by
  by_cases h1 : 1 ≤ n
  · have H : Hid _ := isValue_any n w
    go_enter Try.func45, Try.ntmps45
    go_wp2_with fail
    refine Calls.mono H.out ?_
    rintro e9 w9 ⟨rfl, hw9⟩
    replace hw9 := hw9.symm
    subst hw9
    go_wp2_with fail
    go_ret
    exact ⟨by simp [valB, amtB, h1, show 0 ≤ n by omega], rfl⟩
  · go_enter Try.func45, Try.ntmps45
    go_wp2
    go_ret
    exact ⟨by rw [show amtB n = false from by unfold amtB; rw [Bool.and_eq_false_iff]; exact Or.inl (by simpa using h1)]; rfl, rfl⟩
set_option maxRecDepth 100000 in
theorem refused_any (e0 : Int) (w : World) : Calls Try.prog 31 #[.int .i64 e0] w fun e w' => e = .returned (.agg #[.int .i64 0, .int .i64 e0, .nilFunc]) ∧ Below w.heap.size w w' := by
  have hb : Below w.heap.size w (w.alloc (.cells #[.int .i64 0, .int .i64 e0, .nilFunc] 62)) := by go_grown
  have hB : Blk (w.alloc (.cells #[.int .i64 0, .int .i64 e0, .nilFunc] 62)) w.heap.size #[.int .i64 0, .int .i64 e0, .nilFunc] 62 := heap_alloc_new w _
  have HB : Hid _ := hb
  have HBB : Hid (Blk (w.alloc (.cells #[.int .i64 0, .int .i64 e0, .nilFunc] 62)) w.heap.size #[.int .i64 0, .int .i64 e0, .nilFunc] 62) := hB
  clear hb hB
  go_enter Try.func31, Try.ntmps31
  go_wp2_with fail
  refine bodyPost_ret (results_cell_row Try.results31 _ _ w.heap.size 62 _ (0, 0) _ rfl HBB.out Try.underlying62 rfl (by kernel_rfl)) rfl ?_
  exact ⟨rfl, HB.out⟩
theorem hmf (fn : Fn) (first cap : Array Value) (w : World) : (Instr.makeFunc fn first cap).run Try.prog w = .ok (.func fn first cap) w := rfl
end Go.Proofs.Ytaiknlnjahjeiaa
