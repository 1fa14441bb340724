import Derived.Test.YtcjgicfmfjomgaaTak
namespace Go.Proofs.Ytcjgicfmfjomgaa
open Go.RowKit Go.PlainAid Go.MapKept
set_option linter.unusedVariables false
set_option linter.unusedSimpArgs false
def repOk (me peer : Int) : Prop := (0 ≤ me ∧ me < 16) ∧ (0 ≤ peer ∧ peer < 16) ∧ me ≠ peer
def argOk (win res : Int) : Prop := (1 ≤ win ∧ win ≤ 16) ∧ (1 ≤ res ∧ res ≤ 1000)
instance (me peer : Int) : Decidable (repOk me peer) := by unfold repOk; infer_instance
instance (win res : Int) : Decidable (argOk win res) := by unfold argOk; infer_instance
set_option maxRecDepth 100000 in
set_option maxHeartbeats 3200000 in
theorem new_rep (me peer win res : Int) (w : World) (h : ¬ repOk me peer) :
    Calls Try.prog 16 #[.int .i64 me, .int .i64 peer, .int .i64 win, .int .i64 res] w fun e w' => e = .returned (.tuple #[.pointer none, .int .i64 3]) ∧ w' = w := by
  have HR1 : Hid (∀ w, Calls Try.prog 30 #[.int .i64 me] w _) := fun w => isReplica_any me w
  have HR2 : Hid (∀ w, Calls Try.prog 30 #[.int .i64 peer] w _) := fun w => isReplica_any peer w
  by_cases h1 : 0 ≤ me ∧ me < 16
  · have e1 : decide (0 ≤ me ∧ me < 16) = true := decide_eq_true h1
    by_cases h2 : 0 ≤ peer ∧ peer < 16
    · have e2 : decide (0 ≤ peer ∧ peer < 16) = true := decide_eq_true h2
      have h3 : me = peer := by
        by_cases e : me = peer
        · exact e
        · exact absurd ⟨h1, h2, e⟩ h
      subst h3
      clear h h1 h2 HR2 e2
      go_enter Try.func16, Try.ntmps16
      go_wp2_with fail
      refine Calls.mono (HR1.out _) ?_
      rintro e w1 ⟨rfl, hw1⟩
      replace hw1 := hw1.symm
      subst hw1
      rw [e1]
      go_wp2_with fail
      refine Calls.mono (HR1.out _) ?_
      rintro e w1 ⟨rfl, hw1⟩
      replace hw1 := hw1.symm
      subst hw1
      rw [e1]
      clear HR1 e1
      go_wp2_with fail
      go_ret2
      exact ⟨rfl, rfl⟩
    · have e2 : decide (0 ≤ peer ∧ peer < 16) = false := decide_eq_false h2
      clear h h1 h2
      go_enter Try.func16, Try.ntmps16
      go_wp2_with fail
      refine Calls.mono (HR1.out _) ?_
      rintro e w1 ⟨rfl, hw1⟩
      replace hw1 := hw1.symm
      subst hw1
      rw [e1]
      go_wp2_with fail
      refine Calls.mono (HR2.out _) ?_
      rintro e w1 ⟨rfl, hw1⟩
      replace hw1 := hw1.symm
      subst hw1
      rw [e2]
      clear HR1 HR2 e1 e2
      go_wp2_with fail
      go_ret2
      exact ⟨rfl, rfl⟩
  · have e1 : decide (0 ≤ me ∧ me < 16) = false := decide_eq_false h1
    clear h h1
    go_enter Try.func16, Try.ntmps16
    go_wp2_with fail
    refine Calls.mono (HR1.out _) ?_
    rintro e w1 ⟨rfl, hw1⟩
    replace hw1 := hw1.symm
    subst hw1
    rw [e1]
    clear HR1 HR2 e1
    go_wp2_with fail
    go_ret2
    exact ⟨rfl, rfl⟩
set_option maxRecDepth 100000 in
set_option maxHeartbeats 3200000 in
theorem new_arg (me peer win res : Int) (w : World) (h : repOk me peer) (h' : ¬ argOk win res) :
    Calls Try.prog 16 #[.int .i64 me, .int .i64 peer, .int .i64 win, .int .i64 res] w fun e w' => e = .returned (.tuple #[.pointer none, .int .i64 1]) ∧ w' = w := by
  have HR1 : Hid (∀ w, Calls Try.prog 30 #[.int .i64 me] w _) := fun w => isReplica_any me w
  have HR2 : Hid (∀ w, Calls Try.prog 30 #[.int .i64 peer] w _) := fun w => isReplica_any peer w
  obtain ⟨h1, h2, h3⟩ := h
  have e1 : decide (0 ≤ me ∧ me < 16) = true := decide_eq_true h1
  have e2 : decide (0 ≤ peer ∧ peer < 16) = true := decide_eq_true h2
  have h3b : (me == peer) = false := by simpa using h3
  have hq : (decide (win < 1) || decide (16 < win) || decide (res < 1) || decide (1000 < res)) = true := by
    unfold argOk at h'
    simp
    omega
  clear h1 h2 h3 h'
  go_enter Try.func16, Try.ntmps16
  go_wp2_with fail
  refine Calls.mono (HR1.out _) ?_
  rintro e w1 ⟨rfl, hw1⟩
  replace hw1 := hw1.symm
  subst hw1
  rw [e1]
  go_wp2_with fail
  refine Calls.mono (HR2.out _) ?_
  rintro e w1 ⟨rfl, hw1⟩
  replace hw1 := hw1.symm
  subst hw1
  rw [e2]
  clear HR1 HR2 e1 e2
  go_wp2_with fail
  all_goals
    go_ret2
    exact ⟨rfl, rfl⟩
set_option maxRecDepth 100000 in
set_option maxHeartbeats 3200000 in
theorem rnew_any (me peer win res : Int) (w : World) :
    Calls Try.prog 27 #[.int .i64 me, .int .i64 peer, .int .i64 win, .int .i64 res] w fun e w' => (if repOk me peer then (if argOk win res then ∃ rb, e = .returned (.tuple #[.pointer (some ⟨rb, 0, none⟩), .int .i64 0]) else e = .returned (.tuple #[.pointer none, .int .i64 1])) else e = .returned (.tuple #[.pointer none, .int .i64 3])) ∧ Below w.heap.size w w' := by
  by_cases h1 : repOk me peer
  · by_cases h2 : argOk win res
    · simp only [if_pos h1, if_pos h2]
      obtain ⟨⟨a1, a2⟩, ⟨a3, a4⟩, a5⟩ := h1
      obtain ⟨⟨b1, b2⟩, b3, b4⟩ := h2
      have a5b : (me == peer) = false := by simpa using a5
      go_enter Try.func27, Try.ntmps27
      go_wp2_with fail
      go_ret2
      exact ⟨⟨_, rfl⟩, (Below.refl _ _).alloc (Nat.le_refl _) _⟩
    · simp only [if_pos h1, if_neg h2]
      obtain ⟨⟨a1, a2⟩, ⟨a3, a4⟩, a5⟩ := h1
      have a5b : (me == peer) = false := by simpa using a5
      have hq : (decide (win < 1) || decide (16 < win) || decide (res < 1) || decide (1000 < res)) = true := by
        unfold argOk at h2
        simp
        omega
      clear h2
      go_enter Try.func27, Try.ntmps27
      go_wp2_with fail
      all_goals
        go_ret2
        exact ⟨rfl, Below.refl _ _⟩
  · simp only [if_neg h1]
    have hq : (decide (me < 0) || decide (16 ≤ me) || decide (peer < 0) || decide (16 ≤ peer) || (me == peer)) = true := by
      unfold repOk at h1
      simp
      omega
    clear h1
    go_enter Try.func27, Try.ntmps27
    go_wp2_with fail
    all_goals
      go_ret2
      exact ⟨rfl, Below.refl _ _⟩
end Go.Proofs.Ytcjgicfmfjomgaa
