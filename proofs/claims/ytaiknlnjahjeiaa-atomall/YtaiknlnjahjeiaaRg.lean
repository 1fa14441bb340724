import Derived.Test.YtaiknlnjahjeiaaPl
import Derived.Test.YtaiknlnjahjeiaaJoinC
import Derived.Deep.Cut
namespace Go.Proofs.Ytaiknlnjahjeiaa
open Go.RowKit Go.PlainAid
set_option linter.unusedVariables false
set_option linter.unusedSimpArgs false
set_option maxRecDepth 100000 in
set_option maxHeartbeats 1600000 in
theorem rgood_any (n : List UInt8) (W : World) (hlim : n.length ≤ 140737488355328) : Calls Try.prog 72 #[.string ⟨n.toArray⟩] W fun e w' => e = .returned (.bool (nameB n)) ∧ w' = W := by
  have hsz : (⟨n.toArray⟩ : ByteArray).size = n.length := rfl
  by_cases h1 : n.length < 1
  · have hr : nameB n = false := by simp [nameB]; omega
    go_enter Try.func72, Try.ntmps72
    go_wp2_with fail
    go_ret
    exact ⟨by first | rfl | (rw [hr]; rfl) | simp [hr], rfl⟩
  by_cases h2 : 16 < n.length
  · have hr : nameB n = false := by simp [nameB]; omega
    go_enter Try.func72, Try.ntmps72
    go_wp2_with fail
    go_ret
    exact ⟨by first | rfl | (rw [hr]; rfl) | simp [hr], rfl⟩
  go_enter Try.func72, Try.ntmps72
  go_wp2_with fail
  go_loopw [3] (fun i wr => ∃ q : Nat, q ≤ n.length ∧ i = .int .i64 q ∧ (∀ x ∈ n.take q, okB x = true) ∧ wr = W) (fun i _ => n.length - (intOf i).toNat)
  case atStart => exact ⟨0, Nat.zero_le _, rfl, by simp, rfl⟩
  case round =>
    obtain ⟨q, hq, rfl, hpre, rfl⟩ := hrel
    by_cases hlt : q < n.length
    · obtain ⟨b, hbb⟩ : ∃ b, b = (⟨n.toArray⟩ : ByteArray)[q]'hlt := ⟨_, rfl⟩
      have hb : n[q]? = some b := by rw [hbb]; exact List.getElem?_eq_getElem hlt
      have HP : Hid _ := hpre
      have HB : Hid _ := hb
      clear hpre hb
      by_cases c1 : b.toNat < 33
      · have hr : nameB n = false := by
          have hall : n.all okB = false := by
            apply Bool.eq_false_iff.2
            intro h
            have := List.all_eq_true.1 h b (List.mem_of_getElem? HB.out)
            simp [okB] at this
            omega
          simp [nameB, hall]
        rw [hbb] at c1
        clear hbb
        go_wp2_with fail
        go_ret
        exact ⟨by first | rfl | (rw [hr]; rfl) | simp [hr], rfl⟩
      by_cases c2 : 126 < b.toNat
      · have hr : nameB n = false := by
          have hall : n.all okB = false := by
            apply Bool.eq_false_iff.2
            intro h
            have := List.all_eq_true.1 h b (List.mem_of_getElem? HB.out)
            simp [okB] at this
            omega
          simp [nameB, hall]
        rw [hbb] at c1 c2
        clear hbb
        go_wp2_with fail
        go_ret
        exact ⟨by first | rfl | (rw [hr]; rfl) | simp [hr], rfl⟩
      · have hok : okB b = true := by simp [okB]; omega
        have HOK : Hid _ := hok
        rw [hbb] at c1 c2
        clear hok
        go_wp2_with fail
        go_roundw
        case rel => exact ⟨q + 1, by omega, by go_num, by
          intro x hx
          rw [List.take_add_one, HB.out] at hx
          rcases List.mem_append.1 hx with h | h
          · exact HP.out x h
          · simp at h; subst h; exact HOK.out, by first | rfl | trivial⟩
        case measure => simp [intOf]; omega
    · have hr : nameB n = true := by
        have : n.take q = n := List.take_of_length_le (by omega)
        rw [this] at hpre
        simp [nameB]
        exact ⟨by omega, hpre⟩
      clear hpre
      go_wp2_with fail
      go_ret
      exact ⟨by first | rfl | (rw [hr]; rfl) | simp [hr], rfl⟩
set_option maxRecDepth 100000 in
set_option maxHeartbeats 1600000 in
theorem from_any (lo n : Int) (W : World) : Calls Try.prog 73 #[.int .i64 lo, .int .i64 n] W fun e w' => e = .returned (.bool (decide (lo ≤ n) && decide (n ≤ 1099511627776))) ∧ w' = W := by
  by_cases h1 : lo ≤ n
  · have e1 : decide (lo ≤ n) = true := by simpa using h1
    rw [e1]
    by_cases h2 : n ≤ 1099511627776
    · have e2 : decide (n ≤ 1099511627776) = true := by simpa using h2
      rw [e2]
      go_enter Try.func73, Try.ntmps73
      go_wp2_with fail
      go_ret
      exact ⟨rfl, rfl⟩
    · have e2 : decide (n ≤ 1099511627776) = false := by simpa using h2
      rw [e2]
      go_enter Try.func73, Try.ntmps73
      go_wp2_with fail
      go_ret
      exact ⟨rfl, rfl⟩
  · have e1 : decide (lo ≤ n) = false := by simpa using h1
    rw [e1]
    go_enter Try.func73, Try.ntmps73
    go_wp2_with fail
    go_ret
    exact ⟨rfl, rfl⟩
theorem from1_any (n : Int) (W : World) : Calls Try.prog 73 #[.int .i64 1, .int .i64 n] W fun e w' => e = .returned (.bool (amtB n)) ∧ w' = W := by
  have e : amtB n = (decide (1 ≤ n) && decide (n ≤ 1099511627776)) := by unfold amtB; first | rfl | simp
  rw [e]
  exact from_any 1 n W
theorem from0_any (n : Int) (W : World) : Calls Try.prog 73 #[.int .i64 0, .int .i64 n] W fun e w' => e = .returned (.bool (valB n)) ∧ w' = W := by
  have e : valB n = (decide (0 ≤ n) && decide (n ≤ 1099511627776)) := by unfold valB; first | rfl | simp
  rw [e]
  exact from_any 0 n W
end Go.Proofs.Ytaiknlnjahjeiaa
