import Derived.Test.YtnphkmdanicemaaGreatDoorJM
namespace Go.Proofs.YtnphkmdanicemaaGreatDoor
open Go.RowKit Go.PlainAid
set_option linter.unusedVariables false
set_option linter.unusedSimpArgs false
def giveI (have_ want : Int) : Int := if have_ ≤ 0 ∨ want ≤ 0 then 0 else min want (have_ / 2 + have_ % 2)
set_option maxRecDepth 100000 in
theorem give_any (h x : Int) (hw : IntKind.i64.wrap h = h) (w : World) : Calls Tryz.prog 46 #[.int .i64 h, .int .i64 x] w fun r w' => r = .returned (.int .i64 (giveI h x)) ∧ w' = w := by
  rw [IntKind.wrap_i64] at hw
  by_cases h1 : h ≤ 0
  · rw [show giveI h x = 0 by simp [giveI, h1]]
    go_enter Tryz.func46, Tryz.ntmps46
    go_wp2
    go_ret
    exact ⟨rfl, rfl⟩
  · by_cases h2 : x ≤ 0
    · rw [show giveI h x = 0 by simp [giveI, h2]]
      go_enter Tryz.func46, Tryz.ntmps46
      go_wp2
      go_ret
      exact ⟨rfl, rfl⟩
    · have e : giveI h x = min x (h / 2 + h % 2) := by simp [giveI, h1, h2]
      rw [e]
      have hq : h.tdiv 2 = h / 2 := Int.tdiv_eq_ediv_of_nonneg (by omega)
      have hr : h.tmod 2 = h % 2 := Int.tmod_eq_emod_of_nonneg (by omega)
      have hs : h / 2 + h % 2 = (h + 1) / 2 := by omega
      have hwq : IntKind.i64.wrap (h / 2 + h % 2) = h / 2 + h % 2 := by rw [IntKind.wrap_i64]; omega
      have hb : 0 ≤ h / 2 ∧ h / 2 ≤ 4611686018427387903 ∧ 0 ≤ h % 2 ∧ h % 2 ≤ 1 := by omega
      generalize h / 2 = q at *
      generalize h % 2 = r at *
      clear e hs hw
      go_enter Tryz.func46, Tryz.ntmps46
      go_wp2
      all_goals go_ret
      all_goals refine ⟨?_, rfl⟩
      all_goals first | rfl | (show Ending.returned (Value.int .i64 _) = Ending.returned (Value.int .i64 _); congr 2; omega)
set_option maxRecDepth 100000 in
set_option maxHeartbeats 1600000 in
theorem rgive_any (h x : Int) (hw : IntKind.i64.wrap h = h) (w : World) : Calls Tryz.prog 58 #[.int .i64 h, .int .i64 x] w fun r w' => r = .returned (.int .i64 (giveI h x)) ∧ w' = w := by
  rw [IntKind.wrap_i64] at hw
  by_cases h1 : h ≤ 0
  · rw [show giveI h x = 0 by simp [giveI, h1]]
    go_enter Tryz.func58, Tryz.ntmps58
    go_wp2
    go_ret
    exact ⟨rfl, rfl⟩
  · by_cases h2 : x ≤ 0
    · rw [show giveI h x = 0 by simp [giveI, h2]]
      go_enter Tryz.func58, Tryz.ntmps58
      go_wp2
      go_ret
      exact ⟨rfl, rfl⟩
    · have e : giveI h x = min x (h / 2 + h % 2) := by simp [giveI, h1, h2]
      rw [e]
      have hq : h.tdiv 2 = h / 2 := Int.tdiv_eq_ediv_of_nonneg (by omega)
      have hr : h.tmod 2 = h % 2 := Int.tmod_eq_emod_of_nonneg (by omega)
      have hwq : IntKind.i64.wrap (h / 2 + h % 2) = h / 2 + h % 2 := by rw [IntKind.wrap_i64]; omega
      have hb : 0 ≤ h / 2 ∧ h / 2 ≤ 4611686018427387903 ∧ 0 ≤ h % 2 ∧ h % 2 ≤ 1 := by omega
      generalize h / 2 = q at *
      generalize h % 2 = r at *
      clear e hw
      by_cases h3 : x < q + r
      · rw [show min x (q + r) = x by omega]
        go_enter Tryz.func58, Tryz.ntmps58
        go_wp2
        go_ret
        exact ⟨rfl, rfl⟩
      · rw [show min x (q + r) = q + r by omega]
        go_enter Tryz.func58, Tryz.ntmps58
        go_wp2
        go_ret
        exact ⟨rfl, rfl⟩
end Go.Proofs.YtnphkmdanicemaaGreatDoor
