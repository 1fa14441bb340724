import Derived.Test.YtgohjkamikpdcaaLent
import Derived.Test.YtgohjkamikpdcaaFair
namespace Go.Proofs.Ytgohjkamikpdcaa
open Go.RowKit Go.PlainAid
set_option linter.unusedVariables false
set_option linter.unusedSimpArgs false
set_option maxRecDepth 100000 in
set_option maxHeartbeats 1600000 in
theorem rright_any {ao : Option Addr} {n c : Nat} {zs : List Int} (w : World) (hl : zs.length = n) (hx : FromI w ao zs) (hn : n ≤ maxLen) :
    Calls Try.prog 39 #[.slice ao n c] w fun r w' => r = .returned (.bool (rightW zs)) ∧ w' = w := by
  have HX : Hid (FromI w ao zs) := hx
  clear hx
  unfold maxLen at hn
  by_cases h1 : n < 1
  · have e : rightW zs = false := by simp [rightW]; omega
    rw [e]
    obtain rfl : n = 0 := by omega
    go_enter Try.func39, Try.ntmps39
    go_wp2
    go_ret
    exact ⟨rfl, rfl⟩
  · by_cases h2 : 16 < n
    · have e : rightW zs = false := by simp [rightW]; omega
      rw [e]
      have h3 : ¬ (n : Int) < 1 := by omega
      have h4 : (16 : Int) < n := by omega
      go_enter Try.func39, Try.ntmps39
      go_wp2
      go_ret
      exact ⟨rfl, rfl⟩
    · have e : rightW zs = zs.all okW := by
        have a : decide (1 ≤ zs.length) = true := by simp; omega
        have b : decide (zs.length ≤ 16) = true := by simp; omega
        simp only [rightW, a, b, Bool.true_and]
      rw [e]
      have h3 : ¬ (n : Int) < 1 := by omega
      have h4 : ¬ (16 : Int) < n := by omega
      clear e
      go_enter Try.func39, Try.ntmps39
      go_wp2
      go_loopw [3] (fun i wr => ∃ k : Nat, k ≤ n ∧ i = .int .i64 k ∧ wr = w ∧ Hid (∀ j, j < k → okW (at0 zs j) = true)) (fun i _ => n - (intOf i).toNat)
      case atStart => exact ⟨0, Nat.zero_le _, rfl, rfl, fun j h => by omega⟩
      case round =>
        obtain ⟨k, hk, rfl, rfl, HE⟩ := hrel
        by_cases hlt : k < n
        · obtain ⟨b1, o1, rfl, e1⟩ := FromI.at (k := k) HX.out (by omega)
          have hE2 : okW (at0 zs k) = true → ∀ j, j < k + 1 → okW (at0 zs j) = true := fun h j hj => by
            by_cases e : j = k
            · rw [e, h]
            · exact HE.out j (by omega)
          have hE3 : okW (at0 zs k) = false → zs.all okW = false := fun h => by
            rw [List.all_eq_false]
            exact ⟨at0 zs k, List.mem_of_getElem? (at0_some (by omega)), by simp [h]⟩
          generalize at0 zs k = z at e1 hE2 hE3
          by_cases hz0 : z < 0
          · have HE3 : Hid _ := hE3 (by simp [okW]; omega)
            clear hE2 hE3
            go_wp2
            go_ret
            exact ⟨by rw [HE3.out]; rfl, rfl⟩
          · by_cases hz1 : 1048576 < z
            · have HE3 : Hid _ := hE3 (by simp [okW]; omega)
              clear hE2 hE3
              go_wp2
              go_ret
              exact ⟨by rw [HE3.out]; rfl, rfl⟩
            · have HE3 : Hid _ := hE2 (by simp [okW]; omega)
              clear hE2 hE3
              go_wp2
              go_roundw
              case rel => exact ⟨k + 1, by omega, by go_num, by trivial, HE3.out⟩
              case measure => simp [intOf]; omega
        · have hall : zs.all okW = true := by
            rw [List.all_eq_true]
            intro x hx
            obtain ⟨j, hj, rfl⟩ := List.getElem_of_mem hx
            have := HE.out j (by omega)
            rwa [at0_lt hj] at this
          have HA : Hid _ := hall
          clear hall
          go_wp2
          go_ret
          exact ⟨by rw [HA.out]; rfl, rfl⟩
end Go.Proofs.Ytgohjkamikpdcaa
