import Derived.Test.YtmnihombiabkgaaSrt
namespace Go.Proofs.Ytmnihombiabkgaa
open Go.RowKit Go.PlainAid Go.MapKept Go.Sort
set_option linter.unusedVariables false
set_option linter.unusedSimpArgs false
theorem sort_none (p : Option Addr) (cap : Nat) (f : Value) (w : World) : Calls Try.prog 25 #[.slice p 0 cap, f] w fun e w' => e = .returned (.tuple #[]) ∧ w' = w := AnyF.slices_SortFunc_none sortC p cap _ w
set_option maxRecDepth 100000 in
theorem grow_0 (w : World) : Calls Try.prog 34 #[.slice none 0 0, .int .i64 0] w fun e w' => e = .returned (.slice none 0 0) ∧ w' = w := by
  go_enter Try.func34, Try.ntmps34
  go_wp2_with fail
  go_ret
  exact ⟨rfl, rfl⟩
set_option maxRecDepth 100000 in
set_option maxHeartbeats 1600000 in
theorem concat_nil {base whb n : Nat} {vs : List Value} (w : World) (hn : n ≤ 64) (hc : ∀ i, i < n → ∃ v, w.cell? ⟨whb, i, none⟩ = some v ∧ w.ownsRow base 50 4 v 0 []) :
    Calls Try.prog 24 #[.slice (some ⟨whb, 0, none⟩) n 64] w fun e w' => ∃ ao cap, e = .returned (.slice ao 0 cap) ∧ Below w.heap.size w w' := by
  have HC : Hid (∀ i, i < n → ∃ v, w.cell? ⟨whb, i, none⟩ = some v ∧ w.ownsRow base 50 4 v 0 []) := hc
  clear hc
  go_enter Try.func24, Try.ntmps24
  go_wp2_with fail
  go_loopw [11, 3, 5] (fun s11 s3 _ wr => ∃ k : Nat, k ≤ n ∧ s11 = .int .i64 k ∧ s3 = .int .i64 0 ∧ wr = w) (fun s11 _ _ _ => n - (intOf s11).toNat)
  case atStart => exact ⟨0, by omega, rfl, rfl, rfl⟩
  case round =>
    obtain ⟨k, hk, rfl, rfl, hwr⟩ := hrel
    subst hwr
    by_cases hlt : k < n
    · obtain ⟨v, hv, hr⟩ := HC.out k hlt
      obtain ⟨ao, cap, rfl, _⟩ := own_slice hr
      clear hr
      go_wp2_with fail
      go_roundw
      case rel => exact ⟨k + 1, by omega, by go_num, rfl, by first | rfl | trivial⟩
      case measure => simp [intOf]; omega
    · go_wp2_with fail
      refine Calls.mono (grow_0 _) ?_
      rintro e w1 ⟨rfl, hw1⟩
      subst hw1
      go_wp2_with fail
      go_loopw [27, 6, 8] (fun s27 s6 _ wr => ∃ vd, vd = s6 ∧ ∃ k : Nat, k ≤ n ∧ s27 = .int .i64 k ∧ wr.ownsRow w1.heap.size 50 4 vd 0 (flatT []) ∧ Below w1.heap.size w1 wr) (fun s27 _ _ _ => n - (intOf s27).toNat)
      case atStart => exact ⟨_, rfl, 0, by omega, rfl, World.ownsRow_nil _ _ _ _, Below.refl _ _⟩
      case round =>
        obtain ⟨vd, rfl, j, hj, rfl, hrow, hbe⟩ := hrel
        by_cases hlt2 : j < n
        · obtain ⟨v, hv, hr⟩ := HC.out j hlt2
          have hv' : wr.cell? ⟨whb, j, none⟩ = some v := (hbe.cell (p := ⟨whb, j, none⟩) (World.block_lt_of_cell? w1 _ hv)).trans hv
          obtain ⟨ao, cap, hvv, hcc⟩ := own_slice hr
          subst hvv
          obtain ⟨v5, w5, hr5, ho5, hg5⟩ := app_rows 33 50 (.agg #[.int .i64 0, .int .i64 0, .int .i64 0, .int .i64 0]) 4 32 Try.underlying33 info50 rfl (by decide) (by decide) hrow (ao := ao) (m := 0) (cap := cap) (ys := []) rfl (fun e => by
            subst e
            rcases hr.2 with ⟨h1, _⟩ | ⟨g2, c, cur, h1, _⟩
            · cases h1; exact ⟨rfl, rfl⟩
            · cases h1) (fun ad _ j u hu => by simp at hu) (fun u hu => by cases hu) (by decide) hbe.size
          have HHR : Hid (∀ ty, (Builtin.append_ #[33, 33] ty #[vd, .slice ao 0 cap]).run Try.prog wr = .ok v5 w5) := hr5
          have HR5 : Hid (w5.ownsRow w1.heap.size 50 4 v5 0 (flatT [])) := show World.ownsRow _ _ _ _ _ _ _ from by simpa using ho5
          have HB5 : Hid (Below w1.heap.size w1 w5) := hbe.trans (hg5.below (fun q hq => (ownsRow_lt hrow hq).1) hbe.size)
          clear hrow hbe hr hv hr5 ho5 hg5 hcc
          go_wp2_with (at_builtin; refine wpList_runs rfl _ _ 33 rfl rfl rfl HHR.out ?_)
          go_roundw
          case rel => exact ⟨_, rfl, j + 1, by omega, by go_num, HR5.out, HB5.out⟩
          case measure => simp [intOf]; omega
        · obtain ⟨ao, cap, hvv, _⟩ := own_slice hrow
          subst hvv
          have HBE : Hid (Below w1.heap.size w1 wr) := hbe
          clear hrow hbe
          go_wp2_with fail
          go_ret
          exact ⟨_, _, rfl, HBE.out⟩
end Go.Proofs.Ytmnihombiabkgaa
