import Derived.Test.YtgohjkamikpdcaaBase
import Derived.Test.YtgohjkamikpdcaaTh0
namespace Go.Proofs.Ytgohjkamikpdcaa
open Go.RowKit Go.PlainAid
set_option linter.unusedVariables false
set_option linter.unusedSimpArgs false
theorem at0_some {zs : List Int} {k : Nat} (h : k < zs.length) : zs[k]? = some (at0 zs k) := by rw [at0_lt h]; exact List.getElem?_eq_getElem h
theorem FromI.at {w : World} {ao : Option Addr} {zs : List Int} (h : FromI w ao zs) {k : Nat} (hk : k < zs.length) : ∃ b off, ao = some ⟨b, off, none⟩ ∧ w.cell? ⟨b, off + k, none⟩ = some (.int .i64 (at0 zs k)) := by
  obtain ⟨b, off, e, hc⟩ := h (by omega)
  exact ⟨b, off, e, hc k _ (at0_some hk)⟩
set_option maxRecDepth 100000 in
set_option maxHeartbeats 800000 in
/-- Are two lists the same? -/
theorem same_any {ao1 ao2 : Option Addr} {n1 n2 c1 c2 : Nat} {xs ys : List Int} (w : World) (h1 : xs.length = n1) (h2 : ys.length = n2) (hx : FromI w ao1 xs) (hy : FromI w ao2 ys) (hn : n1 ≤ maxLen) (hn2 : n2 ≤ maxLen) :
    Calls Try.prog 17 #[.slice ao1 n1 c1, .slice ao2 n2 c2] w fun r w' => r = .returned (.bool (decide (xs = ys))) ∧ ∃ q, w' = w.drewN q := by
  unfold maxLen at hn hn2
  by_cases hl : n1 = n2
  · subst hl
    have HX : Hid (FromI w ao1 xs) := hx
    have HY : Hid (FromI w ao2 ys) := hy
    clear hx hy
    go_enter Try.func17, Try.ntmps17
    go_wp2
    go_loopw [5] (fun i wr => ∃ k q : Nat, k ≤ n1 ∧ i = .int .i64 k ∧ wr = w.drewN q ∧ Hid (∀ j, j < k → at0 xs j = at0 ys j)) (fun i _ => n1 - (intOf i).toNat)
    case atStart => exact ⟨0, 0, Nat.zero_le _, rfl, rfl, fun j h => by omega⟩
    case round =>
      obtain ⟨k, q, hk, rfl, rfl, HE⟩ := hrel
      by_cases hlt : k < n1
      · obtain ⟨b1, o1, rfl, e1⟩ := FromI.at (k := k) HX.out (by omega)
        obtain ⟨b2, o2, rfl, e2⟩ := FromI.at (k := k) HY.out (by omega)
        have f1 : (w.drewN q).cell? ⟨b1, o1 + k, none⟩ = some (.int .i64 (at0 xs k)) := e1
        have f2 : (w.drewN q).cell? ⟨b2, o2 + k, none⟩ = some (.int .i64 (at0 ys k)) := e2
        have hstop : at0 xs k ≠ at0 ys k → decide (xs = ys) = false := fun h => by
          apply decide_eq_false
          intro e
          exact h (by rw [e])
        have hE2 : at0 xs k = at0 ys k → ∀ j, j < k + 1 → at0 xs j = at0 ys j := fun h j hj => by
          by_cases e : j = k
          · rw [e, h]
          · exact HE.out j (by omega)
        generalize at0 xs k = zx at e1 e2 f1 f2 hstop hE2
        generalize at0 ys k = zy at e1 e2 f1 f2 hstop hE2
        have HE2 : Hid (zx = zy → ∀ j, j < k + 1 → at0 xs j = at0 ys j) := hE2
        clear hE2
        have HS : Hid _ := hstop
        clear hstop
        by_cases hz : zx = zy
        · have HE3 : Hid (∀ j, j < k + 1 → at0 xs j = at0 ys j) := HE2.out hz
          clear HE2 HS
          subst hz
          go_wp2
          go_quiet (fail)
          go_wp2
          go_roundw
          case rel => exact ⟨k + 1, _, by omega, by go_num, rfl, HE3.out⟩
          case measure => simp [intOf]; omega
        · clear HE2
          have hzb : (zx != zy) = true := by simp [hz]
          go_wp2
          go_quiet (fail)
          go_wp2
          go_ret
          exact ⟨by rw [HS.out hz]; rfl, _, World.drewN_drewN _ _ _⟩
      · go_wp2
        go_ret
        have e : xs = ys := ext_at0 (by omega) fun i hi => HE.out i (by omega)
        refine ⟨?_, _, rfl⟩
        rw [decide_eq_true e]
        rfl
  · have hne : decide (xs = ys) = false := decide_eq_false fun e => hl (by rw [← h1, ← h2, e])
    have hli : (n1 : Int) ≠ n2 := by omega
    rw [hne]
    clear hx hy
    go_enter Try.func17, Try.ntmps17
    go_wp2
    go_ret
    exact ⟨rfl, 0, rfl⟩
set_option maxRecDepth 100000 in
theorem isNaN_any (x : Int) (w : World) : Calls Try.prog 46 #[.int .i64 x] w fun r w' => r = .returned (.bool false) ∧ w' = w := by
  go_enter Try.func46, Try.ntmps46
  go_wp2
  go_ret
  exact ⟨by simp, rfl⟩
def cmpI (x y : Int) : Int := if x < y then -1 else if x > y then 1 else 0
set_option maxRecDepth 100000 in
theorem compare_any (x y : Int) (w : World) : Calls Try.prog 37 #[.int .i64 x, .int .i64 y] w fun r w' => r = .returned (.int .i64 (cmpI x y)) ∧ w' = w := by
  by_cases h1 : x < y
  · have e : cmpI x y = -1 := by simp [cmpI, h1]
    rw [e]
    go_enter Try.func37, Try.ntmps37
    go_wp2_with (go_at_call 46; refine (isNaN_any _ _).mono ?_; rintro e w' ⟨rfl, rfl⟩)
    go_ret
    exact ⟨rfl, rfl⟩
  · by_cases h2 : y < x
    · have e : cmpI x y = 1 := by simp [cmpI, h1, h2]
      rw [e]
      go_enter Try.func37, Try.ntmps37
      go_wp2_with (go_at_call 46; refine (isNaN_any _ _).mono ?_; rintro e w' ⟨rfl, rfl⟩)
      go_ret
      exact ⟨rfl, rfl⟩
    · have e : cmpI x y = 0 := by simp [cmpI, h1, h2]
      rw [e]
      go_enter Try.func37, Try.ntmps37
      go_wp2_with (go_at_call 46; refine (isNaN_any _ _).mono ?_; rintro e w' ⟨rfl, rfl⟩)
      go_ret
      exact ⟨rfl, rfl⟩
def orI (x y : Int) : Int := if x ≠ 0 then x else y
set_option maxRecDepth 100000 in
set_option maxHeartbeats 800000 in
theorem or_any (x y : Int) (g c : Nat) (w : World) (e1 : w.cell? ⟨g, 0, none⟩ = some (.int .i64 x)) (e2 : w.cell? ⟨g, 1, none⟩ = some (.int .i64 y)) :
    Calls Try.prog 36 #[.slice (some ⟨g, 0, none⟩) 2 c] w fun r w' => r = .returned (.int .i64 (orI x y)) ∧ w' = w := by
  by_cases h1 : x = 0
  · subst h1
    by_cases h2 : y = 0
    · subst h2
      go_enter Try.func36, Try.ntmps36
      go_wp2
      refine wp_loop_rounds 3 ?_
      rw [rounds_succ]
      go_wp2
      rw [rounds_succ]
      go_wp2
      rw [rounds_succ]
      go_wp2
      go_ret
      exact ⟨rfl, rfl⟩
    · have e : orI 0 y = y := by simp [orI]
      rw [e]
      go_enter Try.func36, Try.ntmps36
      go_wp2
      refine wp_loop_rounds 2 ?_
      rw [rounds_succ]
      go_wp2
      rw [rounds_succ]
      go_wp2
      go_ret
      exact ⟨rfl, rfl⟩
  · have e : orI x y = x := by simp [orI, h1]
    rw [e]
    go_enter Try.func36, Try.ntmps36
    go_wp2
    refine wp_loop_rounds 1 ?_
    rw [rounds_succ]
    go_wp2
    go_ret
    exact ⟨rfl, rfl⟩
def okW (z : Int) : Bool := decide (0 ≤ z) && decide (z ≤ 1048576)
set_option maxRecDepth 100000 in
theorem ok30_any (x : Int) (w : World) : Calls Try.prog 32 #[.int .i64 x] w fun r w' => r = .returned (.bool (!okW x)) ∧ w' = w := by
  by_cases h1 : x < 0
  · have e : okW x = false := by simp [okW]; omega
    rw [e]
    go_enter Try.func32, Try.ntmps32
    go_wp2
    go_ret
    exact ⟨rfl, rfl⟩
  · by_cases h2 : 1048576 < x
    · have e : okW x = false := by simp [okW]; omega
      rw [e]
      go_enter Try.func32, Try.ntmps32
      go_wp2
      go_ret
      exact ⟨rfl, rfl⟩
    · have e : okW x = true := by simp [okW]; omega
      rw [e]
      go_enter Try.func32, Try.ntmps32
      go_wp2
      go_ret
      exact ⟨rfl, rfl⟩
end Go.Proofs.Ytgohjkamikpdcaa
