import Derived.Test.YtjojhhkbebddmaaE3
namespace Go.Proofs.Ytjojhhkbebddmaa
open Go.RowKit Go.PlainAid
set_option linter.unusedVariables false
set_option linter.unusedSimpArgs false
def lastR (f : Nat → Int) : Nat → Int
  | 0 => 0
  | k + 1 => max (lastR f k) (f k)
def sumH (f : Nat → Int) : Nat → Int
  | 0 => 0
  | k + 1 => sumH f k + f k
def allB (x : EV) : Bool := decide (∀ k, k < x.n → k ≠ x.me → x.rep k = true)
def arr16 (f : Nat → Int) : List Value := [.int .i64 (f 0), .int .i64 (f 1), .int .i64 (f 2), .int .i64 (f 3), .int .i64 (f 4), .int .i64 (f 5), .int .i64 (f 6), .int .i64 (f 7), .int .i64 (f 8), .int .i64 (f 9), .int .i64 (f 10), .int .i64 (f 11), .int .i64 (f 12), .int .i64 (f 13), .int .i64 (f 14), .int .i64 (f 15)]
theorem arr16_at (f : Nat → Int) {r : Nat} (h : r < 16) : (arr16 f)[r]? = some (.int .i64 (f r)) := by
  match r, h with
  | 0, _ | 1, _ | 2, _ | 3, _ | 4, _ | 5, _ | 6, _ | 7, _ | 8, _ | 9, _ | 10, _ | 11, _ | 12, _ | 13, _ | 14, _ | 15, _ => rfl
  | n + 16, h => exact absurd h (by omega)
theorem isz81 : (Try.prog.info? 81).map (·.size) = some 16 := by kernel_rfl
theorem MM.rk {L mb cb : Nat} {x : EV} {A : List Ac} {w : World} (h : MM L mb cb x A w) : w.rangeAt mb 2 (arr16 x.kn) := fun j v hv => by
  have hj : j < 16 := (List.getElem?_eq_some_iff.1 hv).1
  rw [arr16_at _ hj] at hv
  rw [← hv]
  exact h.ckn hj
theorem MM.rh {L mb cb : Nat} {x : EV} {A : List Ac} {w : World} (h : MM L mb cb x A w) : w.rangeAt mb 51 (arr16 x.hd) := fun j v hv => by
  have hj : j < 16 := (List.getElem?_eq_some_iff.1 hv).1
  rw [arr16_at _ hj] at hv
  rw [← hv]
  exact h.chd hj
theorem ix81 {D : Array Value} {k : Nat} {v : Int} (h : D[k]? = some (.int .i64 v)) (hk : k < 16) (W : World) : (Instr.index 81 (.agg D) (.int .i64 (k : Int))).run Try.prog W = .ok (.int .i64 v) W := by
  have hlt : (0 : Int) ≤ (k : Int) ∧ (k : Int) < 16 := by omega
  simp [Instr.index, run_underlying Try.underlying81, asIntOf, hlt, go_sem, part, h]
  intro h16
  omega
set_option maxRecDepth 100000 in
set_option maxHeartbeats 3200000 in
theorem lastRound_any {L mb cb : Nat} {x : EV} {A : List Ac} (w : World) (h : MM L mb cb x A w) : Calls Try.prog 29 #[.pointer (some ⟨mb, 0, none⟩)] w fun e w' => e = .returned (.int .i64 (lastR x.kn 16)) ∧ w' = w := by
  have hr := h.rk
  have hc : ∀ k, k < 16 → (arr16 x.kn)[k]? = some (.int .i64 (x.kn k)) := fun k hk => arr16_at _ hk
  clear h
  go_enter Try.func29, Try.ntmps29
  go_upto_region 2 with fail
  refine wp_region_lit ?_
  refine st_yes (v := .pointer (some ⟨mb, 0, none⟩)) (wanted_none rfl) (by simp [go_sem, execOp, Act.eval]) ?_
  refine st_yes (v := .pointer (some ⟨mb, 0, none⟩)) (wanted_none rfl) (by simp [go_sem, execOp, Act.eval, Act.put]) ?_
  refine st_yes (v := .pointer (some ⟨mb, 2, none⟩)) (wanted_none rfl) (by simp [go_sem, execOp, Act.eval, Act.put]) ?_
  refine wpList_load_mid rfl 81 (.tmp 8) rfl mb 2 (by simp [Act.eval, Act.put]) (arr16 x.kn) _ hr Try.underlying81 rfl isz81 ?_
  generalize hD : (arr16 x.kn).toArray = D
  have hd : ∀ k, k < 16 → D[k]? = some (.int .i64 (x.kn k)) := fun k hk => by rw [← hD, List.getElem?_toArray]; exact hc k hk
  clear hD hc hr
  refine st_yes (v := .int .i64 0) (wanted_none rfl) (by simp [go_sem, execOp, Act.eval, Act.put]) ?_
  refine wpList_nil ?_
  simp only [Act.put, List.setIfInBounds_toArray, List.set_cons_succ, List.set_cons_zero]
  go_wp2
  go_loop [3, 10] (fun s i => ∃ k : Nat, k ≤ 16 ∧ i = .int .i64 (k : Int) ∧ s = .int .i64 (lastR x.kn k)) (fun _ i => 16 - (intOf i).toNat)
  case atStart => exact ⟨0, by omega, rfl, rfl⟩
  case round =>
    obtain ⟨k, hk, rfl, rfl⟩ := hrel
    by_cases hlt : k < 16
    · have hix := ix81 (hd k hlt) hlt
      have HL : Hid (lastR x.kn (k + 1) = max (lastR x.kn k) (x.kn k)) := rfl
      generalize lastR x.kn k = m at *
      generalize x.kn k = v at *
      have HL2 : Hid (lastR x.kn (k + 1) = max m v) := HL.out
      go_wp2
      all_goals
        go_round
        case rel =>
          refine ⟨k + 1, by omega, by go_num, ?_⟩
          rw [HL2.out]
          first
            | rfl
            | exact congrArg (Value.int .i64) (show (if m < v then v else m) = max m v from by split <;> omega)
        case measure => simp [intOf]; omega
    · obtain rfl : k = 16 := by omega
      go_wp2
      go_ret
      exact ⟨rfl, rfl⟩
theorem sumH_bd {f : Nat → Int} (h : ∀ j, 0 ≤ f j ∧ f j ≤ 1099511627776) (k : Nat) : 0 ≤ sumH f k ∧ sumH f k ≤ k * 1099511627776 := by
  induction k with
  | zero => simp [sumH]
  | succ k ih =>
    have := h k
    simp only [sumH]
    omega
set_option maxRecDepth 100000 in
set_option maxHeartbeats 3200000 in
theorem reported_any {L mb cb : Nat} {x : EV} {A : List Ac} (w : World) (h : MM L mb cb x A w) (hbd : ∀ j, 0 ≤ x.hd j ∧ x.hd j ≤ 1099511627776) : Calls Try.prog 59 #[.pointer (some ⟨mb, 0, none⟩)] w fun e w' => e = .returned (.int .i64 (sumH x.hd 16)) ∧ w' = w := by
  have hr := h.rh
  have hc : ∀ k, k < 16 → (arr16 x.hd)[k]? = some (.int .i64 (x.hd k)) := fun k hk => arr16_at _ hk
  clear h
  go_enter Try.func59, Try.ntmps59
  go_upto_region 2 with fail
  refine wp_region_lit ?_
  refine st_yes (v := .pointer (some ⟨mb, 0, none⟩)) (wanted_none rfl) (by simp [go_sem, execOp, Act.eval]) ?_
  refine st_yes (v := .pointer (some ⟨mb, 0, none⟩)) (wanted_none rfl) (by simp [go_sem, execOp, Act.eval, Act.put]) ?_
  refine st_yes (v := .pointer (some ⟨mb, 34, none⟩)) (wanted_none rfl) (by simp [go_sem, execOp, Act.eval, Act.put]) ?_
  refine st_yes (v := .pointer (some ⟨mb, 51, none⟩)) (wanted_none rfl) (by simp [go_sem, execOp, Act.eval, Act.put]) ?_
  refine wpList_load_mid rfl 81 (.tmp 9) rfl mb 51 (by simp [Act.eval, Act.put]) (arr16 x.hd) _ hr Try.underlying81 rfl isz81 ?_
  generalize hD : (arr16 x.hd).toArray = D
  have hd : ∀ k, k < 16 → D[k]? = some (.int .i64 (x.hd k)) := fun k hk => by rw [← hD, List.getElem?_toArray]; exact hc k hk
  clear hD hc hr
  refine st_yes (v := .int .i64 0) (wanted_none rfl) (by simp [go_sem, execOp, Act.eval, Act.put]) ?_
  refine wpList_nil ?_
  simp only [Act.put, List.setIfInBounds_toArray, List.set_cons_succ, List.set_cons_zero]
  go_wp2
  go_loop [3, 11] (fun s i => ∃ k : Nat, k ≤ 16 ∧ i = .int .i64 (k : Int) ∧ s = .int .i64 (sumH x.hd k)) (fun _ i => 16 - (intOf i).toNat)
  case atStart => exact ⟨0, by omega, rfl, rfl⟩
  case round =>
    obtain ⟨k, hk, rfl, rfl⟩ := hrel
    by_cases hlt : k < 16
    · have hix := ix81 (hd k hlt) hlt
      obtain ⟨b1, b2⟩ := hbd k
      obtain ⟨b3, b4⟩ := sumH_bd hbd k
      have HL : Hid (sumH x.hd (k + 1) = sumH x.hd k + x.hd k) := rfl
      generalize sumH x.hd k = m at *
      generalize x.hd k = v at *
      have HL2 : Hid (sumH x.hd (k + 1) = m + v) := HL.out
      have b5 : m + v ≤ 9223372036854775807 := by omega
      clear hbd
      go_wp2
      go_round
      case rel =>
        refine ⟨k + 1, by omega, by go_num, ?_⟩
        rw [HL2.out]
      case measure => simp [intOf]; omega
    · obtain rfl : k = 16 := by omega
      clear hbd
      go_wp2
      go_ret
      exact ⟨rfl, rfl⟩
set_option maxRecDepth 100000 in
set_option maxHeartbeats 3200000 in
theorem all_any {L mb cb : Nat} {x : EV} {A : List Ac} (w : World) (h : MM L mb cb x A w) (hn : x.n ≤ 16) : Calls Try.prog 58 #[.pointer (some ⟨mb, 0, none⟩)] w fun e w' => e = .returned (.bool (allB x)) ∧ w' = w := by
  have c0 := h.c0
  have c1 := h.c1
  have HC : Hid (∀ k, k < 16 → w.cell? ⟨mb, 35 + k, none⟩ = some (.bool (x.rep k))) := fun k hk => h.crep hk
  clear h
  go_enter Try.func58, Try.ntmps58
  go_wp2
  go_loop [8] (fun i => ∃ k : Nat, k ≤ x.n ∧ i = .int .i64 (k : Int) ∧ Hid (∀ j, j < k → j ≠ x.me → x.rep j = true)) (fun i => x.n - (intOf i).toNat)
  case atStart => exact ⟨0, by omega, rfl, fun j hj => by omega⟩
  case round =>
    obtain ⟨k, hk, rfl, HJ⟩ := hrel
    by_cases hlt : k < x.n
    · by_cases hm : k = x.me
      · have hm' : ((k : Int) != (x.me : Int)) = false := by simp [hm]
        go_wp2
        go_round
        case rel => exact ⟨k + 1, by omega, by go_num, fun j hj hne => HJ.out j (by omega) hne⟩
        case measure => simp [intOf]; omega
      · have hm' : ((k : Int) != (x.me : Int)) = true := by simp; omega
        have hm2 : ¬ (k : Int) = (x.me : Int) := by omega
        have hck := HC.out k (by omega)
        cases hq : x.rep k
        · rw [hq] at hck
          have hA : allB x = false := by
            unfold allB
            rw [decide_eq_false_iff_not]
            intro h
            have := h k hlt hm
            rw [hq] at this
            cases this
          have HA : Hid _ := hA
          clear hA hq
          go_wp2
          go_ret
          exact ⟨by rw [HA.out]; rfl, rfl⟩
        · rw [hq] at hck
          have HQ : Hid (x.rep k = true) := hq
          clear hq
          go_wp2
          go_round
          case rel =>
            refine ⟨k + 1, by omega, by go_num, fun j hj hne => ?_⟩
            by_cases e : j = k
            · subst e; exact HQ.out
            · exact HJ.out j (by omega) hne
          case measure => simp [intOf]; omega
    · obtain rfl : k = x.n := by omega
      have hA : allB x = true := by
        unfold allB
        rw [decide_eq_true_iff]
        exact HJ.out
      have HA : Hid _ := hA
      clear hA
      go_wp2
      go_ret
      exact ⟨by rw [HA.out]; rfl, rfl⟩
end Go.Proofs.Ytjojhhkbebddmaa
