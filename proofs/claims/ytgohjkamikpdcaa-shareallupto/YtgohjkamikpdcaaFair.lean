import Derived.Test.YtgohjkamikpdcaaAble
import Derived.Test.YtgohjkamikpdcaaApI
namespace Go.Proofs.Ytgohjkamikpdcaa
open Go.RowKit Go.PlainAid
set_option linter.unusedVariables false
set_option linter.unusedSimpArgs false
/-- One number is appended, that lies in the new block ahead of it. -/
def fw (z : Int) : Int := if z.tmod 1048577 < 0 then -(z.tmod 1048577) else z.tmod 1048577
theorem tmod_range (z : Int) (k : Int) (hk : 0 < k) : -k < z.tmod k ∧ z.tmod k < k := by
  have h1 := Int.tmod_lt_of_pos z hk
  have h2 := Int.lt_tmod_of_pos z hk
  omega
theorem fw_range (z : Int) : 0 ≤ fw z ∧ fw z ≤ 1048576 := by
  have := tmod_range z 1048577 (by omega)
  unfold fw
  split <;> omega
def fairT (total : Int) : Int := (if total < 0 then -(total + 1) else total).tmod 1099511627777
theorem fairT_range (total : Int) : 0 ≤ fairT total ∧ fairT total ≤ 1099511627776 := by
  have h := tmod_range (if total < 0 then -(total + 1) else total) 1099511627777 (by omega)
  have h2 : 0 ≤ fairT total := by unfold fairT; exact Int.tmod_nonneg _ (by split <;> omega)
  unfold fairT at *
  omega
def fairL (ws : List Int) : List Int := if ws.length = 0 then [1] else (ws.take 16).map fw
theorem fairL_right (ws : List Int) : rightW (fairL ws) = true := by
  unfold rightW fairL
  split
  · decide
  · simp only [List.length_map, List.length_take, Bool.and_eq_true, decide_eq_true_eq, List.all_eq_true]
    refine ⟨⟨by omega, by omega⟩, fun z hz => ?_⟩
    rw [List.mem_map] at hz
    obtain ⟨y, _, rfl⟩ := hz
    have := fw_range y
    simp [okW]
    omega
def fairTo (k : Nat) (zs : List Int) : List Int := (zs.take k).map fw
set_option maxRecDepth 100000 in
set_option maxHeartbeats 1600000 in
theorem fair_any {ao : Option Addr} {n c : Nat} {zs : List Int} (total : Int) (htw : IntKind.i64.wrap total = total) (w : World) (hl : zs.length = n) (hx : FromI w ao zs) (hn : n ≤ maxLen) :
    Calls Try.prog 12 #[.int .i64 total, .slice ao n c] w fun r w' => ∃ v, r = .returned (.tuple #[.int .i64 (fairT total), v]) ∧ w'.ownsRow w.heap.size 3 1 v (fairL zs).length ((fairL zs).map I) ∧ Below w.heap.size w w' := by
  have HX : Hid (FromI w ao zs) := hx
  have htm : (if total < 0 then -(total + 1) else total).tmod 1099511627777 = fairT total := rfl
  have htr := fairT_range total
  rw [IntKind.wrap_i64] at htw
  unfold maxLen at hn
  clear hx
  go_enter Try.func12, Try.ntmps12
  go_wp2
  go_loopw [6, 7] (fun v i wr => ∃ k : Nat, k ≤ n ∧ k ≤ 16 ∧ i = .int .i64 k ∧ Hid (wr.ownsRow w.heap.size 3 1 v k ((fairTo k zs).map I)) ∧ Hid (Below w.heap.size w wr)) (fun _ i _ => n - (intOf i).toNat)
  case atStart => exact ⟨0, Nat.zero_le _, Nat.zero_le _, rfl, World.ownsRow_nil _ _ _ _, Below.refl _ _⟩
  case round =>
    obtain ⟨k, hk, hk6, rfl, HV, HB⟩ := hrel
    by_cases hlt : k < n
    · have hlti : (k : Int) < n := by omega
      by_cases h6 : k < 16
      · have h6i : (k : Int) < 16 := by omega
        obtain ⟨b1, o1, rfl, e1⟩ := FromI.at (k := k) (FromI.all HX.out HB.out) (by omega)
        obtain ⟨vo, vc, hvv, hvn⟩ := own_slice HV.out
        subst hvv
        have hfw : fairTo (k + 1) zs = fairTo k zs ++ [fw (at0 zs k)] := by
          unfold fairTo
          rw [take_snoc zs k (by omega), List.map_append, at0_lt (by omega)]; rfl
        have hmr := tmod_range (at0 zs k) 1048577 (by omega)
        have hdef : fw (at0 zs k) = if (at0 zs k).tmod 1048577 < 0 then -((at0 zs k).tmod 1048577) else (at0 zs k).tmod 1048577 := rfl
        have HF : Hid _ := hfw
        generalize fw (at0 zs k) = y at *
        generalize at0 zs k = z at *
        generalize hm : z.tmod 1048577 = m at *
        clear hfw
        have hyy : ∀ x : Int, x = y → ∀ {ops : Array Oper} {rest : List Oper} {o : Oper} {a : Act} {Q : Exit → Act → World → Prop} (hgd : o.guard = none) (s x0 : Operand)
            (ho : o.op = .call { callee := .builtin .append, args := #[s, x0], argTypes := #[22, 22] }) (hs : a.eval s = .slice vo k vc) (hx : a.eval x0 = .slice (some ⟨wr.heap.size, 0, none⟩) 1 1)
            (h : ∀ vo' vc' w', Hid (w'.ownsRow w.heap.size 3 1 (.slice vo' (k + 1) vc') (k + 1) ((fairTo (k + 1) zs).map I)) → Hid (Below w.heap.size w w') → wpList Try.prog ops Q rest (a.put o.dst (.slice vo' (k + 1) vc')) w'),
            wpList Try.prog ops Q (o :: rest) a (wr.alloc (.cells #[.int .i64 x] 3)) := by
          intro x hxy ops rest o a Q hgd s x0 ho hs hx h
          subst hxy
          refine wpList_appI hgd s x0 ho w.heap.size k _ _ hs HV.out x hx rfl (by omega) HB.out.size ?_
          intro v' w' h1 h2 _
          obtain ⟨vo', vc', rfl, _⟩ := own_slice h1
          refine h vo' vc' w' (by rw [HF.out]; exact h1) (HB.out.trans (h2.below (fun j hj => (ownsRow_lt HV.out hj).1) HB.out.size))
        have HYY : Hid _ := hyy
        clear hyy
        by_cases hneg : m < 0
        · rw [if_pos hneg] at hdef
          have HD : Hid _ := hdef
          clear hdef
          go_wp2_with (first
            | (at_builtin; go_must (refine HYY.out _ HD.out.symm rfl _ _ rfl rfl rfl ?_))
            | fail)
          intro vo' vc' w2 H1 H2
          clear HV HB HYY e1
          go_wp2
          go_roundw
          case rel => exact ⟨k + 1, by omega, by omega, by go_num, H1, H2⟩
          case measure => simp [intOf]; omega
        · rw [if_neg hneg] at hdef
          have HD : Hid _ := hdef
          clear hdef
          go_wp2_with (first
            | (at_builtin; go_must (refine HYY.out _ HD.out.symm rfl _ _ rfl rfl rfl ?_))
            | fail)
          intro vo' vc' w2 H1 H2
          clear HV HB HYY e1
          go_wp2
          go_roundw
          case rel => exact ⟨k + 1, by omega, by omega, by go_num, H1, H2⟩
          case measure => simp [intOf]; omega
      · obtain rfl : k = 16 := by omega
        have h6i : ¬ ((16 : Nat) : Int) < 16 := by omega
        have hfl : fairL zs = fairTo 16 zs := by
          unfold fairL fairTo
          rw [if_neg (by omega)]
        obtain ⟨vo, vc, hvv, hvn⟩ := own_slice HV.out
        subst hvv
        have hkl : (fairL zs).length = 16 := by rw [hfl]; simp [fairTo]; omega
        have hrow := HV.out
        rw [← hfl] at hrow
        have HR : Hid _ := hrow
        have hk0 : ((16 : Nat) : Int) ≠ 0 := by omega
        clear hrow hfl HV
        by_cases hneg : total < 0
        · rw [if_pos hneg] at htm
          go_wp2
          go_ret2
          exact ⟨_, rfl, by first | exact HR.out | (rw [hkl]; exact HR.out), HB.out⟩
        · rw [if_neg hneg] at htm
          go_wp2
          go_ret2
          exact ⟨_, rfl, by first | exact HR.out | (rw [hkl]; exact HR.out), HB.out⟩
    · obtain rfl : n = k := by omega
      by_cases h0 : n = 0
      · subst h0
        have hfl : fairL zs = [1] := by unfold fairL; rw [if_pos hl]
        have HFL : Hid _ := hfl
        obtain ⟨vo, vc, hvv, hvn⟩ := own_slice HV.out
        subst hvv
        have hb2 : Below w.heap.size w (wr.alloc (.cells #[.int .i64 1] 3)) := HB.out.alloc HB.out.size _
        have hr2 : (wr.alloc (.cells #[.int .i64 1] 3)).ownsRow w.heap.size 3 1 (.slice (some ⟨wr.heap.size, 0, none⟩) 1 1) 1 (([1] : List Int).map I) := World.ownsRow_lit wr #[.int .i64 1] 1 HB.out.size (by unfold maxLen; omega) rfl
        have HR2 : Hid _ := hr2
        have HB2 : Hid _ := hb2
        clear hfl hb2 hr2
        by_cases hneg : total < 0
        · rw [if_pos hneg] at htm
          go_wp2
          go_ret2
          refine ⟨_, rfl, ?_, HB2.out⟩
          rw [HFL.out]
          exact HR2.out
        · rw [if_neg hneg] at htm
          go_wp2
          go_ret2
          refine ⟨_, rfl, ?_, HB2.out⟩
          rw [HFL.out]
          exact HR2.out
      · have hnn : ¬ (n : Int) < n := by omega
        have hfl : fairL zs = fairTo n zs := by
          unfold fairL fairTo
          rw [if_neg (by omega)]
          congr 1
          rw [List.take_of_length_le (by omega), List.take_of_length_le (by omega)]
        obtain ⟨vo, vc, hvv, hvn⟩ := own_slice HV.out
        subst hvv
        have hkl : (fairL zs).length = n := by rw [hfl]; simp [fairTo]; omega
        have hrow := HV.out
        rw [← hfl] at hrow
        have HR : Hid _ := hrow
        have hk0 : (n : Int) ≠ 0 := by omega
        clear hrow hfl HV
        by_cases hneg : total < 0
        · rw [if_pos hneg] at htm
          go_wp2
          go_ret2
          exact ⟨_, rfl, by first | exact HR.out | (rw [hkl]; exact HR.out), HB.out⟩
        · rw [if_neg hneg] at htm
          go_wp2
          go_ret2
          exact ⟨_, rfl, by first | exact HR.out | (rw [hkl]; exact HR.out), HB.out⟩
end Go.Proofs.Ytgohjkamikpdcaa
