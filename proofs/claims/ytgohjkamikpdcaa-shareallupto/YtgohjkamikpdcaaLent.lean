import Derived.Test.YtgohjkamikpdcaaAble
namespace Go.Proofs.Ytgohjkamikpdcaa
open Go.RowKit Go.PlainAid
set_option linter.unusedVariables false
set_option linter.unusedSimpArgs false
set_option maxRecDepth 100000 in
theorem rgive_any (h x : Int) (hw : IntKind.i64.wrap h = h) (w : World) : Calls Try.prog 28 #[.int .i64 h, .int .i64 x] w fun r w' => r = .returned (.int .i64 (giveI h x)) ∧ w' = w := by
  rw [IntKind.wrap_i64] at hw
  by_cases h1 : h ≤ 0
  · rw [show giveI h x = 0 by simp [giveI, h1]]
    go_enter Try.func28, Try.ntmps28
    go_wp2
    go_ret
    exact ⟨rfl, rfl⟩
  · by_cases h2 : x ≤ 0
    · rw [show giveI h x = 0 by simp [giveI, h2]]
      go_enter Try.func28, Try.ntmps28
      go_wp2
      go_ret
      exact ⟨rfl, rfl⟩
    · have e : giveI h x = min x (h / 2 + h % 2) := by simp [giveI, h1, h2]
      rw [e]
      have hq : h.tdiv 2 = h / 2 := Int.tdiv_eq_ediv_of_nonneg (by omega)
      have hr : h.tmod 2 = h % 2 := Int.tmod_eq_emod_of_nonneg (by omega)
      have hwq : IntKind.i64.wrap (h / 2 + h % 2) = h / 2 + h % 2 := by rw [IntKind.wrap_i64]; omega
      have hb : 0 ≤ h / 2 ∧ h / 2 ≤ 4611686018427387903 ∧ 0 ≤ h % 2 ∧ h % 2 ≤ 1 := by omega
      generalize h / 2 = q at *
      generalize h % 2 = r at *
      clear e hw
      by_cases h3 : x < q + r
      · rw [show min x (q + r) = x by omega]
        go_enter Try.func28, Try.ntmps28
        go_wp2
        go_ret
        exact ⟨rfl, rfl⟩
      · rw [show min x (q + r) = q + r by omega]
        go_enter Try.func28, Try.ntmps28
        go_wp2
        go_ret
        exact ⟨rfl, rfl⟩
/-- append(nil, l...): a copy. -/
theorem wpList_copy {w : World} {ops : Array Oper} {rest : List Oper} {o : Oper} {a : Act} {Q : Exit → Act → World → Prop} (hgd : o.guard = none) (s x : Operand)
    (ho : o.op = .call { callee := .builtin .append, args := #[s, x], argTypes := #[22, 22] }) (hs : a.eval s = .slice none 0 0)
    (ao : Option Addr) (n cap : Nat) (ps : List Int) (hx : a.eval x = .slice ao n cap) (hn : ps.length = n) (hnil : ao = none → n = 0 ∧ cap = 0) (hsrc : FromI w ao ps) (hlen : n * 8 ≤ 140737488355328)
    (h : ∀ vo vc w', w'.ownsRow w.heap.size 3 1 (.slice vo n vc) n (ps.map I) → Below w.heap.size w w' → wpList Try.prog ops Q rest (a.put o.dst (.slice vo n vc)) w') : wpList Try.prog ops Q (o :: rest) a w := by
  refine wpList_appN hgd s x ho w.heap.size 0 _ [] hs (World.ownsRow_nil _ _ _ _) ao n cap ps hx hn hnil hsrc (by omega) (Nat.le_refl _) ?_
  intro v' w' h1 h2 _
  rw [Nat.zero_add, List.nil_append] at h1
  obtain ⟨vo, vc, rfl, _⟩ := own_slice h1
  exact h vo vc w' h1 (h2.below (fun j hj => by cases hj) (Nat.le_refl _))
set_option maxRecDepth 100000 in
set_option maxHeartbeats 1600000 in
/-- A list with marks in its spare room. -/
theorem lent_any {ao : Option Addr} {n c : Nat} {zs : List Int} (w : World) (hl : zs.length = n) (hnil : ao = none → n = 0 ∧ c = 0) (hx : FromI w ao zs) (hn : (n + 2) * 8 ≤ 140737488355328) :
    Calls Try.prog 21 #[.slice ao n c] w fun r w' => ∃ g cap, r = .returned (.slice (some ⟨g, 0, none⟩) (n + 2) cap) ∧ n + 2 ≤ cap ∧ w'.ownsRow w.heap.size 3 1 (.slice (some ⟨g, 0, none⟩) (n + 2) cap) (n + 2) ((zs ++ [77, 78]).map I) ∧ Below w.heap.size w w' := by
  have HX : Hid (FromI w ao zs) := hx
  have HN : Hid (ao = none → n = 0 ∧ c = 0) := hnil
  clear hx hnil
  go_enter Try.func21, Try.ntmps21
  go_wp2_with (first
    | (at_builtin; go_must (refine wpList_copy rfl _ _ rfl rfl ao n c zs rfl hl HN.out HX.out (by omega) ?_))
    | fail)
  intro vo vc w1 h1 hb1
  have HV : Hid (w1.ownsRow w.heap.size 3 1 (.slice vo n vc) n (zs.map I)) := h1
  have HB : Hid (Below w.heap.size w w1) := hb1
  clear h1 hb1
  go_wp2_with (first
    | (at_builtin; go_must (refine wpList_appN rfl _ _ rfl w.heap.size n _ zs rfl (HV.out.alloc _) (some ⟨w1.heap.size, 0, none⟩) 2 2 [77, 78] rfl rfl (by intro h; cases h) (fromI_new w1 [77, 78] _ _ _ rfl) (by omega) (by have := HB.out.size; simp; omega) ?_))
    | fail)
  intro v' w2 h1 h2 _
  replace h1 : w2.ownsRow w.heap.size 3 1 v' (n + 2) ((zs ++ [77, 78]).map I) := by rw [List.map_append]; exact h1
  obtain ⟨g, cap, rfl, hcap, _, _, _, _⟩ := own_form h1 (show 0 < n + 2 by omega)
  have HV2 : Hid _ := h1
  have HB2 : Hid (Below w.heap.size w w2) := HB.out.trans ((h2.ofAlloc).below (fun j hj => (ownsRow_lt HV.out hj).1) HB.out.size)
  clear h1 h2 HV HB
  go_wp2
  go_ret
  exact ⟨g, cap, rfl, hcap, HV2.out, HB2.out⟩
theorem own_take {w : World} {L n m g cap : Nat} {zs ys : List Int} (h : w.ownsRow L 3 1 (.slice (some ⟨g, 0, none⟩) n cap) n ((zs ++ ys).map I)) (hm : zs.length = m) : w.ownsRow L 3 1 (.slice (some ⟨g, 0, none⟩) m cap) m (zs.map I) := by
  have hl : (zs ++ ys).length = n := by simpa using h.1
  have hl2 : m + ys.length = n := by rw [← hl, List.length_append, hm]
  rcases h.2 with ⟨h1, _⟩ | ⟨g2, c, cur, h1, h2, h3, h4, h5, h6, h7⟩
  · cases h1
  · cases h1
    refine ⟨by simp [hm], Or.inr ⟨g, cap, cur, rfl, h2, h3, by omega, h5, h6, ?_⟩⟩
    have : cur.toList.take (m * 1) = (cur.toList.take (n * 1)).take (m * 1) := by rw [List.take_take, Nat.min_eq_left (by omega)]
    rw [this, h7, ← List.map_take, Nat.mul_one, ← hm, List.take_left]
set_option maxRecDepth 100000 in
set_option maxHeartbeats 1600000 in
/-- It is as it was; then it is written over. -/
theorem back_any {ao : Option Addr} {n c g cap L : Nat} {zs : List Int} (w : World) (hl : zs.length = n) (hx : FromI w ao zs) (hn : (n + 2) * 8 ≤ 140737488355328) (hrow : w.ownsRow L 3 1 (.slice (some ⟨g, 0, none⟩) (n + 2) cap) (n + 2) ((zs ++ [77, 78]).map I)) (hcap : n + 2 ≤ cap) :
    Calls Try.prog 29 #[.slice (some ⟨g, 0, none⟩) (n + 2) cap, .slice ao n c] w fun r w' => r = .returned (.bool true) ∧ w'.ownsRow L 3 1 (.slice (some ⟨g, 0, none⟩) (n + 2) cap) (n + 2) ((List.replicate (n + 2) (5 : Int)).map I) ∧ Chg (fun k => k = g) w w' := by
  have htk := own_take hrow hl
  obtain ⟨_, _, e, _, _, _, hf, _⟩ := own_from htk
  cases e
  have hsm := same_any (c1 := cap) (c2 := c) w hl hl hf hx (by unfold maxLen; omega) (by unfold maxLen; omega)
  rw [decide_eq_true (rfl : zs = zs)] at hsm
  have m1 := own_at hrow (k := n) (by omega)
  have m2 := own_at hrow (k := n + 1) (by omega)
  have e1 : at0 (zs ++ [77, 78]) n = 77 := by unfold at0; rw [List.getD_eq_getElem?_getD, List.getElem?_append_right (by omega), hl, Nat.sub_self]; rfl
  have e2 : at0 (zs ++ [77, 78]) (n + 1) = 78 := by unfold at0; rw [List.getD_eq_getElem?_getD, List.getElem?_append_right (by omega), hl, show n + 1 - n = 1 by omega]; rfl
  rw [e1] at m1
  rw [e2] at m2
  have HR : Hid _ := hrow
  have hnc : n ≤ cap := by omega
  have hwn : IntKind.i64.wrap ((n : Int) + 1) = (n : Int) + 1 := by rw [IntKind.wrap_i64]; omega
  have hle2 : (zs ++ [77, 78]).length = n + 2 := by simp [hl]
  clear hx hf htk hrow e1 e2
  go_enter Try.func29, Try.ntmps29
  go_wp2_with (first
    | (go_at_call 17; refine hsm.mono ?_; rintro e w1 ⟨rfl, q, hw1⟩; have m1' : w1.cell? ⟨g, n, none⟩ = some (.int .i64 77) := by { rw [hw1]; exact m1 }; have m2' : w1.cell? ⟨g, n + 1, none⟩ = some (.int .i64 78) := by { rw [hw1]; exact m2 }; have HW : Hid _ := hw1; clear hw1 m1 m2 hsm)
    | fail)
  go_loopw [7] (fun i wr => ∃ k : Nat, k ≤ n + 2 ∧ i = .int .i64 k ∧ Hid (wr.ownsRow L 3 1 (.slice (some ⟨g, 0, none⟩) (n + 2) cap) (n + 2) ((fillTo 5 k (zs ++ [77, 78])).map I)) ∧ Hid (Chg (fun k => k = g) w wr)) (fun i _ => n + 2 - (intOf i).toNat)
  case atStart => exact ⟨0, Nat.zero_le _, rfl, by rw [fillTo_zero, HW.out]; exact ownsRow_same HR.out (fun _ _ => rfl), by rw [HW.out]; exact (Chg.refl _ _).drewN q⟩
  case round =>
    obtain ⟨k, hk, rfl, HV, HB⟩ := hrel
    by_cases hlt : k < n + 2
    · obtain ⟨hs, hfz, hcl⟩ := own_set HV.out hlt 5
      rw [fillTo_set (by omega)] at hs
      have HS : Hid _ := hs
      clear hs m1' m2'
      go_wp2
      go_roundw
      case rel => exact ⟨k + 1, by omega, by go_num, HS, HB.out.trans (Chg.setCell _) (fun _ _ e => e)⟩
      case measure => simp [intOf]; omega
    · obtain rfl : k = n + 2 := by omega
      go_wp2
      go_ret
      refine ⟨rfl, ?_, HB.out⟩
      have := HV.out
      rwa [fillTo_all hle2] at this
end Go.Proofs.Ytgohjkamikpdcaa
