import Derived.Test.YtgohjkamikpdcaaDl
import Derived.Test.YtgohjkamikpdcaaAsk
namespace Go.Proofs.Ytgohjkamikpdcaa
open Go.RowKit Go.PlainAid
set_option linter.unusedVariables false
set_option linter.unusedSimpArgs false
def giveI (have_ want : Int) : Int := if have_ ≤ 0 ∨ want ≤ 0 then 0 else min want (have_ / 2 + have_ % 2)
set_option maxRecDepth 100000 in
theorem give_any (h x : Int) (hw : IntKind.i64.wrap h = h) (w : World) : Calls Try.prog 11 #[.int .i64 h, .int .i64 x] w fun r w' => r = .returned (.int .i64 (giveI h x)) ∧ w' = w := by
  rw [IntKind.wrap_i64] at hw
  by_cases h1 : h ≤ 0
  · rw [show giveI h x = 0 by simp [giveI, h1]]
    go_enter Try.func11, Try.ntmps11
    go_wp2
    go_ret
    exact ⟨rfl, rfl⟩
  · by_cases h2 : x ≤ 0
    · rw [show giveI h x = 0 by simp [giveI, h2]]
      go_enter Try.func11, Try.ntmps11
      go_wp2
      go_ret
      exact ⟨rfl, rfl⟩
    · have e : giveI h x = min x (h / 2 + h % 2) := by simp [giveI, h1, h2]
      rw [e]
      have hq : h.tdiv 2 = h / 2 := Int.tdiv_eq_ediv_of_nonneg (by omega)
      have hr : h.tmod 2 = h % 2 := Int.tmod_eq_emod_of_nonneg (by omega)
      have hs : h / 2 + h % 2 = (h + 1) / 2 := by omega
      have hwq : IntKind.i64.wrap (h / 2 + h % 2) = h / 2 + h % 2 := by rw [IntKind.wrap_i64]; omega
      have hb : 0 ≤ h / 2 ∧ h / 2 ≤ 4611686018427387903 ∧ 0 ≤ h % 2 ∧ h % 2 ≤ 1 := by omega
      generalize h / 2 = q at *
      generalize h % 2 = r at *
      clear e hs hw
      go_enter Try.func11, Try.ntmps11
      go_wp2
      go_ret
      refine ⟨?_, rfl⟩
      rfl
theorem ord_const (n : Nat) (c : Int) : ord (List.replicate n c) = List.range n := by
  have hb : ∀ i j, i < n → j < n → (before (List.replicate n c) i j ↔ i < j) := fun i j hi hj => by
    unfold before
    rw [at0_lt (by simpa using hj), at0_lt (by simpa using hi)]
    simp
  have hl : (List.replicate n c).length = n := by simp
  have hp := ord_perm (List.replicate n c)
  have hs := ord_sorted (List.replicate n c)
  rw [hl] at hp
  have hs2 : (ord (List.replicate n c)).Pairwise (fun a b => a < b) := hs.imp_of_mem (fun {a b} ha hb2 h => (hb a b (by rw [hp.mem_iff] at ha; simpa using ha) (by rw [hp.mem_iff] at hb2; simpa using hb2)).mp h)
  exact List.Perm.eq_of_pairwise (le := fun a b => a < b) (fun a b _ _ h1 h2 => absurd h1 (by omega)) hs2 List.pairwise_lt_range hp
theorem deal_ex : dealC 10 [1, 1, 1] = 0 ∧ dealL 10 [1, 1, 1] = [4, 3, 3] := by
  have h1 : okD 10 [1, 1, 1] = true := by decide
  have h2 : cnt [1, 1, 1] = [1, 1, 1] := by decide
  have h3 : parts0 10 [1, 1, 1] = [3, 3, 3] := by decide
  have h4 : rests0 10 [1, 1, 1] = List.replicate 3 1 := by decide
  have h5 : leftOf 10 [1, 1, 1] = 1 := by decide
  refine ⟨by simp [dealC, h1], ?_⟩
  unfold dealL dealG
  rw [if_pos h1, h2, h3, h4, h5, ord_const]
  decide
theorem ask_ex : (askTo 1 [5, 9, 5, 0] 4).1 = 2 := by decide
theorem give_ex : giveI 5 2 = 2 := by decide
set_option maxRecDepth 100000 in
set_option maxHeartbeats 1600000 in
theorem able_any (w : World) : Calls Try.prog 9 #[] w fun r w' => r = .returned (.bool true) ∧ Below w.heap.size w w' := by
  have hd := deal_any (ao := some ⟨w.heap.size, 0, none⟩) (n := 3) (c := 3) (ws := [1, 1, 1]) 10 (w.alloc (.cells #[.int .i64 1, .int .i64 1, .int .i64 1] 3)) rfl (fromI_new w [1, 1, 1] _ _ _ rfl) (by unfold maxLen; omega)
  rw [deal_ex.1, deal_ex.2] at hd
  have hB1 : Below w.heap.size w (w.alloc (.cells #[.int .i64 1, .int .i64 1, .int .i64 1] 3)) := (Below.refl _ _).alloc (Nat.le_refl _) _
  have HB1 : Hid _ := hB1
  clear hB1
  go_enter Try.func9, Try.ntmps9
  go_wp2_with (first
    | (go_at_call 13; refine hd.mono ?_; rintro e w1 ⟨v, rfl, hv, hb⟩; obtain ⟨g1, cap, rfl, hcap, hcm, hLg, hgs, _⟩ := own_form hv (by decide); have hb1 : Below w.heap.size w w1 := HB1.out.trans (hb.mono (by simp)); have HB2 : Hid _ := hb1; have hs1 := same_any (ao1 := some ⟨g1, 0, none⟩) (ao2 := some ⟨w1.heap.size, 0, none⟩) (n1 := 3) (n2 := 3) (c1 := cap) (c2 := 3) (xs := [4, 3, 3]) (ys := [4, 3, 3]) (w1.alloc (.cells #[.int .i64 4, .int .i64 3, .int .i64 3] 3)) rfl rfl (by obtain ⟨_, _, e, _, _, _, hf, _⟩ := own_from (hv.alloc (.cells #[.int .i64 4, .int .i64 3, .int .i64 3] 3)); cases e; exact hf) (fromI_new w1 [4, 3, 3] _ _ _ rfl) (by unfold maxLen; omega) (by unfold maxLen; omega); clear hv hb hb1 hd)
    | fail)
  go_at_call 17
  refine hs1.mono ?_
  rintro e w2 ⟨rfl, q, rfl⟩
  generalize hW : (w1.alloc (.cells #[.int .i64 4, .int .i64 3, .int .i64 3] 3)).drewN q = W
  have hb3 : Below w.heap.size w W := by
    rw [← hW]
    exact below_drewN (HB2.out.alloc HB2.out.size _) q
  have HB3 : Hid _ := hb3
  clear hW hs1 HB1 HB2 hb3 hLg hgs
  have hk1 := ask_any (ao := some ⟨W.heap.size, 0, none⟩) (n := 4) (c := 4) (zs := [5, 9, 5, 0]) 1 (by decide) (W.alloc (.cells #[.int .i64 5, .int .i64 9, .int .i64 5, .int .i64 0] 3)) rfl (fromI_new _ [5, 9, 5, 0] _ _ _ rfl) (by decide)
  rw [ask_ex] at hk1
  have hg1 := fun W => give_any 5 2 (by decide) W
  rw [give_ex] at hg1
  go_wp2_with (first
    | (go_at_call 10; refine hk1.mono ?_; rintro e w3 ⟨rfl, q2, rfl⟩)
    | (go_at_call 11; refine (hg1 _).mono ?_; rintro e w4 ⟨rfl, rfl⟩)
    | fail)
  go_ret
  exact ⟨rfl, below_drewN (HB3.out.alloc HB3.out.size _) _⟩
end Go.Proofs.Ytgohjkamikpdcaa
