import Derived.Test.YtjojhhkbebddmaaR4
namespace Go.Proofs.Ytjojhhkbebddmaa
open Go.RowKit Go.PlainAid
set_option linter.unusedVariables false
set_option linter.unusedSimpArgs false
theorem flatA_at {l : List Ac} {i : Nat} {a : Ac} (h : l[i]? = some a) : (flatA l)[i * 6]? = some (.int .i64 a.kd) ∧ (flatA l)[i * 6 + 1]? = some (.int .i64 a.to) ∧ (flatA l)[i * 6 + 2]? = some (.int .i64 a.e.r) ∧ (flatA l)[i * 6 + 3]? = some (.int .i64 a.e.k) ∧ (flatA l)[i * 6 + 4]? = some (.int .i64 a.o.r) ∧ (flatA l)[i * 6 + 5]? = some (.int .i64 a.o.k) :=
  ⟨(flat_at Ac.row 6 (fun _ => rfl) l i 0 a h (by decide)).trans rfl, (flat_at Ac.row 6 (fun _ => rfl) l i 1 a h (by decide)).trans rfl, (flat_at Ac.row 6 (fun _ => rfl) l i 2 a h (by decide)).trans rfl, (flat_at Ac.row 6 (fun _ => rfl) l i 3 a h (by decide)).trans rfl, (flat_at Ac.row 6 (fun _ => rfl) l i 4 a h (by decide)).trans rfl, (flat_at Ac.row 6 (fun _ => rfl) l i 5 a h (by decide)).trans rfl⟩
theorem neq_self (a b : Int) (W : World) : (binOp .neq 49 (.agg #[.int .i64 a, .int .i64 b]) (.agg #[.int .i64 a, .int .i64 b])).run Try.prog W = .ok (.bool false) W := by
  rw [neq49]
  simp [sameE]
set_option maxRecDepth 100000 in
set_option maxHeartbeats 6400000 in
theorem same_any {M1 M2 : Nat} {v1 v2 : Value} {l : List Ac} (w : World) (h1 : w.ownsRow M1 56 6 v1 l.length (flatA l)) (h2 : w.ownsRow M2 117 6 v2 l.length (flatA l)) : Calls Try.prog 53 #[v1, v2] w fun e w' => e = .returned (.bool true) ∧ Below w.heap.size w w' := by
  obtain ⟨ao1, cap1, hv1, hc1, hm1, hrd1⟩ := own_read h1
  obtain ⟨ao2, cap2, hv2, hc2, hm2, hrd2⟩ := own_read h2
  obtain ⟨n, hn⟩ : ∃ n, n = l.length := ⟨_, rfl⟩
  have HN : Hid (n = l.length) := hn
  have HR1 : Hid _ := hrd1
  have HR2 : Hid _ := hrd2
  have HS := neq_self
  unfold maxLen at hm1 hm2
  rw [← hn] at hv1 hv2 hc1 hc2
  clear h1 h2 hrd1 hrd2 hn
  subst hv1 hv2
  go_enter Try.func53, Try.ntmps53
  go_wp2_with fail
  go_loopw [5] (fun i wr => ∃ k z : Nat, k ≤ n ∧ i = .int .i64 (k : Int) ∧ wr = w.drewN z) (fun i _ => n - (intOf i).toNat)
  case atStart => exact ⟨0, 0, Nat.zero_le _, rfl, rfl⟩
  case round =>
    obtain ⟨k, z, hk, rfl, rfl⟩ := hrel
    by_cases hlt : k < n
    · obtain ⟨a, ha⟩ : ∃ a, l[k]? = some a := ⟨_, List.getElem?_eq_getElem (by rw [← HN.out]; exact hlt)⟩
      obtain ⟨q1, rfl, _, _, hcell1⟩ := HR1.out (by have := HN.out; omega)
      obtain ⟨q2, rfl, _, _, hcell2⟩ := HR2.out (by have := HN.out; omega)
      obtain ⟨f0, f1, f2, f3, f4, f5⟩ := flatA_at ha
      have a0 := hcell1 _ _ f0
      have a1 := hcell1 _ _ f1
      have a2 := hcell1 _ _ f2
      have a3 := hcell1 _ _ f3
      have a4 := hcell1 _ _ f4
      have a5 := hcell1 _ _ f5
      have b0 := hcell2 _ _ f0
      have b1 := hcell2 _ _ f1
      have b2 := hcell2 _ _ f2
      have b3 := hcell2 _ _ f3
      have b4 := hcell2 _ _ f4
      have b5 := hcell2 _ _ f5
      obtain ⟨kd, to, ⟨er, ek⟩, ⟨pr, pk⟩⟩ := a
      simp only at a0 a1 a2 a3 a4 a5 b0 b1 b2 b3 b4 b5
      clear f0 f1 f2 f3 f4 f5 hcell1 hcell2 ha
      go_wp2_with fail
      go_quiet (fail)
      go_wp2_with fail
      go_roundw
      case rel => exact ⟨k + 1, _, by omega, by go_num, rfl⟩
      case measure => simp [intOf]; omega
    · obtain rfl : k = n := by omega
      go_wp2_with fail
      go_ret
      exact ⟨rfl, below_drewN (Below.refl _ _) _⟩
set_option maxRecDepth 100000 in
set_option maxHeartbeats 6400000 in
theorem sameEps_any {M1 M2 : Nat} {v1 v2 : Value} {l : List Ep} (w : World) (h1 : w.ownsRow M1 49 2 v1 l.length (flatE l)) (h2 : w.ownsRow M2 49 2 v2 l.length (flatE l)) : Calls Try.prog 78 #[v1, v2] w fun e w' => e = .returned (.bool true) ∧ ∃ z, w' = w.drewN z := by
  obtain ⟨ao1, cap1, hv1, hc1, hm1, hrd1⟩ := own_read h1
  obtain ⟨ao2, cap2, hv2, hc2, hm2, hrd2⟩ := own_read h2
  obtain ⟨n, hn⟩ : ∃ n, n = l.length := ⟨_, rfl⟩
  have HN : Hid (n = l.length) := hn
  have HR1 : Hid _ := hrd1
  have HR2 : Hid _ := hrd2
  have HS := neq_self
  unfold maxLen at hm1 hm2
  rw [← hn] at hv1 hv2 hc1 hc2
  clear h1 h2 hrd1 hrd2 hn
  subst hv1 hv2
  go_enter Try.func78, Try.ntmps78
  go_wp2_with fail
  go_loopw [5] (fun i wr => ∃ k z : Nat, k ≤ n ∧ i = .int .i64 (k : Int) ∧ wr = w.drewN z) (fun i _ => n - (intOf i).toNat)
  case atStart => exact ⟨0, 0, Nat.zero_le _, rfl, rfl⟩
  case round =>
    obtain ⟨k, z, hk, rfl, rfl⟩ := hrel
    by_cases hlt : k < n
    · obtain ⟨a, ha⟩ : ∃ a, l[k]? = some a := ⟨_, List.getElem?_eq_getElem (by rw [← HN.out]; exact hlt)⟩
      obtain ⟨q1, rfl, _, _, hcell1⟩ := HR1.out (by have := HN.out; omega)
      obtain ⟨q2, rfl, _, _, hcell2⟩ := HR2.out (by have := HN.out; omega)
      obtain ⟨f0, f1⟩ := flatE_at ha
      have a0 := hcell1 _ _ f0
      have a1 := hcell1 _ _ f1
      have b0 := hcell2 _ _ f0
      have b1 := hcell2 _ _ f1
      obtain ⟨er, ek⟩ := a
      simp only at a0 a1 b0 b1
      clear f0 f1 hcell1 hcell2 ha
      go_wp2_with fail
      go_quiet (fail)
      go_wp2_with fail
      go_roundw
      case rel => exact ⟨k + 1, _, by omega, by go_num, rfl⟩
      case measure => simp [intOf]; omega
    · obtain rfl : k = n := by omega
      go_wp2_with fail
      go_ret
      exact ⟨rfl, _, rfl⟩
end Go.Proofs.Ytjojhhkbebddmaa
