import Derived.Test.YtjpdcahodmomgaaJn14
namespace Go.Proofs.Ytjpdcahodmomgaa
open Go.RowKit Go.PlainAid
set_option linter.unusedVariables false
set_option linter.unusedSimpArgs false
theorem app_one {L i n : Nat} {lo : Option Addr} {lc : Nat} {w : World} (h : w.ownsRow L 3 1 (.slice lo i lc) i ((List.replicate i (n : Int)).map I)) (hi : i ≤ 1000) (hL : L ≤ w.heap.size) :
    ∃ lo' lc' w', (∀ ty, (Builtin.append_ #[24, 24] ty #[.slice lo i lc, .slice (some ⟨w.heap.size, 0, none⟩) 1 1]).run Try.prog (w.alloc (.cells #[.int .i64 (n : Int)] 3)) = .ok (.slice lo' (i + 1) lc') w') ∧ w'.ownsRow L 3 1 (.slice lo' (i + 1) lc') (i + 1) ((List.replicate (i + 1) (n : Int)).map I) ∧ Below L w w' := by
  have hal : Below w.heap.size w (w.alloc (.cells #[.int .i64 (n : Int)] 3)) := (Below.refl _ _).alloc (Nat.le_refl _) _
  have h1 := ownsRow_same h (w' := w.alloc (.cells #[.int .i64 (n : Int)] 3)) (fun g hg => hal.block g (ownsRow_lt h hg).2)
  have hB : Blk (w.alloc (.cells #[.int .i64 (n : Int)] 3)) w.heap.size #[.int .i64 (n : Int)] 3 := heap_alloc_new w _
  obtain ⟨v', w', hr, ho, hg⟩ := app_rows (w := w.alloc (.cells #[.int .i64 (n : Int)] 3)) 24 3 (.int .i64 0) 1 8 Try.underlying24 info3 rfl (by decide) (by decide) h1 (ao := some ⟨w.heap.size, 0, none⟩) (m := 1) (cap := 1) (ys := ([(n : Int)]).map I) (by simp) (fun e => by cases e) (fun ad e j u hu => by
    cases e
    rw [addr_add, Nat.zero_add, hB.cell j]
    match j, hu with
    | 0, hu => exact hu
    | j + 1, hu => simp at hu) (oneI [(n : Int)]) (by omega) (by rw [World.size_alloc]; omega)
  obtain ⟨lo', lc', e, _⟩ := own_slice ho
  subst e
  refine ⟨lo', lc', w', hr, ?_, (hal.mono hL).trans (hg.below (fun q hq => (ownsRow_lt h hq).1) (by rw [World.size_alloc]; omega))⟩
  rw [List.replicate_succ', List.map_append]
  exact ho
set_option maxRecDepth 100000 in
set_option maxHeartbeats 3200000 in
theorem fills_law (z0 z1 : Int) (w : World) (h0 : -9223372036854775808 ≤ z0 ∧ z0 ≤ 9223372036854775807) (h1 : -9223372036854775808 ≤ z1 ∧ z1 ≤ 9223372036854775807) :
    Calls Try.prog 3 #[.int .i64 z0, .int .i64 z1] w fun e w' => e = .returned (.bool true) ∧ Below w.heap.size w w' := by
  have HA : Hid _ := able_yes w
  have H01 : Hid ((-9223372036854775808 ≤ z0 ∧ z0 ≤ 9223372036854775807) ∧ (-9223372036854775808 ≤ z1 ∧ z1 ≤ 9223372036854775807)) := ⟨h0, h1⟩
  clear h0 h1
  go_enter Try.func3, Try.ntmps3
  go_wp2_with fail
  refine Calls.mono HA.out ?_
  rintro e w1 ⟨rfl, hb1⟩
  clear HA
  have HW1 : Hid (Calls Try.prog 10 #[.int .i64 z1, .int .i64 8193] w1 fun e w' => ∃ k : Nat, k < 8193 ∧ e = .returned (.int .i64 (k : Int)) ∧ w' = w1) := within_any z1 8193 w1 H01.out.2 (by omega)
  have HW0 : Hid (Calls Try.prog 10 #[.int .i64 z0, .int .i64 60] w1 fun e w' => ∃ k : Nat, k < 60 ∧ e = .returned (.int .i64 (k : Int)) ∧ w' = w1) := within_any z0 60 w1 H01.out.1 (by omega)
  have HB1 : Hid (Below w.heap.size w w1) := hb1
  clear hb1 H01
  go_wp2_with fail
  refine Calls.mono HW1.out ?_
  rintro e wa ⟨n, hn, rfl, hwa⟩
  replace hwa := hwa.symm
  subst hwa
  clear HW1
  have hq : Int.tdiv ((n : Int) + 495) 496 = (((n + 495) / 496 : Nat) : Int) := by
    rw [Int.tdiv_eq_ediv_of_nonneg (by omega)]; omega
  obtain ⟨k, hk⟩ : ∃ k, k = kS n := ⟨_, rfl⟩
  have hif : (if 1 < ((n : Int) + 495) / 496 then ((n : Int) + 495) / 496 else 1) = (k : Int) := by
    rw [hk]; unfold kS; split <;> omega
  have HKS : Hid (k = kS n) := hk
  have hk1 : 1 ≤ k := by rw [hk]; exact kS_pos n
  have hk2 : k ≤ 17 := by rw [hk]; exact kS_le n (by omega)
  clear hk
  go_upto_region 5 with fail
  try rw [hif]
  clear hif hq
  go_wp2_with fail
  refine Calls.mono HW0.out ?_
  rintro e wa ⟨S0, hS0, rfl, hwa⟩
  replace hwa := hwa.symm
  subst hwa
  clear HW0
  obtain ⟨S, hS⟩ : ∃ S : Nat, S = 1 + S0 := ⟨_, rfl⟩
  have hSi : (1 : Int) + (S0 : Int) = (S : Int) := by omega
  have hS60 : S ≤ 60 := by omega
  have hS1 : 1 ≤ S := by omega
  obtain ⟨m, hm⟩ : ∃ m : Nat, m = S / k := ⟨_, rfl⟩
  have hdv : (S : Int).tdiv (k : Int) = (m : Int) := by rw [Int.tdiv_eq_ediv_of_nonneg (by omega), hm]; omega
  have hdv2 : (S : Int) / (k : Int) = (m : Int) := by rw [hm]; omega
  obtain ⟨r, hr⟩ : ∃ r : Nat, r = S % k := ⟨_, rfl⟩
  have hmd : (S : Int).tmod (k : Int) = (r : Int) := by rw [Int.tmod_eq_emod_of_nonneg (by omega), hr]; omega
  have hmd2 : (S : Int) % (k : Int) = (r : Int) := by rw [hr]; omega
  have hkne : ¬ (k : Int) = 0 := by omega
  have hmb : m ≤ 60 := by rw [hm]; exact Nat.le_trans (Nat.div_le_self _ _) hS60
  have hdm := Nat.div_add_mod S k
  rw [← hm, ← hr] at hdm
  have hrk : r < k := by rw [hr]; exact Nat.mod_lt _ (by omega)
  have HSP : Hid (∀ (W : World) (L0 : Nat) (lo : Option Addr) (lc : Nat), W.ownsRow L0 3 1 (.slice lo m lc) m ((List.replicate m (n : Int)).map I) → Calls Try.prog 11 #[.int .i64 (S : Int), .slice lo m lc] W fun e w' => e = .returned (.tuple #[.int .i64 (r : Int), .int .i64 0, .bool true]) ∧ Below W.heap.size W w') := fun W L0 lo lc hrow => spaces_any (m := m) W hrow hS1 hS60 (by omega) (by rw [← HKS.out]; omega) (Or.inl rfl) 0 (r : Int) (by simp) (by rw [← HKS.out]; omega)
  have HSP2 : Hid (∀ (W : World) (L0 : Nat) (lo : Option Addr) (lc : Nat), W.ownsRow L0 3 1 (.slice lo (m + 1) lc) (m + 1) ((List.replicate (m + 1) (n : Int)).map I) → Calls Try.prog 11 #[.int .i64 (S : Int), .slice lo (m + 1) lc] W fun e w' => e = .returned (.tuple #[.int .i64 (r : Int), .int .i64 211, .bool true]) ∧ Below W.heap.size W w') := fun W L0 lo lc hrow => spaces_any (m := m) W hrow hS1 hS60 (by omega) (by rw [← HKS.out]; omega) (Or.inr ⟨rfl, by rw [← HKS.out, Nat.mul_add, Nat.mul_one]; omega⟩) 211 (r : Int) (by simp) (by rw [← HKS.out]; omega)
  clear hS hm hr hdm hrk hS0
  go_wp2_with fail
  try rw [hSi]
  clear hSi
  go_loopw [6, 7] (fun s6 s7 wr => ∃ i : Nat, i ≤ m ∧ s7 = .int .i64 (i : Int) ∧ (∃ lo lc, s6 = .slice lo i lc) ∧ wr.ownsRow w1.heap.size 3 1 s6 i ((List.replicate i (n : Int)).map I) ∧ Below w1.heap.size w1 wr) (fun _ s7 _ => m - (intOf s7).toNat)
  case atStart => exact ⟨0, Nat.zero_le _, rfl, ⟨_, _, rfl⟩, World.ownsRow_nil _ _ _ _, Below.refl _ _⟩
  case round =>
    obtain ⟨i, hi, rfl, ⟨lo, lc, rfl⟩, hrow, hb⟩ := hrel
    have hlw : w1.heap.size ≤ wr.heap.size := hb.size
    obtain ⟨lo', lc', w2, hr2, ho2, hb2⟩ := app_one hrow (by omega) hlw
    have HR : Hid (∀ ty, (Builtin.append_ #[24, 24] ty #[.slice lo i lc, .slice (some ⟨wr.heap.size, 0, none⟩) 1 1]).run Try.prog (wr.alloc (.cells #[.int .i64 (n : Int)] 3)) = .ok (.slice lo' (i + 1) lc') w2) := hr2
    have HN : Hid (w2.ownsRow w1.heap.size 3 1 (.slice lo' (i + 1) lc') (i + 1) ((List.replicate (i + 1) (n : Int)).map I) ∧ Below w1.heap.size w1 w2) := ⟨ho2, hb.trans hb2⟩
    by_cases hlt : i < m
    · have hlti : (i : Int) < (m : Int) := by omega
      clear hrow hb hr2 ho2 hb2 hlw
      go_wp2_with (at_builtin; refine wpList_runs rfl _ _ 24 rfl rfl rfl HR.out ?_)
      clear HR
      go_roundw
      case rel => exact ⟨i + 1, by omega, by go_num, ⟨_, _, rfl⟩, HN.out.1, HN.out.2⟩
      case measure => simp [intOf]; omega
    · have hin : ¬ ((i : Int) < (m : Int)) := by omega
      obtain rfl : i = m := by omega
      have HS1 : Hid _ := HSP.out wr _ lo lc hrow
      have HRO : Hid (wr.ownsRow w1.heap.size 3 1 (.slice lo i lc) i ((List.replicate i (n : Int)).map I) ∧ Below w1.heap.size w1 wr ∧ w1.heap.size ≤ wr.heap.size) := ⟨hrow, hb, hlw⟩
      clear hrow hb hr2 ho2 hb2 hlw HR HN HSP w2
      go_wp2_with fail
      refine Calls.mono HS1.out ?_
      rintro e w3 ⟨rfl, hb3⟩
      clear HS1
      have hrow3 : w3.ownsRow w1.heap.size 3 1 (.slice lo i lc) i ((List.replicate i (n : Int)).map I) := ownsRow_same HRO.out.1 (fun g hg => hb3.block g (ownsRow_lt HRO.out.1 hg).2)
      have hb3' : Below w1.heap.size w1 w3 := HRO.out.2.1.trans (hb3.mono HRO.out.2.2)
      obtain ⟨lo4, lc4, w4, hr4, ho4, hb4⟩ := app_one hrow3 (by omega) hb3'.size
      have HR4 : Hid (∀ ty, (Builtin.append_ #[24, 24] ty #[.slice lo i lc, .slice (some ⟨w3.heap.size, 0, none⟩) 1 1]).run Try.prog (w3.alloc (.cells #[.int .i64 (n : Int)] 3)) = .ok (.slice lo4 (i + 1) lc4) w4) := hr4
      have HS2 : Hid _ := HSP2.out w4 _ lo4 lc4 ho4
      have HB4 : Hid (Below w1.heap.size w1 w4 ∧ w1.heap.size ≤ w4.heap.size) := ⟨hb3'.trans hb4, (hb3'.trans hb4).size⟩
      clear hb3 hrow3 hb3' hr4 ho4 hb4 HRO HSP2
      go_wp2_with (at_builtin; refine wpList_runs rfl _ _ 24 rfl rfl rfl HR4.out ?_)
      clear HR4
      refine Calls.mono HS2.out ?_
      rintro e w5 ⟨rfl, hb5⟩
      clear HS2
      have HF : Hid (Below w.heap.size w w5) := HB1.out.trans ((HB4.out.1.trans (hb5.mono HB4.out.2)).mono HB1.out.size)
      have HNM : Hid _ := num_any 211 w5
      clear hb5 HB4 HB1
      go_wp2_with fail
      refine Calls.mono HNM.out ?_
      rintro e wa ⟨rfl, hwa⟩
      replace hwa := hwa.symm
      subst hwa
      clear HNM
      go_wp2_with fail
      go_ret
      exact ⟨rfl, HF.out⟩
end Go.Proofs.Ytjpdcahodmomgaa
