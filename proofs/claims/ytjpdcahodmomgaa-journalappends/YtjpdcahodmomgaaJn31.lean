import Derived.Test.YtjpdcahodmomgaaJn30
namespace Go.Proofs.Ytjpdcahodmomgaa
open Go.RowKit Go.PlainAid
set_option linter.unusedVariables false
set_option linter.unusedSimpArgs false
set_option maxRecDepth 100000
set_option maxHeartbeats 3200000
theorem stands_short {x : DV} {g c next num : Nat} (w : World) (hI : By w (.slice (some ⟨g, 0, none⟩) (x.n * 512) c) (imgL x)) (hn : next < x.n) (hxn : x.n ≤ 1000) (hbad : 8192 < lenIn (secL x.b next) ∨ (lenIn (secL x.b next) ≤ 8192 ∧ x.n < next + kS (lenIn (secL x.b next)))) :
    Calls Try.prog 63 #[.slice (some ⟨g, 0, none⟩) (x.n * 512) c, .int .i64 (next : Int), .int .i64 (num : Int)] w fun e w' => e = .returned (.tuple #[.slice none 0 0, .bool false]) ∧ Below w.heap.size w w' := by
  have HLD : Hid ((secL x.b next).getD 5 0 = x.b (next * 512 + 5) ∧ (secL x.b next).getD 6 0 = x.b (next * 512 + 6)) := ⟨secL_getD _ _ _ (by omega), secL_getD _ _ _ (by omega)⟩
  obtain ⟨len, hle⟩ : ∃ len, len = lenIn (secL x.b next) := ⟨_, rfl⟩
  rw [← hle] at hbad
  have hll : (len : Int) = ((x.b (next * 512 + 5)).toNat : Int) + 256 * ((x.b (next * 512 + 6)).toNat : Int) := by
    rw [hle]; unfold lenIn; rw [HLD.out.1, HLD.out.2]; omega
  obtain ⟨k, hk⟩ : ∃ k, k = kS len := ⟨_, rfl⟩
  rw [← hk] at hbad
  have hcell : ∀ j, j < 512 * x.n → w.cell? ⟨g, j, none⟩ = some (.int .u8 ((x.b j).toNat : Int)) := fun j hj => by
    obtain ⟨_, _, _, e, hl, _, hc⟩ := hI
    cases e
    have := hc _ rfl j (B (x.b j)) (by rw [List.getElem?_map, imgL_get _ _ hj]; rfl)
    rw [addr_add, Nat.zero_add] at this
    exact this
  have d5 := hcell (next * 512 + 5) (by omega)
  have d6 := hcell (next * 512 + 6) (by omega)
  have h5 := (x.b (next * 512 + 5)).toNat_lt
  have h6 := (x.b (next * 512 + 6)).toNat_lt
  obtain ⟨a5, ha5⟩ : ∃ a : Nat, a = (x.b (next * 512 + 5)).toNat := ⟨_, rfl⟩
  obtain ⟨a6, ha6⟩ : ∃ a : Nat, a = (x.b (next * 512 + 6)).toNat := ⟨_, rfl⟩
  rw [← ha5] at d5 h5 hll
  rw [← ha6] at d6 h6 hll
  have hlb : len ≤ 65535 := by omega
  have HLL : Hid ((a5 : Int) + 256 * (a6 : Int) = (len : Int)) := hll.symm
  have HK : Hid (∀ X : World, Calls Try.prog 46 #[.int .i64 (len : Int)] X fun e w' => e = .returned (.int .i64 (k : Int)) ∧ w' = X) := fun X => by rw [hk]; exact count_any len X (by omega)
  have hq : Int.tdiv ((x.n * 512 : Nat) : Int) 512 = (x.n : Int) := by rw [Int.tdiv_eq_ediv_of_nonneg (by omega)]; omega
  have hq2 : ¬ ((x.n : Int) - (next : Int) < 1) := by omega
  have hnx : next ≤ 1000 := by omega
  have HW0 : Hid (∀ q, Below w.heap.size w (w.drewN q)) := fun q => below_dr (Below.refl _ _) q
  clear hI hcell hle hk hll ha5 ha6
  go_enter Try.func63, Try.ntmps63
  go_wp2_with fail
  go_cut [9] from 14 to 44 (fun s9 wy => s9 = .int .i64 (len : Int) ∧ ∃ q, wy = w.drewN q)
  case first =>
    go_quiet (fail)
    go_wp2_with fail
    go_meet
    case rel => exact ⟨by rw [← HLL.out], nq, rfl⟩
  case rest =>
  obtain ⟨rfl, q, hq0⟩ := hcut
  have HB0 : Hid (Below w.heap.size w wc) := by rw [hq0]; exact HW0.out q
  clear hq0 d5 d6 HW0
  rcases hbad with h8 | ⟨h8, h9⟩
  · have hl9 : (8192 : Int) < (len : Int) := by omega
    go_wp2_with fail
    go_ret2
    exact ⟨rfl, HB0.out⟩
  · have hl9 : ¬ ((8192 : Int) < (len : Int)) := by omega
    have hk9 : (x.n : Int) - (next : Int) < (k : Int) := by omega
    go_wp2_with fail
    refine Calls.mono (HK.out _) ?_
    rintro e wo ⟨rfl, hwo⟩
    replace hwo := hwo.symm
    subst hwo
    go_wp2_with fail
    go_ret2
    exact ⟨rfl, HB0.out⟩
theorem stands_yes {x : DV} {g c next num : Nat} (w : World) (hI : By w (.slice (some ⟨g, 0, none⟩) (x.n * 512) c) (imgL x)) (hcap : x.n * 512 ≤ c) (hxn : x.n ≤ 1000) (hnum : num ≤ 100000) (hok : RecOk x.b x.n next num) :
    Calls Try.prog 63 #[.slice (some ⟨g, 0, none⟩) (x.n * 512) c, .int .i64 (next : Int), .int .i64 (num : Int)] w fun e w' => ∃ h, e = .returned (.tuple #[.slice (some ⟨h, 0, none⟩) (recB x.b next (lenIn (secL x.b next))).length (recB x.b next (lenIn (secL x.b next))).length, .bool true]) ∧ w.heap.size ≤ h ∧ h < w'.heap.size ∧ By w' (.slice (some ⟨h, 0, none⟩) (recB x.b next (lenIn (secL x.b next))).length (recB x.b next (lenIn (secL x.b next))).length) (recB x.b next (lenIn (secL x.b next))) ∧ Below w.heap.size w w' := by
  refine (stands_m (m := kS (lenIn (secL x.b next))) w hI hcap hok.1 hxn hnum hok.2.1 hok.fit.1 (Nat.le_refl _) hok.2.2 (fun h => absurd h (Nat.lt_irrefl _))).mono ?_
  rintro e w' ⟨h1, _, h3⟩
  obtain ⟨h, e1, e2, e3, e4⟩ := h1 rfl
  exact ⟨h, e1, e2, e3, e4, h3⟩
theorem stands_no {x : DV} {g c next num : Nat} (w : World) (hI : By w (.slice (some ⟨g, 0, none⟩) (x.n * 512) c) (imgL x)) (hcap : x.n * 512 ≤ c) (hxn : x.n ≤ 1000) (hnum : num ≤ 100000) (hb : next ≤ 100000) (hok : ¬ RecOk x.b x.n next num) :
    Calls Try.prog 63 #[.slice (some ⟨g, 0, none⟩) (x.n * 512) c, .int .i64 (next : Int), .int .i64 (num : Int)] w fun e w' => e = .returned (.tuple #[.slice none 0 0, .bool false]) ∧ Below w.heap.size w w' := by
  by_cases h1 : next < x.n
  · by_cases h2 : lenIn (secL x.b next) ≤ 8192
    · by_cases h4 : next + kS (lenIn (secL x.b next)) ≤ x.n
      · obtain ⟨m, k1, k2, k3⟩ := first_bad (goodP x.b x.n next num (lenIn (secL x.b next))) (kS (lenIn (secL x.b next)))
        have hmk : m ≠ kS (lenIn (secL x.b next)) := fun e => hok ⟨h1, h2, fun p hp => k2 p (by omega)⟩
        refine (stands_m (m := m) w hI hcap h1 hxn hnum h2 h4 k1 k2 k3).mono ?_
        rintro e w' ⟨_, h5, h6⟩
        exact ⟨h5 hmk, h6⟩
      · exact stands_short w hI h1 hxn (Or.inr ⟨h2, by omega⟩)
    · exact stands_short w hI h1 hxn (Or.inl (by omega))
  · exact stands_far w (by omega) hb (by omega)
end Go.Proofs.Ytjpdcahodmomgaa
