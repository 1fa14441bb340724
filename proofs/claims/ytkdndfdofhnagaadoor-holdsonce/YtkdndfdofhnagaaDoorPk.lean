import Derived.Test.YtkdndfdofhnagaaDoorPr0
namespace Go.Proofs.YtkdndfdofhnagaaDoor
open Go.RowKit Go.PlainAid
set_option linter.unusedVariables false
set_option linter.unusedSimpArgs false
theorem num_any (e : Int) (w : World) : Calls Tryd.prog 16 #[.int .i64 e] w fun r w' => r = .returned (.int .i64 e) ∧ w' = w := by
  go_enter Tryd.func16, Tryd.ntmps16
  go_wp2
  go_ret
  exact ⟨rfl, rfl⟩
set_option maxRecDepth 100000 in
set_option maxHeartbeats 800000 in
/-- Two rows that hold the same. -/
theorem sameInts_any {L1 L2 n : Nat} {u v : Value} {zs : List Int} (w : World) (hu : w.ownsRow L1 3 1 u n (zs.map I)) (hv : w.ownsRow L2 3 1 v n (zs.map I)) (hn : n ≤ 1000000) :
    Calls Tryd.prog 32 #[u, v] w fun r w' => r = .returned (.bool true) ∧ ∃ q, w' = w.drewN q := by
  obtain ⟨ao1, cap1, rfl, _, _, hc1⟩ := own_read hu
  obtain ⟨ao2, cap2, rfl, _, _, hc2⟩ := own_read hv
  have hzl : zs.length = n := by simpa using hu.1
  clear hu hv
  go_enter Tryd.func32, Tryd.ntmps32
  go_wp2
  go_loopw [5] (fun i wr => ∃ k q : Nat, k ≤ n ∧ i = .int .i64 k ∧ wr = w.drewN q) (fun i _ => n - (intOf i).toNat)
  case atStart => exact ⟨0, 0, Nat.zero_le _, rfl, rfl⟩
  case round =>
    obtain ⟨k, q, hk, rfl, rfl⟩ := hrel
    by_cases hlt : k < n
    · obtain ⟨g1, rfl, _, _, h1⟩ := hc1 (by omega)
      obtain ⟨g2, rfl, _, _, h2⟩ := hc2 (by omega)
      obtain ⟨z, hz⟩ : ∃ z, zs[k]? = some z := ⟨zs[k]'(by omega), List.getElem?_eq_getElem _⟩
      have e1 : w.cell? ⟨g1, k, none⟩ = some (.int .i64 z) := h1 k _ (by rw [List.getElem?_map, hz]; rfl)
      have e2 : w.cell? ⟨g2, k, none⟩ = some (.int .i64 z) := h2 k _ (by rw [List.getElem?_map, hz]; rfl)
      have f1 : (w.drewN q).cell? ⟨g1, k, none⟩ = some (.int .i64 z) := e1
      have f2 : (w.drewN q).cell? ⟨g2, k, none⟩ = some (.int .i64 z) := e2
      clear hc1 hc2 h1 h2 hz hzl
      go_wp2
      go_quiet (fail)
      go_wp2
      go_roundw
      case rel => exact ⟨k + 1, _, by omega, by go_num, rfl⟩
      case measure => simp [intOf]; omega
    · go_wp2
      go_ret
      exact ⟨rfl, _, rfl⟩
def pickI (zs : List Int) (x : Int) : Int := bif zs.isEmpty then 0 else zs.getD (x % zs.length).toNat 0
theorem tmod_fix (x : Int) (n : Nat) (hn : 0 < n) : (x.tmod n < 0 → x.tmod n + n = x % n) ∧ (¬ x.tmod n < 0 → x.tmod n = x % n) ∧ -(n : Int) < x.tmod n ∧ x.tmod n < n := by
  have h1 : x.tmod n = if 0 ≤ x then x % n else -((-x) % n) := by
    split
    · rename_i h; exact Int.tmod_eq_emod_of_nonneg h
    · rename_i h
      have := Int.neg_tmod (-x) n
      rw [Int.neg_neg] at this
      rw [this, Int.tmod_eq_emod_of_nonneg (by omega)]
  have hp : (0 : Int) < n := by omega
  have a1 := Int.emod_nonneg x (show (n : Int) ≠ 0 by omega)
  have a2 := Int.emod_lt_of_pos x hp
  have b1 := Int.emod_nonneg (-x) (show (n : Int) ≠ 0 by omega)
  have b2 := Int.emod_lt_of_pos (-x) hp
  have hneg : ¬ 0 ≤ x → (-x) % n = 0 ∧ x % n = 0 ∨ (-x) % n + x % n = n := fun _ => by
    have h3 : ((-x) % n + x % n) % n = 0 := by rw [← Int.add_emod, show -x + x = 0 by omega]; exact Int.zero_emod _
    obtain ⟨c, hc⟩ := Int.dvd_of_emod_eq_zero h3
    have hc1 : c < 2 := by
      refine Decidable.byContradiction fun h4 => ?_
      have := Int.mul_le_mul_of_nonneg_left (show (2 : Int) ≤ c by omega) (show (0 : Int) ≤ n by omega)
      omega
    have hc0 : 0 ≤ c := by
      refine Decidable.byContradiction fun h4 => ?_
      have := Int.mul_le_mul_of_nonneg_left (show c ≤ (-1 : Int) by omega) (show (0 : Int) ≤ n by omega)
      omega
    have : c = 0 ∨ c = 1 := by omega
    rcases this with rfl | rfl
    · left; omega
    · right; omega
  rw [h1]
  split
  · omega
  · rename_i h
    have := hneg h
    omega
set_option maxRecDepth 100000 in
set_option maxHeartbeats 800000 in
theorem pick_any {L1 n : Nat} {u : Value} {zs : List Int} (w : World) (hu : w.ownsRow L1 3 1 u n (zs.map I)) (hn : n ≤ 1000) (x : Int) :
    Calls Tryd.prog 59 #[u, .int .i64 x] w fun r w' => r = .returned (.int .i64 (pickI zs x)) ∧ w' = w := by
  obtain ⟨ao, cap, rfl, _, _, hc⟩ := own_read hu
  have hzl : zs.length = n := by simpa using hu.1
  clear hu
  by_cases h0 : n = 0
  · have hz : zs = [] := List.length_eq_zero_iff.1 (by omega)
    subst hz
    subst h0
    show Calls Tryd.prog 59 _ w fun r w' => r = .returned (.int .i64 0) ∧ w' = w
    clear hc hzl
    go_enter Tryd.func59, Tryd.ntmps59
    go_wp2
    go_ret
    exact ⟨rfl, rfl⟩
  · obtain ⟨g, rfl, _, _, hcc⟩ := hc (by omega)
    obtain ⟨t1, t2, t3, t4⟩ := tmod_fix x n (by omega)
    have a1 := Int.emod_nonneg x (show (n : Int) ≠ 0 by omega)
    have a2 := Int.emod_lt_of_pos x (show (0 : Int) < n by omega)
    have hpk : pickI zs x = zs.getD (x % n).toNat 0 := by
      unfold pickI
      cases zs with
      | nil => simp at hzl; omega
      | cons z t => rw [hzl]; rfl
    have e1 : w.cell? ⟨g, (x % n).toNat, none⟩ = some (.int .i64 (pickI zs x)) := by
      refine hcc _ _ ?_
      rw [List.getElem?_map, hpk, List.getD_eq_getElem?_getD, List.getElem?_eq_getElem (show (x % n).toNat < zs.length by omega)]
      rfl
    have hn0 : ¬ (n : Int) = 0 := by omega
    generalize pickI zs x = y at *
    by_cases hneg : x.tmod n < 0
    · have t5 := t1 hneg
      have hw : IntKind.i64.wrap (x.tmod n + n) = x % n := by rw [t5, IntKind.wrap_i64]; omega
      have hlt : x % (n : Int) < n := a2
      clear hc hcc t1 t2 hpk hzl t5
      go_enter Tryd.func59, Tryd.ntmps59
      go_wp2
      go_ret
      exact ⟨rfl, rfl⟩
    · have t5 := t2 hneg
      clear hc hcc t1 t2 hpk hzl
      have hge : (0 : Int) ≤ x.tmod n := by omega
      have hl2 : x.tmod n < (n : Int) := by omega
      rw [← t5] at e1
      clear t5 a1 a2
      go_enter Tryd.func59, Tryd.ntmps59
      go_wp2
      go_ret
      exact ⟨rfl, rfl⟩
end Go.Proofs.YtkdndfdofhnagaaDoor
