import Derived.Test.YtboghanldbmfmabDoorSeal
import Derived.Deep.QuietTactic
import Derived.BigQuiet
namespace Go.Proofs.YtboghanldbmfmabDoor
open Go.RowKit

theorem open_short (ao : Option Addr) (n cap : Nat) (w : World) (hm : n < 7) :
    Calls Tryd.prog 13 #[.slice ao n cap] w fun e w' => e = .returned (.tuple #[.slice none 0 0, .int .i64 10]) ∧ w' = w := by
  go_enter Tryd.func13, Tryd.ntmps13
  go_wp2
  go_ret2
  exact ⟨rfl, rfl⟩

theorem open_ver (b off m cap : Nat) (u0 : Nat) (w : World) (hm : m ≤ 100000) (hne : ((u0 : Int) != 1) = true)
    (hc : w.cell? ⟨b, off, none⟩ = some (.int .u8 (u0 : Nat))) :
    Calls Tryd.prog 13 #[.slice (some ⟨b, off, none⟩) (m + 7) cap] w fun e w' => e = .returned (.tuple #[.slice none 0 0, .int .i64 11]) ∧ w' = w := by
  go_enter Tryd.func13, Tryd.ntmps13
  go_wp2
  go_ret2
  exact ⟨rfl, rfl⟩

theorem wraps_i64 (n : Int) (h₀ : 0 ≤ n) (h₁ : n < 2 ^ 63) : IntKind.i64.wrap n = n := by rw [IntKind.wrap_i64]; omega
theorem or_i64 (x y : Nat) (hx : x < 256) (hy : y < 256) : bits BinOp.or IntKind.i64 (x : Int) ((y : Int) * 256) = ((x + y * 256 : Nat) : Int) := by
  have := (bits_nat IntKind.i64 63 (by decide) wraps_i64 x (y * 2 ^ 8) (by omega) (by omega)).2
  rw [show ((y : Int) * 256) = ((y * 2 ^ 8 : Nat) : Int) from by omega, this]
  congr 1
  rw [Nat.or_comm, Nat.mul_comm, ← Nat.two_pow_add_eq_or_of_lt hx]; omega

set_option maxHeartbeats 400000 in
theorem open_len (b off m cap : Nat) (u1 u2 told : Nat) (w : World) (hm : m ≤ 100000) (h1 : u1 < 256) (h2 : u2 < 256)
    (hc0 : w.cell? ⟨b, off, none⟩ = some (.int .u8 1)) (hc1 : w.cell? ⟨b, off + 1, none⟩ = some (.int .u8 (u1 : Nat))) (hc2 : w.cell? ⟨b, off + 2, none⟩ = some (.int .u8 (u2 : Nat)))
    (ht : u1 + u2 * 256 = told) (hbad : 4096 < told ∨ told ≠ m) :
    Calls Tryd.prog 13 #[.slice (some ⟨b, off, none⟩) (m + 7) cap] w fun e w' => e = .returned (.tuple #[.slice none 0 0, .int .i64 10]) ∧ Below w.heap.size w w' := by
  have hor := or_i64 u1 u2 h1 h2
  rw [ht] at hor
  have htl : told < 65536 := by omega
  clear ht
  by_cases hb : 4096 < told
  · go_enter Tryd.func13, Tryd.ntmps13
    go_wp2
    go_quiet (fail)
    go_wp2
    go_ret2
    exact ⟨rfl, below_drewN (Below.refl _ _) _⟩
  · have hne : ((told : Int) != (m : Int)) = true := by rw [bne_iff_ne]; omega
    have e7 : (m : Int) + 7 - 3 - 4 = (m : Int) := by omega
    clear hbad
    go_enter Tryd.func13, Tryd.ntmps13
    go_wp2
    go_quiet (fail)
    go_wp2
    go_ret2
    exact ⟨rfl, below_drewN (Below.refl _ _) _⟩

theorem run_three (b off len cap l h k : Nat) (L H K : Int) (hL : L = (l : Int)) (hH : H = (h : Int)) (hK : K = (k : Int)) (h1 : l ≤ h) (h2 : h ≤ k) (h3 : k ≤ cap) (wx : World) :
    (Instr.slice 22 (.slice (some ⟨b, off, none⟩) len cap) (some (.int .i64 L)) (some (.int .i64 H)) (some (.int .i64 K))).run Tryd.prog wx = .ok (.slice (if k = l then some ⟨b, off, none⟩ else some ⟨b, off + l, none⟩) (h - l) (k - l)) wx := by
  subst hL hH hK
  have hs : (sizeOf 5).run Tryd.prog wx = .ok 1 wx := by kernel_rfl
  simp [Instr.slice, run_underlying Tryd.underlying22, Instr.sliceBounds, Instr.sliceBound, asIntOf, h1, h2, h3, hs, go_sem]

set_option maxHeartbeats 800000 in
theorem open_sum (b off m cap : Nat) (u1 u2 : Nat) (bs : List UInt8) (t0 t1 t2 t3 : UInt8) (w : World) (hm : m ≤ 4096) (hcap : m + 7 ≤ cap) (h1 : u1 < 256) (h2 : u2 < 256)
    (hc0 : w.cell? ⟨b, off, none⟩ = some (.int .u8 1)) (hc1 : w.cell? ⟨b, off + 1, none⟩ = some (.int .u8 (u1 : Nat))) (hc2 : w.cell? ⟨b, off + 2, none⟩ = some (.int .u8 (u2 : Nat)))
    (ht : u1 + u2 * 256 = m) (hl : bs.length = m + 3) (hA : At w b off bs) (hA4 : At w b (off + (m + 3)) [t0, t1, t2, t3]) (hT : Tab w)
    (hbad : joinTo t0.toNat t1.toNat t2.toNat t3.toNat 4 ≠ sumN bs) :
    Calls Tryd.prog 13 #[.slice (some ⟨b, off, none⟩) (m + 7) cap] w fun e w' => e = .returned (.tuple #[.slice none 0 0, .int .i64 12]) ∧ Below w.heap.size w w' := by
  have hor := or_i64 u1 u2 h1 h2
  rw [ht] at hor
  clear ht
  have hs1 := run_from b off (m + 7) cap (m + 3) (3 + (m : Int)) (by omega) (by omega) (by omega)
  have hs2 := run_to b off (m + 7) cap (m + 3) (3 + (m : Int)) (by omega) (by omega)
  rw [show m + 7 - (m + 3) = 4 from by omega] at hs1
  have hne : (((joinTo t0.toNat t1.toNat t2.toNat t3.toNat 4 : Nat) : Int) != ((sumN bs : Nat) : Int)) = true := by rw [bne_iff_ne]; omega
  clear hbad
  have e7 : (m : Int) + 7 - 3 - 4 = (m : Int) := by omega
  have t5 : (0 : Int) ≤ 3 + (m : Int) := by omega
  have t6 : IntKind.i64.wrap (3 + (m : Int)) = 3 + (m : Int) := by rw [IntKind.wrap_i64]; omega
  go_enter Tryd.func13, Tryd.ntmps13
  go_wp2
  go_quiet (fail)
  go_wp2
  go_quiet ((first | (go_at_call 24; refine (getSum_any _ _ _ t0 t1 t2 t3 _ (by exact hA4)).mono ?_; rintro e w' ⟨rfl, rfl⟩; exact ⟨rfl, _, rfl⟩) | (go_at_call 23; refine (sum_any _ _ _ _ bs _ hl (by omega) (by exact hA) (by exact hT)).mono ?_; rintro e w' ⟨rfl, rfl⟩; exact ⟨rfl, _, rfl⟩)))
  go_wp2
  go_ret2
  exact ⟨rfl, below_drewN (below_drewN (Below.refl _ _) _) _⟩

set_option maxHeartbeats 800000 in
theorem open_ok (b off m cap : Nat) (u1 u2 : Nat) (bs ps : List UInt8) (t0 t1 t2 t3 : UInt8) (w : World) (hm : m ≤ 4096) (hcap : m + 7 ≤ cap) (h1 : u1 < 256) (h2 : u2 < 256)
    (hc0 : w.cell? ⟨b, off, none⟩ = some (.int .u8 1)) (hc1 : w.cell? ⟨b, off + 1, none⟩ = some (.int .u8 (u1 : Nat))) (hc2 : w.cell? ⟨b, off + 2, none⟩ = some (.int .u8 (u2 : Nat)))
    (ht : u1 + u2 * 256 = m) (hl : bs.length = m + 3) (hA : At w b off bs) (hA4 : At w b (off + (m + 3)) [t0, t1, t2, t3]) (hT : Tab w)
    (hgood : joinTo t0.toNat t1.toNat t2.toNat t3.toNat 4 = sumN bs) (hlp : ps.length = m) (hAp : At w b (off + 3) ps) :
    Calls Tryd.prog 13 #[.slice (some ⟨b, off, none⟩) (m + 7) cap] w fun e w' => e = .returned (.tuple #[.slice (some ⟨w.heap.size, 0, none⟩) m m, .int .i64 0]) ∧ Row w' w.heap.size ps ∧ Below w.heap.size w w' := by
  have hor := or_i64 u1 u2 h1 h2
  rw [ht] at hor
  clear ht
  obtain ⟨i0, hi, hz0, hz1, hz2⟩ := info_parts Tryd.info5
  have hs1 := run_from b off (m + 7) cap (m + 3) (3 + (m : Int)) (by omega) (by omega) (by omega)
  have hs2 := run_to b off (m + 7) cap (m + 3) (3 + (m : Int)) (by omega) (by omega)
  rw [show m + 7 - (m + 3) = 4 from by omega] at hs1
  obtain ⟨ao, hs3, hao⟩ : ∃ ao, (∀ wx, (Instr.slice 22 (.slice (some ⟨b, off, none⟩) (m + 7) cap) (some (.int .i64 3)) (some (.int .i64 (3 + (m : Int)))) (some (.int .i64 (3 + (m : Int))))).run Tryd.prog wx = .ok (.slice ao m m) wx) ∧ (0 < m → ao = some ⟨b, off + 3, none⟩) := by
    refine ⟨_, fun wx => (run_three b off (m + 7) cap 3 (m + 3) (m + 3) 3 (3 + (m : Int)) (3 + (m : Int)) (by omega) (by omega) (by omega) (by omega) (by omega) (by omega) wx).trans (by rw [Nat.add_sub_cancel]), fun h => ?_⟩
    rw [if_neg (by omega)]
  have HA : Hid (0 < m → ao = some ⟨b, off + 3, none⟩) := hao
  clear hao
  have hne : (((joinTo t0.toNat t1.toNat t2.toNat t3.toNat 4 : Nat) : Int) != ((sumN bs : Nat) : Int)) = false := by rw [hgood]; simp
  clear hgood
  have e7 : (m : Int) + 7 - 3 - 4 = (m : Int) := by omega
  have t5 : (0 : Int) ≤ 3 + (m : Int) := by omega
  have t6 : IntKind.i64.wrap (3 + (m : Int)) = 3 + (m : Int) := by rw [IntKind.wrap_i64]; omega
  go_enter Tryd.func13, Tryd.ntmps13
  go_wp2
  go_quiet (fail)
  go_wp2
  go_quiet ((first | (go_at_call 24; refine (getSum_any _ _ _ t0 t1 t2 t3 _ (by exact hA4)).mono ?_; rintro e w' ⟨rfl, rfl⟩; exact ⟨rfl, _, rfl⟩) | (go_at_call 23; refine (sum_any _ _ _ _ bs _ hl (by omega) (by exact hA) (by exact hT)).mono ?_; rintro e w' ⟨rfl, rfl⟩; exact ⟨rfl, _, rfl⟩)))
  clear hs1 hs2 hor hne hc0 hc1 hc2 t6 t5
  go_wp2_with (first
    | (at_make; go_must (refine wpList_make_full _ rfl _ _ 22 rfl w.heap.size 5 i0 _ 1 Tryd.underlying22 hi hz0 hz1 _ _ _ _ m rfl rfl (by omega) (by omega) (by rw [hz2]; omega) (by unfold maxLen; omega) (Nat.le_refl _) ?_))
    | fail)
  intro w1 hown1 hg1
  have hR1 : Row w1 w.heap.size (List.replicate m 0) := by
    refine row_of_owns (base := w.heap.size) (n := m) ?_
    have e : (madeCells #[Value.int .u8 0] m).toList = (List.replicate m (0 : UInt8)).map B := by
      rw [toList_madeCells_one, List.map_replicate]; rfl
    rw [← e]
    exact hown1
  have hb1 : Below w.heap.size w w1 := (below_drewN (Below.refl _ _) _).grown hg1 (Nat.le_refl _) (fun k h => by cases h)
  clear hown1 hg1 hi hz0 hz1 hz2
  obtain ⟨w2, hcopy, hR2, hb2⟩ := copy_run (ao := ao) (dLen := m) (dCap := m) (off := 0) (cap := m) (ps := ps) hR1 hlp (Nat.le_refl _) (by simp) hb1 (Nat.le_refl _)
    (src_below rfl hb1 (fun h => ⟨⟨b, off + 3, none⟩, HA.out h, fun j u hu => by
      have := hAp j u hu
      rw [show (Addr.add ⟨b, off + 3, none⟩ j) = ⟨b, off + 3 + j, none⟩ from by unfold Addr.add; split <;> simp_all]
      exact this⟩))
  have e2 : splice (List.replicate m 0) 0 ps = ps := by simp [splice, hlp]
  rw [e2] at hR2
  clear hR1 hb1 hA hA4 hT hAp e2
  go_wp2
  go_ret2
  exact ⟨rfl, hR2, hb2⟩
end Go.Proofs.YtboghanldbmfmabDoor
