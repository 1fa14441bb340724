import Derived.Test.YtboghanldbmfmabDoorPut
namespace Go.Proofs.YtboghanldbmfmabDoor
open Go.RowKit

def joinTo (a b c d : Nat) : Nat → Nat
  | 0 => 0
  | 1 => a
  | 2 => a + b * 256
  | 3 => a + b * 256 + c * 65536
  | _ => a + b * 256 + c * 65536 + d * 16777216

theorem or_u32 (x y M i : Nat) (hM : M = 2 ^ i) (hx : x < M) (hy : y * M < 2 ^ 32) (hx' : x < 2 ^ 32) : bits BinOp.or IntKind.u32 (x : Int) ((y : Int) * (M : Int)) = ((x + y * M : Nat) : Int) := by
  subst hM
  have := (bits_nat IntKind.u32 32 (by decide) wraps_u32 x (y * 2 ^ i) hx' hy).2
  rw [show ((y : Int) * ((2 ^ i : Nat) : Int)) = ((y * 2 ^ i : Nat) : Int) from by simp, this]
  congr 1
  rw [Nat.or_comm, Nat.mul_comm, ← Nat.two_pow_add_eq_or_of_lt hx]; omega

set_option maxHeartbeats 400000 in
theorem getSum_any (b off cap : Nat) (u0 u1 u2 u3 : UInt8) (w : World) (hA : At w b off [u0, u1, u2, u3]) :
    Calls Tryd.prog 24 #[.slice (some ⟨b, off, none⟩) 4 cap] w fun e w' => e = .returned (.int .u32 (joinTo u0.toNat u1.toNat u2.toNat u3.toNat 4 : Nat)) ∧ w' = w := by
  have hsg : IntKind.u32.signed = false := rfl
  have c0 := hA 0 u0 rfl
  have c1 := hA 1 u1 rfl
  have c2 := hA 2 u2 rfl
  have c3 := hA 3 u3 rfl
  simp only [B, Nat.add_zero] at c0 c1 c2 c3
  have b0 := byte_lt u0
  have b1 := byte_lt u1
  have b2 := byte_lt u2
  have b3 := byte_lt u3
  clear hA
  generalize u0.toNat = a0 at *
  generalize u1.toNat = a1 at *
  generalize u2.toNat = a2 at *
  generalize u3.toNat = a3 at *
  go_enter Tryd.func24, Tryd.ntmps24
  go_wp2
  go_loop [3, 5] (fun s i => ∃ k : Nat, k ≤ 4 ∧ i = .int .i64 k ∧ s = .int .u32 (joinTo a0 a1 a2 a3 k : Nat)) (fun _ i => 4 - (intOf i).toNat)
  case atStart => exact ⟨0, by omega, rfl, rfl⟩
  case round =>
    obtain ⟨k, hk, rfl, rfl⟩ := hrel
    rcases (show k = 0 ∨ k = 1 ∨ k = 2 ∨ k = 3 ∨ k = 4 from by omega) with rfl | rfl | rfl | rfl | rfl
    · simp only [joinTo]
      have h := or_u32 0 a0 1 0 rfl (by omega) (by omega) (by omega)
      rw [show ((a0 : Int) * ((1 : Nat) : Int)) = (a0 : Int) from by simp, show ((0 + a0 * 1 : Nat) : Int) = (a0 : Int) from by simp] at h
      have H : Hid (bits BinOp.or IntKind.u32 0 (a0 : Int) = (a0 : Int)) := h
      clear h
      go_wp2
      go_round
      case rel => exact ⟨1, by omega, by go_num, by rw [H.out]; rfl⟩
      case measure => simp [intOf]
    · simp only [joinTo]
      have H : Hid (bits BinOp.or IntKind.u32 (a0 : Int) ((a1 : Int) * 256) = ((a0 + a1 * 256 : Nat) : Int)) := or_u32 a0 a1 256 8 rfl (by omega) (by omega) (by omega)
      go_wp2
      go_round
      case rel => exact ⟨2, by omega, by go_num, by rw [H.out]; rfl⟩
      case measure => simp [intOf]
    · simp only [joinTo]
      have H : Hid (bits BinOp.or IntKind.u32 ((a0 : Int) + (a1 : Int) * 256) ((a2 : Int) * 65536) = ((a0 + a1 * 256 + a2 * 65536 : Nat) : Int)) := or_u32 (a0 + a1 * 256) a2 65536 16 rfl (by omega) (by omega) (by omega)
      go_wp2
      go_round
      case rel => exact ⟨3, by omega, by go_num, by rw [H.out]; rfl⟩
      case measure => simp [intOf]
    · simp only [joinTo]
      have H : Hid (bits BinOp.or IntKind.u32 ((a0 : Int) + (a1 : Int) * 256 + (a2 : Int) * 65536) ((a3 : Int) * 16777216) = ((a0 + a1 * 256 + a2 * 65536 + a3 * 16777216 : Nat) : Int)) := or_u32 (a0 + a1 * 256 + a2 * 65536) a3 16777216 24 rfl (by omega) (by omega) (by omega)
      go_wp2
      go_round
      case rel => exact ⟨4, by omega, by go_num, by rw [H.out]; rfl⟩
      case measure => simp [intOf]
    · go_wp2
      go_ret
      exact ⟨rfl, rfl⟩
end Go.Proofs.YtboghanldbmfmabDoor
