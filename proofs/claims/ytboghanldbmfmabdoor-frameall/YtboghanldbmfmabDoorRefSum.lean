import Derived.Test.YtboghanldbmfmabDoorRefMath
namespace Go.Proofs.YtboghanldbmfmabDoor
open Go.RowKit

theorem bits_xor_i64 (a b : Nat) (ha : a < 2 ^ 32) (hb : b < 2 ^ 32) : bits BinOp.xor IntKind.i64 (a : Int) (b : Int) = ((a ^^^ b : Nat) : Int) := by
  have hx : a ^^^ b < 2 ^ 32 := Nat.xor_lt_two_pow ha hb
  have ha' : a % 2 ^ IntKind.i64.bits = a := Nat.mod_eq_of_lt (by show a < 2 ^ 64; omega)
  have hb' : b % 2 ^ IntKind.i64.bits = b := Nat.mod_eq_of_lt (by show b < 2 ^ 64; omega)
  simp only [bits, BitVec.ofInt_natCast, BitVec.toNat_xor, BitVec.toNat_ofNat, ha', hb']
  exact wraps_i64 _ (Int.natCast_nonneg _) (by omega)

theorem ret_i64' {a b : Int} (h : a = b) : Ending.returned (.int .i64 a) = .returned (.int .i64 b) := by rw [h]

set_option maxHeartbeats 800000 in
theorem refSum_any (b off n cap : Nat) (bs : List UInt8) (w : World) (hn : bs.length = n) (hm : n ≤ 100000) (hA : At w b off bs) :
    Calls Tryd.prog 21 #[.slice (some ⟨b, off, none⟩) n cap] w fun e w' => e = .returned (.int .i64 (sumN bs : Nat)) ∧ w' = w := by
  go_enter Tryd.func21, Tryd.ntmps21
  go_wp2
  go_loop [3, 4] (fun s i => ∃ k : Nat, k ≤ n ∧ i = .int .i64 k ∧ s = .int .i64 (crc 4294967295 (bs.take k) : Nat)) (fun _ i => n - (intOf i).toNat)
  case atStart => exact ⟨0, by omega, rfl, rfl⟩
  case round =>
    obtain ⟨k, hk, rfl, rfl⟩ := hrel
    have hsl : crc 4294967295 (bs.take k) < 2 ^ 32 := crc_lt (by decide) _
    by_cases hlt : k < n
    · obtain ⟨u, hu⟩ : ∃ u, bs[k]? = some u := ⟨bs[k]'(by omega), by simp [List.getElem?_eq_getElem (by omega : k < bs.length)]⟩
      have hc := hA k u hu
      simp only [B] at hc
      have HS : Hid (crc 4294967295 (bs.take (k + 1)) = stepB (crc 4294967295 (bs.take k)) u) := crc_take_succ bs k u hu _
      clear hu hA
      generalize crc 4294967295 (bs.take k) = s at *
      have hub := byte_lt u
      have HS' : Hid (crc 4294967295 (bs.take (k + 1)) = (refK s u.toNat 8).1) := by rw [refK_8]; exact HS.out
      clear HS
      generalize u.toNat = uv at *
      go_wp2
      clear hc
      go_loop [3, 5, 6] (fun a c i => ∃ q : Nat, q ≤ 8 ∧ i = .int .i64 q ∧ a = .int .i64 ((refK s uv q).1 : Nat) ∧ c = .int .i64 ((refK s uv q).2 : Nat)) (fun _ _ i => 8 - (intOf i).toNat)
      case atStart => exact ⟨0, by omega, rfl, rfl, rfl⟩
      case round =>
        obtain ⟨q, hq, rfl, rfl, rfl⟩ := hrel
        have hl := refK_lt uv q hsl
        have hcl := refK_le s uv q
        by_cases hlq : q < 8
        · have HA : Hid ((refK s uv (q + 1)).1 = refS (refK s uv q).1 (refK s uv q).2) := rfl
          have HC : Hid ((refK s uv (q + 1)).2 = (refK s uv q).2 / 2) := rfl
          clear HS'
          generalize (refK s uv q).1 = A at *
          generalize (refK s uv q).2 = C at *
          by_cases hodd : (A + C) % 2 = 1
          · have hb : ((((A : Int) + (C : Int)) % 2) == 1) = true := by rw [beq_iff_eq]; omega
            have hx : bits BinOp.xor IntKind.i64 ((A : Int) / 2) 3988292384 = ((A / 2 ^^^ 3988292384 : Nat) : Int) := by
              rw [show ((A : Int) / 2) = ((A / 2 : Nat) : Int) from by omega]
              exact bits_xor_i64 (A / 2) 3988292384 (by omega) (by decide)
            have HA' : Hid ((refK s uv (q + 1)).1 = A / 2 ^^^ 3988292384) := by
              have := HA.out
              unfold refS at this
              rwa [if_pos hodd] at this
            clear HA hodd
            go_wp2
            go_round
            case rel => exact ⟨q + 1, by omega, by go_num, by rw [HA'.out], by rw [HC.out]; go_num⟩
            case measure => simp [intOf]; omega
          · have hb : ((((A : Int) + (C : Int)) % 2) == 1) = false := by rw [beq_eq_false_iff_ne]; omega
            have HA' : Hid ((refK s uv (q + 1)).1 = A / 2) := by
              have := HA.out
              unfold refS at this
              rwa [if_neg hodd] at this
            clear HA hodd
            go_wp2
            go_round
            case rel => exact ⟨q + 1, by omega, by go_num, by rw [HA'.out]; go_num, by rw [HC.out]; go_num⟩
            case measure => simp [intOf]; omega
        · have hq8 : q = 8 := by omega
          subst hq8
          go_wp2
          go_round
          case rel => exact ⟨k + 1, by omega, by go_num, by rw [HS'.out]⟩
          case measure => simp [intOf]; omega
    · have HF : Hid (4294967295 - crc 4294967295 (bs.take k) = sumN bs) := by
        rw [sub_ones _ hsl, List.take_of_length_le (by omega)]; rfl
      go_wp2
      go_ret
      exact ⟨ret_i64' (by rw [← HF.out]; omega), rfl⟩
end Go.Proofs.YtboghanldbmfmabDoor
