import Derived.Test.YtboghanldbmfmabDoorLend2
namespace Go.Proofs.YtboghanldbmfmabDoor
open Go.RowKit

set_option maxHeartbeats 800000 in
theorem kept_any (g n cap : Nat) (ao : Option Addr) (ps : List UInt8) (w : World) (hR : Row w g (ps ++ marks)) (hn : ps.length = n) (hm : n ≤ 65536) (hsrc : Src w ao ps) :
    Calls Tryd.prog 18 #[.slice (some ⟨g, 0, none⟩) (n + 40) (n + 40), .slice ao n cap] w fun e w' => e = .returned (.bool true) ∧ ∃ bs', bs'.length = n + 40 ∧ Row w' g bs' ∧ OnlyG g w w' := by
  have hs1 : Src w (some ⟨g, 0, none⟩) ps := by
    have h2 : Src w (some ⟨g, 0, none⟩) ((ps ++ marks).take n) := fun _ => ⟨_, rfl, fun j u hu => by
      rw [show (Addr.add ⟨g, 0, none⟩ j) = ⟨g, j, none⟩ from by unfold Addr.add; split <;> simp_all]
      refine hR.cell j u ?_
      rw [List.getElem?_take] at hu
      split at hu
      · exact hu
      · cases hu⟩
    rwa [List.take_append_of_le_length (by omega), List.take_of_length_le (by omega)] at h2
  have hto := run_to g 0 (n + 40) (n + 40) n (n : Int) rfl (by omega)
  have hbn : (((n : Int) + 40) == ((n : Int) + 40)) = true := by simp
  go_enter Tryd.func18, Tryd.ntmps18
  go_wp2_with (go_at_call 15; refine (same_any _ _ _ _ _ _ ps ps _ hn hn (by exact hs1) (by exact hsrc)).mono ?_; rintro e w1 ⟨rfl, rfl⟩)
  clear hs1 hto hbn hsrc
  have hml : (ps ++ marks).length = n + 40 := by rw [List.length_append, hn]; rfl
  go_loop [6, 7] (fun b i => ∃ q : Nat, q ≤ 40 ∧ i = .int .i64 (n + q : Nat) ∧ b = .bool true) (fun _ i => n + 40 - (intOf i).toNat)
  case atStart => exact ⟨0, by omega, rfl, rfl⟩
  case round =>
    obtain ⟨q, hq, rfl, rfl⟩ := hrel
    by_cases hlt : q < 40
    · have hc := hR.cell (n + q) (UInt8.ofNat (167 + q)) (by
        rw [List.getElem?_append_right (by omega), show n + q - ps.length = q from by omega, marks_get q hlt])
      have hv : B (UInt8.ofNat (167 + q)) = .int .u8 (167 + (q : Int)) := by rw [B]; exact val_u8 (by simp; omega)
      rw [hv] at hc
      have e1 : (167 : Int) + ((n : Int) + (q : Int)) - (n : Int) = 167 + (q : Int) := by omega
      have e2 : ((167 + (q : Int)) == (167 + (q : Int))) = true := by simp
      clear hv
      go_wp2
      go_round
      case rel => exact ⟨q + 1, by omega, by go_num, rfl⟩
      case measure => simp [intOf]; omega
    · obtain rfl : q = 40 := by omega
      go_wp2
      go_loopw [8] (fun i wr => ∃ r : Nat, r ≤ n + 40 ∧ i = .int .i64 r ∧ ∃ bs', bs'.length = n + 40 ∧ Row wr g bs' ∧ OnlyG g w1 wr) (fun i _ => n + 40 - (intOf i).toNat)
      case atStart => exact ⟨0, by omega, rfl, _, hml, hR, OnlyG.refl _ _⟩
      case round =>
        obtain ⟨r, hr, rfl, bs', hl', hR', hO⟩ := hrel
        by_cases hlt2 : r < n + 40
        · have hc := hR'.cell r _ (getD_some bs' r (by omega))
          have hfz := hR'.frozen r
          have hR2 := hR'.set r (UInt8.ofNat (91 + r))
          have hO2 := hO.setCell r (B (UInt8.ofNat (91 + r)))
          have hv : B (UInt8.ofNat (91 + r)) = .int .u8 ((91 + (r : Int)) % 256) := by rw [B]; exact val_u8 (by simp)
          rw [hv] at hR2 hO2
          simp only [B] at hc
          have hl2 : (bs'.set r (UInt8.ofNat (91 + r))).length = n + 40 := by rw [List.length_set, hl']
          generalize bs'.set r (UInt8.ofNat (91 + r)) = bs2 at *
          clear hv hR' hO hR
          generalize (bs'.getD r 0).toNat = z at *
          go_wp2
          go_roundw
          case rel => exact ⟨r + 1, by omega, by go_num, bs2, hl2, hR2, hO2⟩
          case measure => simp [intOf]; omega
        · clear hR
          go_wp2
          go_ret
          exact ⟨rfl, bs', hl', hR', hO⟩
end Go.Proofs.YtboghanldbmfmabDoor
