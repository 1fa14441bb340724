import Derived.Test.YtfgnlfemckdfnaaRMsgA
import Derived.Test.YtfgnlfemckdfnaaRMsgB
import Derived.Test.YtfgnlfemckdfnaaRMsgC
import Derived.Test.YtfgnlfemckdfnaaRMsgD
import Derived.Test.YtfgnlfemckdfnaaJR
namespace Go.Proofs.Ytfgnlfemckdfnaa
open Go.RowKit Go.PlainAid
theorem VRow.mono {w : World} {base base' : Nat} {ao : Option Addr} {c : Nat} {l : List View} (h : VRow w base ao c l) (hb : base' ≤ base) : VRow w base' ao c l :=
  h.imp id fun ⟨vb, h1, h2, h3⟩ => ⟨vb, h1, Nat.le_trans hb h2, h3⟩
set_option maxRecDepth 100000 in
set_option maxHeartbeats 3200000 in
theorem msg10_r (hb b off n cap : Nat) (bs : List UInt8) (p mb : Nat) (w : World) (hS : RSt hb (some ⟨b, off, none⟩) n cap bs p w)
    (hB : Blk w mb zeroC 35) (hne : mb ≠ hb) (hne2 : b ≠ mb) (hbw : b < w.heap.size) (k1 : Nat) (hr1 : (num 1 10).rd (bs.drop p) = .ok (10, k1)) :
    Calls Try.prog 32 #[RH hb, .pointer (some ⟨mb, 0, none⟩)] w (RPostV hb mb (some ⟨b, off, none⟩) n cap bs p w (message.rd (bs.drop p)) fun m e w' => (∃ h, e = .returned h) ∧ ∃ ao c, Blk w' mb (msgCells m (.slice ao m.views.length c)) 35 ∧ VRow w' w.heap.size ao c m.views) := by
  have A1 := ahead_num_r ⟨hb, 0, none⟩
  have A2 := ahead_sig_r ⟨hb, 0, none⟩
  have B1 := bn 512 1 0
  have B2 := bn 512 2 0
  have B4 := bn 512 4 0
  have B8 := bn 512 8 0
  have B16 := bn 512 16 0
  have B32 := bn 512 32 0
  have B64 := bn 512 64 0
  have B128 := bn 512 128 0
  have B256 := bn 512 256 0
  have B512 := bn 512 512 512
  have E0 : hasOf 10 = 512 := by decide
  unfold RH
  go_enter Try.func32, Try.ntmps32
  go_wp2_with fail
  try go_region_dies
  refine (number_r hb b off n cap bs p mb 0 1 10 zeroC 35 (.int .i64 0) 1 10 _ (by first | exact hS | exact hS.drew) (by exact hB) (by rfl) hne hne2 rfl rfl (by decide) (by decide)).mono ?_
  intro e1 w1 h1
  unfold RPostV at h1
  rw [hr1] at h1
  obtain ⟨⟨rfl, hB1⟩, hS1, hsd1⟩ := h1
  have hT1 : RStep hb mb w w1 := by first | exact hsd1 | exact hsd1.ofDrew
  unfold tup
  first | (rename_i hK; refine hK _ _ ?_; refine wpAny_done (by kernel_rfl) ?_ _; clear hK) | skip
  have q0 : w1.cell? ⟨mb, 0, none⟩ = some (.int .i64 10) := by rw [hB1.cell]; rfl
  have HR1 : Hid _ := hr1
  clear hr1 hsd1
  go_wp2_with (first | (go_at_call 68; refine fo ?_) | (go_at_call 69; refine wi ?_) | fail)
  try go_region_dies
  refine (views_r hb b off n cap bs (p + k1) mb 19 _ 35 _ (by first | exact hS1 | exact hS1.drew) (by exact hB1) (by rfl) hne hne2 (by exact (Nat.lt_of_lt_of_le hbw hT1.size))).mono ?_
  intro e2 w2 h2
  unfold RPostV at h2
  cases hr2 : (views).rd (bs.drop (p + k1)) with
  | error j2 =>
    have hn : message.rd (bs.drop p) = .error (k1 + (j2)) := by simp only [message, Codec.map, Codec.bind, body10, digestC, List.drop_drop, HR1.out, hr2]
    rw [hr2] at h2
    obtain ⟨rfl, hS2, hsd2⟩ := h2
    have hst2 : RStep hb mb w1 w2 := by first | exact hsd2 | exact hsd2.ofDrew
    refine ⟨rfl, ?_⟩
    unfold RPostV
    rw [hn]
    exact ⟨rfl, by simpa only [Nat.add_assoc] using hS2, hT1.trans hst2⟩
  | ok v2 =>
    obtain ⟨l, k2⟩ := v2
    rw [hr2] at h2
    obtain ⟨⟨rfl, ao, c, hB2, hV2⟩, hS2, hsd2⟩ := h2
    have hT2 : RStep hb mb w w2 := hT1.trans (by first | exact hsd2 | exact hsd2.ofDrew)
    unfold tup
    first | (rename_i hK; refine hK _ _ ?_; refine wpAny_done (by kernel_rfl) ?_ _; clear hK) | skip
    have hn : message.rd (bs.drop p) = .ok ({ Msg.zero with kind := 10, views := l }, k1 + (k2)) := by simp only [message, Codec.map, Codec.bind, body10, digestC, List.drop_drop, HR1.out, hr2]
    have HN : Hid _ := hn
    clear hn hsd2
    go_wp2_with (first | (go_at_call 68; refine fo ?_) | (go_at_call 69; refine wi ?_) | fail)
    go_ret
    unfold RPostV
    rw [HN.out]
    exact ⟨⟨⟨_, rfl⟩, ao, c, by exact hB2, VRow.mono (by exact hV2) (by exact hT1.size)⟩, by simpa only [Nat.add_assoc] using hS2, hT2⟩
def MsgIs (w' : World) (mb base : Nat) (m : Msg) : Prop := ∃ ao c, Blk w' mb (msgCells m (.slice ao m.views.length c)) 35 ∧ VRow w' base ao c m.views
theorem msg_none {hb mb b off n cap : Nat} {bs : List UInt8} {p : Nat} {w : World} {r : Res Msg} {e : Ending} {w' : World} (base : Nat)
    (h : RPostV hb mb (some ⟨b, off, none⟩) n cap bs p w r (fun m e w' => (∃ h, e = .returned h) ∧ m.views = [] ∧ Blk w' mb (msgCells m (.slice none 0 0)) 35) e w') :
    RPostV hb mb (some ⟨b, off, none⟩) n cap bs p w r (fun m e w' => (∃ h, e = .returned h) ∧ MsgIs w' mb base m) e w' := by
  unfold RPostV at *
  cases r with
  | error k => exact h
  | ok v =>
    obtain ⟨m, k⟩ := v
    obtain ⟨⟨h1, h2, h3⟩, h4⟩ := h
    exact ⟨⟨h1, none, 0, by rw [h2]; exact h3, Or.inl ⟨h2, rfl, rfl⟩⟩, h4⟩
set_option maxRecDepth 100000 in
set_option maxHeartbeats 1600000 in
theorem message_r (hb b off n cap : Nat) (bs : List UInt8) (p mb : Nat) (w : World) (hS : RSt hb (some ⟨b, off, none⟩) n cap bs p w)
    (hB : Blk w mb zeroC 35) (hne : mb ≠ hb) (hne2 : b ≠ mb) (hbw : b < w.heap.size) :
    Calls Try.prog 32 #[RH hb, .pointer (some ⟨mb, 0, none⟩)] w (RPostV hb mb (some ⟨b, off, none⟩) n cap bs p w (message.rd (bs.drop p)) fun m e w' => (∃ h, e = .returned h) ∧ MsgIs w' mb w.heap.size m) := by
  cases hr1 : (num 1 10).rd (bs.drop p) with
  | error j =>
    have A1 := ahead_num_r ⟨hb, 0, none⟩
    have hn : message.rd (bs.drop p) = .error j := by simp only [message, Codec.map, Codec.bind, hr1]
    unfold RH
    go_enter Try.func32, Try.ntmps32
    go_wp2_with fail
    try go_region_dies
    refine (number_r hb b off n cap bs p mb 0 1 10 zeroC 35 (.int .i64 0) 1 10 _ (by first | exact hS | exact hS.drew) (by exact hB) (by rfl) hne hne2 rfl rfl (by decide) (by decide)).mono ?_
    intro e1 w1 h1
    unfold RPostV at h1
    rw [hr1] at h1
    obtain ⟨rfl, hS1, hsd1⟩ := h1
    have hT1 : RStep hb mb w w1 := by first | exact hsd1 | exact hsd1.ofDrew
    refine ⟨rfl, ?_⟩
    unfold RPostV
    rw [hn]
    exact ⟨rfl, hS1, hT1⟩
  | ok v =>
    obtain ⟨K, k1⟩ := v
    have hk := num_ok hr1
    rcases (show K = 1 ∨ K = 2 ∨ K = 3 ∨ K = 4 ∨ K = 5 ∨ K = 6 ∨ K = 7 ∨ K = 8 ∨ K = 9 ∨ K = 10 from by omega) with rfl | rfl | rfl | rfl | rfl | rfl | rfl | rfl | rfl | rfl
    · exact (msg1_r hb b off n cap bs p mb w hS hB hne hne2 hbw k1 hr1).mono fun _ _ h => msg_none _ h
    · by_cases hz : ∀ c k2 s k3 er k4, call.rd (bs.drop (p + k1)) = .ok (c, k2) → (name []).rd (bs.drop (p + k1 + k2)) = .ok (s, k3) → errno.rd (bs.drop (p + k1 + k2 + k3)) = .ok (er, k4) → er = 0
      · exact (msg2z_r hb b off n cap bs p mb w hS hB hne hne2 hbw k1 hr1 hz).mono fun _ _ h => msg_none _ h
      · by_cases hx : ∀ c k2 s k3 er k4, call.rd (bs.drop (p + k1)) = .ok (c, k2) → (name []).rd (bs.drop (p + k1 + k2)) = .ok (s, k3) → errno.rd (bs.drop (p + k1 + k2 + k3)) = .ok (er, k4) → er = 101
        · exact (msg2x_r hb b off n cap bs p mb w hS hB hne hne2 hbw k1 hr1 hx).mono fun _ _ h => msg_none _ h
        · refine (msg2n_r hb b off n cap bs p mb w hS hB hne hne2 hbw k1 hr1 ?_).mono fun _ _ h => msg_none _ h
          intro c k2 s k3 er k4 h1 h2 h3
          rw [beq_eq_false_iff_ne, beq_eq_false_iff_ne]
          refine ⟨fun e => hz ?_, fun e => hx ?_⟩
          · intro c' k2' s' k3' er' k4' g1 g2 g3
            rw [h1] at g1; cases g1
            rw [h2] at g2; cases g2
            rw [h3] at g3; cases g3
            exact e
          · intro c' k2' s' k3' er' k4' g1 g2 g3
            rw [h1] at g1; cases g1
            rw [h2] at g2; cases g2
            rw [h3] at g3; cases g3
            exact e
    · exact (msg3_r hb b off n cap bs p mb w hS hB hne hne2 hbw k1 hr1).mono fun _ _ h => msg_none _ h
    · exact (msg4_r hb b off n cap bs p mb w hS hB hne hne2 hbw k1 hr1).mono fun _ _ h => msg_none _ h
    · exact (msg5_r hb b off n cap bs p mb w hS hB hne hne2 hbw k1 hr1).mono fun _ _ h => msg_none _ h
    · exact (msg6_r hb b off n cap bs p mb w hS hB hne hne2 hbw k1 hr1).mono fun _ _ h => msg_none _ h
    · exact (msg7_r hb b off n cap bs p mb w hS hB hne hne2 hbw k1 hr1).mono fun _ _ h => msg_none _ h
    · exact (msg8_r hb b off n cap bs p mb w hS hB hne hne2 hbw k1 hr1).mono fun _ _ h => msg_none _ h
    · exact (msg9_r hb b off n cap bs p mb w hS hB hne hne2 hbw k1 hr1).mono fun _ _ h => msg_none _ h
    · exact msg10_r hb b off n cap bs p mb w hS hB hne hne2 hbw k1 hr1
end Go.Proofs.Ytfgnlfemckdfnaa
