import Derived.Test.YtfgnlfemckdfnaaJD
namespace Go.Proofs.Ytfgnlfemckdfnaa
open Go.RowKit Go.PlainAid
set_option maxRecDepth 100000 in
set_option maxHeartbeats 3200000 in
theorem msg3_r (hb b off n cap : Nat) (bs : List UInt8) (p mb : Nat) (w : World) (hS : RSt hb (some ⟨b, off, none⟩) n cap bs p w)
    (hB : Blk w mb zeroC 35) (hne : mb ≠ hb) (hne2 : b ≠ mb) (hbw : b < w.heap.size) (k1 : Nat) (hr1 : (num 1 10).rd (bs.drop p) = .ok (3, k1)) :
    Calls Try.prog 32 #[RH hb, .pointer (some ⟨mb, 0, none⟩)] w (RPostV hb mb (some ⟨b, off, none⟩) n cap bs p w (message.rd (bs.drop p)) fun m e w' => (∃ h, e = .returned h) ∧ m.views = [] ∧ Blk w' mb (msgCells m (.slice none 0 0)) 35) := by
  have A1 := ahead_num_r ⟨hb, 0, none⟩
  have A2 := ahead_sig_r ⟨hb, 0, none⟩
  have B1 := bn 52 1 0
  have B2 := bn 52 2 0
  have B4 := bn 52 4 4
  have B8 := bn 52 8 0
  have B16 := bn 52 16 16
  have B32 := bn 52 32 32
  have B64 := bn 52 64 0
  have B128 := bn 52 128 0
  have B256 := bn 52 256 0
  have B512 := bn 52 512 0
  have E0 : hasOf 3 = 52 := by decide
  unfold RH
  go_enter Try.func32, Try.ntmps32
  go_wp2_with fail
  try go_region_dies
  refine (number_r hb b off n cap bs p mb 0 1 10 zeroC 35 (.int .i64 0) 1 10 _ (by first | exact hS | exact hS.drew) (by exact hB) (by rfl) hne hne2 rfl rfl (by decide) (by decide)).mono ?_
  intro e1 w1 h1
  unfold RPostV at h1
  rw [hr1] at h1
  obtain ⟨⟨rfl, hB1⟩, hS1, hsd1⟩ := h1
  have hT1 : RStep hb mb w w1 := by first | exact hsd1 | exact hsd1.ofDrew
  unfold tup
  first | (rename_i hK; refine hK _ _ ?_; refine wpAny_done (by kernel_rfl) ?_ _; clear hK) | skip
  have q0 : w1.cell? ⟨mb, 0, none⟩ = some (.int .i64 3) := by rw [hB1.cell]; rfl
  have HR1 : Hid _ := hr1
  clear hr1 hsd1
  go_wp2_with (first | (go_at_call 68; refine fo ?_) | (go_at_call 69; refine wi ?_) | fail)
  try go_region_dies
  refine (name_r hb b off n cap bs (p + k1) mb (1) _ 35 [] [] _ (by first | exact hS1 | exact hS1.drew) (by exact hB1) (by rfl) hne hne2 (by exact (Nat.lt_of_lt_of_le hbw hT1.size))).mono ?_
  intro e2 w2 h2
  unfold RPostV at h2
  cases hr2 : (name []).rd (bs.drop (p + k1)) with
  | error j2 =>
    have hn : message.rd (bs.drop p) = .error (k1 + (j2)) := by simp only [message, Codec.map, Codec.bind, pair, body3, markC, List.drop_drop, HR1.out, hr2]
    rw [hr2] at h2
    obtain ⟨rfl, hS2, hsd2⟩ := h2
    have hst2 : RStep hb mb w1 w2 := by first | exact hsd2 | exact hsd2.ofDrew
    refine ⟨rfl, ?_⟩
    unfold RPostV
    rw [hn]
    exact ⟨rfl, by simpa only [Nat.add_assoc] using hS2, hT1.trans hst2⟩
  | ok v2 =>
    obtain ⟨z1, k2⟩ := v2
    rw [hr2] at h2
    obtain ⟨⟨rfl, hB2⟩, hS2, hsd2⟩ := h2
    have hT2 : RStep hb mb w w2 := hT1.trans (by first | exact hsd2 | exact hsd2.ofDrew)
    unfold tup
    first | (rename_i hK; refine hK _ _ ?_; refine wpAny_done (by kernel_rfl) ?_ _; clear hK) | skip
    have HR2 : Hid _ := hr2
    clear hr2 hsd2
    go_wp2_with (first | (go_at_call 68; refine fo ?_) | (go_at_call 69; refine wi ?_) | fail)
    try go_region_dies
    refine (caps_r hb b off n cap bs (p + k1 + k2) mb (2) (3) _ 35 (.int .i64 0) (.int .i64 0) _ (by first | exact hS2 | exact hS2.drew) (by exact hB2) (by rfl) (by rfl) (by omega) hne hne2 (by exact (Nat.lt_of_lt_of_le hbw hT2.size))).mono ?_
    intro e3 w3 h3
    unfold RPostV at h3
    cases hr3 : (caps).rd (bs.drop (p + k1 + k2)) with
    | error j3 =>
      have hn : message.rd (bs.drop p) = .error (k1 + (k2 + (j3))) := by simp only [message, Codec.map, Codec.bind, pair, body3, markC, List.drop_drop, ← Nat.add_assoc, HR1.out, HR2.out, hr3]
      rw [hr3] at h3
      obtain ⟨rfl, hS3, hsd3⟩ := h3
      have hst3 : RStep hb mb w2 w3 := by first | exact hsd3 | exact hsd3.ofDrew
      refine ⟨rfl, ?_⟩
      unfold RPostV
      rw [hn]
      exact ⟨rfl, by simpa only [Nat.add_assoc] using hS3, hT2.trans hst3⟩
    | ok v3 =>
      obtain ⟨⟨z2, z3⟩, k3⟩ := v3
      rw [hr3] at h3
      obtain ⟨⟨rfl, hB3⟩, hS3, hsd3⟩ := h3
      have hT3 : RStep hb mb w w3 := hT2.trans (by first | exact hsd3 | exact hsd3.ofDrew)
      unfold tup
      first | (rename_i hK; refine hK _ _ ?_; refine wpAny_done (by kernel_rfl) ?_ _; clear hK) | skip
      have HR3 : Hid _ := hr3
      clear hr3 hsd3
      go_wp2_with (first | (go_at_call 68; refine fo ?_) | (go_at_call 69; refine wi ?_) | fail)
      try go_region_dies
      refine (epoch_r hb b off n cap bs (p + k1 + k2 + k3) mb (4) _ 35 (.int .i64 0) (.int .i64 0) _ (by first | exact hS3 | exact hS3.drew) (by exact hB3) (by rfl) (by rfl) hne hne2 (by exact (Nat.lt_of_lt_of_le hbw hT3.size))).mono ?_
      intro e4 w4 h4
      unfold RPostV at h4
      cases hr4 : (epoch).rd (bs.drop (p + k1 + k2 + k3)) with
      | error j4 =>
        have hn : message.rd (bs.drop p) = .error (k1 + (k2 + (k3 + (j4)))) := by simp only [message, Codec.map, Codec.bind, pair, body3, markC, List.drop_drop, ← Nat.add_assoc, HR1.out, HR2.out, HR3.out, hr4]
        rw [hr4] at h4
        obtain ⟨rfl, hS4, hsd4⟩ := h4
        have hst4 : RStep hb mb w3 w4 := by first | exact hsd4 | exact hsd4.ofDrew
        refine ⟨rfl, ?_⟩
        unfold RPostV
        rw [hn]
        exact ⟨rfl, by simpa only [Nat.add_assoc] using hS4, hT3.trans hst4⟩
      | ok v4 =>
        obtain ⟨⟨z4, z5⟩, k4⟩ := v4
        rw [hr4] at h4
        obtain ⟨⟨rfl, hB4⟩, hS4, hsd4⟩ := h4
        have hT4 : RStep hb mb w w4 := hT3.trans (by first | exact hsd4 | exact hsd4.ofDrew)
        unfold tup
        first | (rename_i hK; refine hK _ _ ?_; refine wpAny_done (by kernel_rfl) ?_ _; clear hK) | skip
        have hn : message.rd (bs.drop p) = .ok ({ Msg.zero with kind := 3, name := z1, cap := z2, recaps := z3, round := z4, rank := z5 }, k1 + (k2 + (k3 + (k4)))) := by simp only [message, Codec.map, Codec.bind, pair, body3, markC, List.drop_drop, ← Nat.add_assoc, HR1.out, HR2.out, HR3.out, hr4]
        have HN : Hid _ := hn
        clear hn hsd4
        go_wp2_with (first | (go_at_call 68; refine fo ?_) | (go_at_call 69; refine wi ?_) | fail)
        go_ret
        unfold RPostV
        rw [HN.out]
        exact ⟨⟨⟨_, rfl⟩, rfl, by exact hB4⟩, by simpa only [Nat.add_assoc] using hS4, hT4⟩
set_option maxRecDepth 100000 in
set_option maxHeartbeats 3200000 in
theorem msg1_r (hb b off n cap : Nat) (bs : List UInt8) (p mb : Nat) (w : World) (hS : RSt hb (some ⟨b, off, none⟩) n cap bs p w)
    (hB : Blk w mb zeroC 35) (hne : mb ≠ hb) (hne2 : b ≠ mb) (hbw : b < w.heap.size) (k1 : Nat) (hr1 : (num 1 10).rd (bs.drop p) = .ok (1, k1)) :
    Calls Try.prog 32 #[RH hb, .pointer (some ⟨mb, 0, none⟩)] w (RPostV hb mb (some ⟨b, off, none⟩) n cap bs p w (message.rd (bs.drop p)) fun m e w' => (∃ h, e = .returned h) ∧ m.views = [] ∧ Blk w' mb (msgCells m (.slice none 0 0)) 35) := by
  have A1 := ahead_num_r ⟨hb, 0, none⟩
  have A2 := ahead_sig_r ⟨hb, 0, none⟩
  have B1 := bn 3 1 1
  have B2 := bn 3 2 2
  have B4 := bn 3 4 0
  have B8 := bn 3 8 0
  have B16 := bn 3 16 0
  have B32 := bn 3 32 0
  have B64 := bn 3 64 0
  have B128 := bn 3 128 0
  have B256 := bn 3 256 0
  have B512 := bn 3 512 0
  have E0 : hasOf 1 = 3 := by decide
  unfold RH
  go_enter Try.func32, Try.ntmps32
  go_wp2_with fail
  try go_region_dies
  refine (number_r hb b off n cap bs p mb 0 1 10 zeroC 35 (.int .i64 0) 1 10 _ (by first | exact hS | exact hS.drew) (by exact hB) (by rfl) hne hne2 rfl rfl (by decide) (by decide)).mono ?_
  intro e1 w1 h1
  unfold RPostV at h1
  rw [hr1] at h1
  obtain ⟨⟨rfl, hB1⟩, hS1, hsd1⟩ := h1
  have hT1 : RStep hb mb w w1 := by first | exact hsd1 | exact hsd1.ofDrew
  unfold tup
  first | (rename_i hK; refine hK _ _ ?_; refine wpAny_done (by kernel_rfl) ?_ _; clear hK) | skip
  have q0 : w1.cell? ⟨mb, 0, none⟩ = some (.int .i64 1) := by rw [hB1.cell]; rfl
  have HR1 : Hid _ := hr1
  clear hr1 hsd1
  go_wp2_with (first | (go_at_call 68; refine fo ?_) | (go_at_call 69; refine wi ?_) | fail)
  try go_region_dies
  refine (call_r hb b off n cap bs (p + k1) mb (11) _ 35 (.int .i64 0) (.int .i64 0) _ (by first | exact hS1 | exact hS1.drew) (by exact hB1) (by rfl) (by rfl) hne hne2 (by exact (Nat.lt_of_lt_of_le hbw hT1.size))).mono ?_
  intro e2 w2 h2
  unfold RPostV at h2
  cases hr2 : (call).rd (bs.drop (p + k1)) with
  | error j2 =>
    have hn : message.rd (bs.drop p) = .error (k1 + (j2)) := by simp only [message, Codec.map, Codec.bind, pair, body1, askC, List.drop_drop, HR1.out, hr2]
    rw [hr2] at h2
    obtain ⟨rfl, hS2, hsd2⟩ := h2
    have hst2 : RStep hb mb w1 w2 := by first | exact hsd2 | exact hsd2.ofDrew
    refine ⟨rfl, ?_⟩
    unfold RPostV
    rw [hn]
    exact ⟨rfl, by simpa only [Nat.add_assoc] using hS2, hT1.trans hst2⟩
  | ok v2 =>
    obtain ⟨⟨y1, y2⟩, k2⟩ := v2
    rw [hr2] at h2
    obtain ⟨⟨rfl, hB2⟩, hS2, hsd2⟩ := h2
    have hT2 : RStep hb mb w w2 := hT1.trans (by first | exact hsd2 | exact hsd2.ofDrew)
    unfold tup
    first | (rename_i hK; refine hK _ _ ?_; refine wpAny_done (by kernel_rfl) ?_ _; clear hK) | skip
    have HR2 : Hid _ := hr2
    clear hr2 hsd2
    go_wp2_with (first | (go_at_call 68; refine fo ?_) | (go_at_call 69; refine wi ?_) | fail)
    try go_region_dies
    refine (op_r hb b off n cap bs (p + k1 + k2) mb 13 _ 35 (.int .i64 0) [] (.int .i64 0) (.int .i64 0) _ (by first | exact hS2 | exact hS2.drew) (by exact hB2) (by rfl) (by rfl) (by rfl) (by rfl) hne hne2 (by exact (Nat.lt_of_lt_of_le hbw hT2.size))).mono ?_
    intro e3 w3 h3
    unfold RPostV at h3
    cases hr3 : (op).rd (bs.drop (p + k1 + k2)) with
    | error j3 =>
      have hn : message.rd (bs.drop p) = .error (k1 + (k2 + (j3))) := by simp only [message, Codec.map, Codec.bind, pair, body1, askC, List.drop_drop, ← Nat.add_assoc, HR1.out, HR2.out, hr3]
      rw [hr3] at h3
      obtain ⟨rfl, hS3, hsd3⟩ := h3
      have hst3 : RStep hb mb w2 w3 := by first | exact hsd3 | exact hsd3.ofDrew
      refine ⟨rfl, ?_⟩
      unfold RPostV
      rw [hn]
      exact ⟨rfl, by simpa only [Nat.add_assoc] using hS3, hT2.trans hst3⟩
    | ok v3 =>
      obtain ⟨⟨y3, y4, y5, y6⟩, k3⟩ := v3
      rw [hr3] at h3
      obtain ⟨⟨rfl, hB3⟩, hS3, hsd3⟩ := h3
      have hT3 : RStep hb mb w w3 := hT2.trans (by first | exact hsd3 | exact hsd3.ofDrew)
      unfold tup
      first | (rename_i hK; refine hK _ _ ?_; refine wpAny_done (by kernel_rfl) ?_ _; clear hK) | skip
      have hn : message.rd (bs.drop p) = .ok ({ Msg.zero with kind := 1, session := y1, id := y2, okind := y3, oname := y4, oa := y5, ob := y6 }, k1 + (k2 + (k3))) := by simp only [message, Codec.map, Codec.bind, pair, body1, askC, List.drop_drop, ← Nat.add_assoc, HR1.out, HR2.out, hr3]
      have HN : Hid _ := hn
      clear hn hsd3
      go_wp2_with (first | (go_at_call 68; refine fo ?_) | (go_at_call 69; refine wi ?_) | fail)
      go_ret
      unfold RPostV
      rw [HN.out]
      exact ⟨⟨⟨_, rfl⟩, rfl, by exact hB3⟩, by simpa only [Nat.add_assoc] using hS3, hT3⟩
set_option maxRecDepth 100000 in
set_option maxHeartbeats 3200000 in
theorem msg4_r (hb b off n cap : Nat) (bs : List UInt8) (p mb : Nat) (w : World) (hS : RSt hb (some ⟨b, off, none⟩) n cap bs p w)
    (hB : Blk w mb zeroC 35) (hne : mb ≠ hb) (hne2 : b ≠ mb) (hbw : b < w.heap.size) (k1 : Nat) (hr1 : (num 1 10).rd (bs.drop p) = .ok (4, k1)) :
    Calls Try.prog 32 #[RH hb, .pointer (some ⟨mb, 0, none⟩)] w (RPostV hb mb (some ⟨b, off, none⟩) n cap bs p w (message.rd (bs.drop p)) fun m e w' => (∃ h, e = .returned h) ∧ m.views = [] ∧ Blk w' mb (msgCells m (.slice none 0 0)) 35) := by
  have A1 := ahead_num_r ⟨hb, 0, none⟩
  have A2 := ahead_sig_r ⟨hb, 0, none⟩
  have B1 := bn 244 1 0
  have B2 := bn 244 2 0
  have B4 := bn 244 4 4
  have B8 := bn 244 8 0
  have B16 := bn 244 16 16
  have B32 := bn 244 32 32
  have B64 := bn 244 64 64
  have B128 := bn 244 128 128
  have B256 := bn 244 256 0
  have B512 := bn 244 512 0
  have E0 : hasOf 4 = 244 := by decide
  unfold RH
  go_enter Try.func32, Try.ntmps32
  go_wp2_with fail
  try go_region_dies
  refine (number_r hb b off n cap bs p mb 0 1 10 zeroC 35 (.int .i64 0) 1 10 _ (by first | exact hS | exact hS.drew) (by exact hB) (by rfl) hne hne2 rfl rfl (by decide) (by decide)).mono ?_
  intro e1 w1 h1
  unfold RPostV at h1
  rw [hr1] at h1
  obtain ⟨⟨rfl, hB1⟩, hS1, hsd1⟩ := h1
  have hT1 : RStep hb mb w w1 := by first | exact hsd1 | exact hsd1.ofDrew
  unfold tup
  first | (rename_i hK; refine hK _ _ ?_; refine wpAny_done (by kernel_rfl) ?_ _; clear hK) | skip
  have q0 : w1.cell? ⟨mb, 0, none⟩ = some (.int .i64 4) := by rw [hB1.cell]; rfl
  have HR1 : Hid _ := hr1
  clear hr1 hsd1
  go_wp2_with (first | (go_at_call 68; refine fo ?_) | (go_at_call 69; refine wi ?_) | fail)
  try go_region_dies
  refine (name_r hb b off n cap bs (p + k1) mb (1) _ 35 [] [] _ (by first | exact hS1 | exact hS1.drew) (by exact hB1) (by rfl) hne hne2 (by exact (Nat.lt_of_lt_of_le hbw hT1.size))).mono ?_
  intro e2 w2 h2
  unfold RPostV at h2
  cases hr2 : (name []).rd (bs.drop (p + k1)) with
  | error j2 =>
    have hn : message.rd (bs.drop p) = .error (k1 + (j2)) := by simp only [message, Codec.map, Codec.bind, pair, body4, yieldC, List.drop_drop, HR1.out, hr2]
    rw [hr2] at h2
    obtain ⟨rfl, hS2, hsd2⟩ := h2
    have hst2 : RStep hb mb w1 w2 := by first | exact hsd2 | exact hsd2.ofDrew
    refine ⟨rfl, ?_⟩
    unfold RPostV
    rw [hn]
    exact ⟨rfl, by simpa only [Nat.add_assoc] using hS2, hT1.trans hst2⟩
  | ok v2 =>
    obtain ⟨z1, k2⟩ := v2
    rw [hr2] at h2
    obtain ⟨⟨rfl, hB2⟩, hS2, hsd2⟩ := h2
    have hT2 : RStep hb mb w w2 := hT1.trans (by first | exact hsd2 | exact hsd2.ofDrew)
    unfold tup
    first | (rename_i hK; refine hK _ _ ?_; refine wpAny_done (by kernel_rfl) ?_ _; clear hK) | skip
    have HR2 : Hid _ := hr2
    clear hr2 hsd2
    go_wp2_with (first | (go_at_call 68; refine fo ?_) | (go_at_call 69; refine wi ?_) | fail)
    try go_region_dies
    refine (caps_r hb b off n cap bs (p + k1 + k2) mb (2) (3) _ 35 (.int .i64 0) (.int .i64 0) _ (by first | exact hS2 | exact hS2.drew) (by exact hB2) (by rfl) (by rfl) (by omega) hne hne2 (by exact (Nat.lt_of_lt_of_le hbw hT2.size))).mono ?_
    intro e3 w3 h3
    unfold RPostV at h3
    cases hr3 : (caps).rd (bs.drop (p + k1 + k2)) with
    | error j3 =>
      have hn : message.rd (bs.drop p) = .error (k1 + (k2 + (j3))) := by simp only [message, Codec.map, Codec.bind, pair, body4, yieldC, List.drop_drop, ← Nat.add_assoc, HR1.out, HR2.out, hr3]
      rw [hr3] at h3
      obtain ⟨rfl, hS3, hsd3⟩ := h3
      have hst3 : RStep hb mb w2 w3 := by first | exact hsd3 | exact hsd3.ofDrew
      refine ⟨rfl, ?_⟩
      unfold RPostV
      rw [hn]
      exact ⟨rfl, by simpa only [Nat.add_assoc] using hS3, hT2.trans hst3⟩
    | ok v3 =>
      obtain ⟨⟨z2, z3⟩, k3⟩ := v3
      rw [hr3] at h3
      obtain ⟨⟨rfl, hB3⟩, hS3, hsd3⟩ := h3
      have hT3 : RStep hb mb w w3 := hT2.trans (by first | exact hsd3 | exact hsd3.ofDrew)
      unfold tup
      first | (rename_i hK; refine hK _ _ ?_; refine wpAny_done (by kernel_rfl) ?_ _; clear hK) | skip
      have HR3 : Hid _ := hr3
      clear hr3 hsd3
      go_wp2_with (first | (go_at_call 68; refine fo ?_) | (go_at_call 69; refine wi ?_) | fail)
      try go_region_dies
      refine (epoch_r hb b off n cap bs (p + k1 + k2 + k3) mb (4) _ 35 (.int .i64 0) (.int .i64 0) _ (by first | exact hS3 | exact hS3.drew) (by exact hB3) (by rfl) (by rfl) hne hne2 (by exact (Nat.lt_of_lt_of_le hbw hT3.size))).mono ?_
      intro e4 w4 h4
      unfold RPostV at h4
      cases hr4 : (epoch).rd (bs.drop (p + k1 + k2 + k3)) with
      | error j4 =>
        have hn : message.rd (bs.drop p) = .error (k1 + (k2 + (k3 + (j4)))) := by simp only [message, Codec.map, Codec.bind, pair, body4, yieldC, List.drop_drop, ← Nat.add_assoc, HR1.out, HR2.out, HR3.out, hr4]
        rw [hr4] at h4
        obtain ⟨rfl, hS4, hsd4⟩ := h4
        have hst4 : RStep hb mb w3 w4 := by first | exact hsd4 | exact hsd4.ofDrew
        refine ⟨rfl, ?_⟩
        unfold RPostV
        rw [hn]
        exact ⟨rfl, by simpa only [Nat.add_assoc] using hS4, hT3.trans hst4⟩
      | ok v4 =>
        obtain ⟨⟨z4, z5⟩, k4⟩ := v4
        rw [hr4] at h4
        obtain ⟨⟨rfl, hB4⟩, hS4, hsd4⟩ := h4
        have hT4 : RStep hb mb w w4 := hT3.trans (by first | exact hsd4 | exact hsd4.ofDrew)
        unfold tup
        first | (rename_i hK; refine hK _ _ ?_; refine wpAny_done (by kernel_rfl) ?_ _; clear hK) | skip
        have HR4 : Hid _ := hr4
        clear hr4 hsd4
        go_wp2_with (first | (go_at_call 68; refine fo ?_) | (go_at_call 69; refine wi ?_) | fail)
        try go_region_dies
        refine (rights_r hb b off n cap bs (p + k1 + k2 + k3 + k4) mb (8) _ 35 (.int .i64 0) (.int .i64 0) _ (by first | exact hS4 | exact hS4.drew) (by exact hB4) (by rfl) (by rfl) hne hne2 (by exact (Nat.lt_of_lt_of_le hbw hT4.size))).mono ?_
        intro e5 w5 h5
        unfold RPostV at h5
        cases hr5 : (rights).rd (bs.drop (p + k1 + k2 + k3 + k4)) with
        | error j5 =>
          have hn : message.rd (bs.drop p) = .error (k1 + (k2 + (k3 + (k4 + (j5))))) := by simp only [message, Codec.map, Codec.bind, pair, body4, yieldC, List.drop_drop, ← Nat.add_assoc, HR1.out, HR2.out, HR3.out, HR4.out, hr5]
          rw [hr5] at h5
          obtain ⟨rfl, hS5, hsd5⟩ := h5
          have hst5 : RStep hb mb w4 w5 := by first | exact hsd5 | exact hsd5.ofDrew
          refine ⟨rfl, ?_⟩
          unfold RPostV
          rw [hn]
          exact ⟨rfl, by simpa only [Nat.add_assoc] using hS5, hT4.trans hst5⟩
        | ok v5 =>
          obtain ⟨⟨z8, z9⟩, k5⟩ := v5
          rw [hr5] at h5
          obtain ⟨⟨rfl, hB5⟩, hS5, hsd5⟩ := h5
          have hT5 : RStep hb mb w w5 := hT4.trans (by first | exact hsd5 | exact hsd5.ofDrew)
          unfold tup
          first | (rename_i hK; refine hK _ _ ?_; refine wpAny_done (by kernel_rfl) ?_ _; clear hK) | skip
          have HR5 : Hid _ := hr5
          clear hr5 hsd5
          go_wp2_with (first | (go_at_call 68; refine fo ?_) | (go_at_call 69; refine wi ?_) | fail)
          try go_region_dies
          refine (held_r hb b off n cap bs (p + k1 + k2 + k3 + k4 + k5) mb (10) _ 35 (.int .i64 0) _ (by first | exact hS5 | exact hS5.drew) (by exact hB5) (by rfl) hne hne2 (by exact (Nat.lt_of_lt_of_le hbw hT5.size))).mono ?_
          intro e6 w6 h6
          unfold RPostV at h6
          cases hr6 : (held).rd (bs.drop (p + k1 + k2 + k3 + k4 + k5)) with
          | error j6 =>
            have hn : message.rd (bs.drop p) = .error (k1 + (k2 + (k3 + (k4 + (k5 + (j6)))))) := by simp only [message, Codec.map, Codec.bind, pair, body4, yieldC, List.drop_drop, ← Nat.add_assoc, HR1.out, HR2.out, HR3.out, HR4.out, HR5.out, hr6]
            rw [hr6] at h6
            obtain ⟨rfl, hS6, hsd6⟩ := h6
            have hst6 : RStep hb mb w5 w6 := by first | exact hsd6 | exact hsd6.ofDrew
            refine ⟨rfl, ?_⟩
            unfold RPostV
            rw [hn]
            exact ⟨rfl, by simpa only [Nat.add_assoc] using hS6, hT5.trans hst6⟩
          | ok v6 =>
            obtain ⟨z10, k6⟩ := v6
            rw [hr6] at h6
            obtain ⟨⟨rfl, hB6⟩, hS6, hsd6⟩ := h6
            have hT6 : RStep hb mb w w6 := hT5.trans (by first | exact hsd6 | exact hsd6.ofDrew)
            unfold tup
            first | (rename_i hK; refine hK _ _ ?_; refine wpAny_done (by kernel_rfl) ?_ _; clear hK) | skip
            have hn : message.rd (bs.drop p) = .ok ({ Msg.zero with kind := 4, name := z1, cap := z2, recaps := z3, round := z4, rank := z5, down := z8, up := z9, held := z10 }, k1 + (k2 + (k3 + (k4 + (k5 + (k6)))))) := by simp only [message, Codec.map, Codec.bind, pair, body4, yieldC, List.drop_drop, ← Nat.add_assoc, HR1.out, HR2.out, HR3.out, HR4.out, HR5.out, hr6]
            have HN : Hid _ := hn
            clear hn hsd6
            go_wp2_with (first | (go_at_call 68; refine fo ?_) | (go_at_call 69; refine wi ?_) | fail)
            go_ret
            unfold RPostV
            rw [HN.out]
            exact ⟨⟨⟨_, rfl⟩, rfl, by exact hB6⟩, by simpa only [Nat.add_assoc] using hS6, hT6⟩
end Go.Proofs.Ytfgnlfemckdfnaa
