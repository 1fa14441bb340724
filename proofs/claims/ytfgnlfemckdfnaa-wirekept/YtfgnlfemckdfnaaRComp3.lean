import Derived.Test.YtfgnlfemckdfnaaRComp2
namespace Go.Proofs.Ytfgnlfemckdfnaa
open Go.RowKit Go.PlainAid
set_option maxRecDepth 100000 in
set_option maxHeartbeats 1600000 in
theorem op_r (hb b off n cap : Nat) (bs : List UInt8) (p mb mo : Nat) (C : Array Value) (T : TypeId) (k0 : Value) (s0 : List UInt8) (x0 y0 : Value) (w : World) (hS : RSt hb (some ⟨b, off, none⟩) n cap bs p w)
    (hB : Blk w mb C T) (hk : C[mo]? = some (k0)) (hn : C[mo + 1]? = some (Str s0)) (hx : C[mo + 2]? = some (x0)) (hy : C[mo + 3]? = some (y0)) (hne : mb ≠ hb) (hne2 : b ≠ mb) (hbw : b < w.heap.size) :
    Calls Try.prog 71 #[RH hb, .pointer (some ⟨mb, mo, none⟩)] w (RPostV hb mb (some ⟨b, off, none⟩) n cap bs p w ((op).rd (bs.drop p)) fun v e w' => e = tup ∧ Blk w' mb (((((C).setIfInBounds (mo) (.int .i64 v.1)).setIfInBounds (mo + 1) (Str v.2.1)).setIfInBounds (mo + 2) (.int .i64 v.2.2.1)).setIfInBounds (mo + 3) (.int .i64 v.2.2.2)) T) := by
  have _t := hbw
  clear _t
  have A1 := ahead_num_r ⟨hb, 0, none⟩
  have A2 := ahead_sig_r ⟨hb, 0, none⟩
  unfold RH
  try unfold Str at *
  go_enter Try.func71, Try.ntmps71
  go_wp2_with fail
  try go_region_dies
  refine (number_r hb b off n cap bs (p) mb (mo) 1 11 C T (k0) 1 11 _ (by first | exact hS | exact hS.drew) (by exact hB) (by exact hk) hne hne2 rfl rfl (by decide) (by decide)).mono ?_
  intro e1 w1 h1
  unfold RPostV at h1
  cases hr1 : (num 1 11).rd (bs.drop (p)) with
  | error j1 =>
    have hn : (op).rd (bs.drop p) = .error (j1) := by simp only [op, pair, Codec.bind, hr1]
    rw [hr1] at h1
    obtain ⟨rfl, hS1, hsd1⟩ := h1
    have hst1 : RStep hb mb w w1 := by first | exact hsd1 | exact hsd1.ofDrew
    refine ⟨rfl, ?_⟩
    unfold RPostV
    rw [hn]
    exact ⟨rfl, by simpa only [Nat.add_assoc] using hS1, hst1⟩
  | ok v1 =>
    obtain ⟨x1, k1⟩ := v1
    rw [hr1] at h1
    obtain ⟨⟨rfl, hB1⟩, hS1, hsd1⟩ := h1
    have hst1 : RStep hb mb w w1 := by first | exact hsd1 | exact hsd1.ofDrew
    unfold tup
    have hT1 := hst1
    clear hsd1 hst1
    first | (rename_i hK; refine hK _ _ ?_; refine wpAny_done (by kernel_rfl) ?_ _; clear hK) | skip
    have HR1 : Hid _ := hr1
    clear hr1
    go_wp2_with fail
    try go_region_dies
    refine (name_r hb b off n cap bs (p + k1) mb (mo + 1) _ T s0 [] _ (by first | exact hS1 | exact hS1.drew) (by exact hB1) (by rw [get_ne _ _ _ _ (by omega)]; exact hn) hne hne2 (by exact (Nat.lt_of_lt_of_le hbw hT1.size))).mono ?_
    intro e2 w2 h2
    unfold RPostV at h2
    cases hr2 : (name []).rd (bs.drop (p + k1)) with
    | error j2 =>
      have hn : (op).rd (bs.drop p) = .error (k1 + (j2)) := by simp only [op, pair, Codec.bind, List.drop_drop, HR1.out, hr2]
      rw [hr2] at h2
      obtain ⟨rfl, hS2, hsd2⟩ := h2
      have hst2 : RStep hb mb w1 w2 := by first | exact hsd2 | exact hsd2.ofDrew
      refine ⟨rfl, ?_⟩
      unfold RPostV
      rw [hn]
      exact ⟨rfl, by simpa only [Nat.add_assoc] using hS2, (hT1.trans hst2)⟩
    | ok v2 =>
      obtain ⟨x2, k2⟩ := v2
      rw [hr2] at h2
      obtain ⟨⟨rfl, hB2⟩, hS2, hsd2⟩ := h2
      have hst2 : RStep hb mb w1 w2 := by first | exact hsd2 | exact hsd2.ofDrew
      unfold tup
      have hT2 := hT1.trans hst2
      clear hsd2 hst2
      first | (rename_i hK; refine hK _ _ ?_; refine wpAny_done (by kernel_rfl) ?_ _; clear hK) | skip
      have HR2 : Hid _ := hr2
      clear hr2
      go_wp2_with fail
      try go_region_dies
      refine (signed_r hb b off n cap bs (p + k1 + k2) mb (mo + 2) _ T (x0) _ (by first | exact hS2 | exact hS2.drew) (by exact hB2) (by rw [get_ne _ _ _ _ (by omega), get_ne _ _ _ _ (by omega)]; exact hx) hne hne2).mono ?_
      intro e3 w3 h3
      unfold RPostV at h3
      cases hr3 : (signed).rd (bs.drop (p + k1 + k2)) with
      | error j3 =>
        have hn : (op).rd (bs.drop p) = .error (k1 + (k2 + (j3))) := by simp only [op, pair, Codec.bind, List.drop_drop, ← Nat.add_assoc, HR1.out, HR2.out, hr3]
        rw [hr3] at h3
        obtain ⟨rfl, hS3, hsd3⟩ := h3
        have hst3 : RStep hb mb w2 w3 := by first | exact hsd3 | exact hsd3.ofDrew
        refine ⟨rfl, ?_⟩
        unfold RPostV
        rw [hn]
        exact ⟨rfl, by simpa only [Nat.add_assoc] using hS3, (hT2.trans hst3)⟩
      | ok v3 =>
        obtain ⟨x3, k3⟩ := v3
        rw [hr3] at h3
        obtain ⟨⟨rfl, hB3⟩, hS3, hsd3⟩ := h3
        have hst3 : RStep hb mb w2 w3 := by first | exact hsd3 | exact hsd3.ofDrew
        unfold tup
        have hT3 := hT2.trans hst3
        clear hsd3 hst3
        first | (rename_i hK; refine hK _ _ ?_; refine wpAny_done (by kernel_rfl) ?_ _; clear hK) | skip
        have HR3 : Hid _ := hr3
        clear hr3
        go_wp2_with fail
        try go_region_dies
        refine (signed_r hb b off n cap bs (p + k1 + k2 + k3) mb (mo + 3) _ T (y0) _ (by first | exact hS3 | exact hS3.drew) (by exact hB3) (by rw [get_ne _ _ _ _ (by omega), get_ne _ _ _ _ (by omega), get_ne _ _ _ _ (by omega)]; exact hy) hne hne2).mono ?_
        intro e4 w4 h4
        unfold RPostV at h4
        cases hr4 : (signed).rd (bs.drop (p + k1 + k2 + k3)) with
        | error j4 =>
          have hn : (op).rd (bs.drop p) = .error (k1 + (k2 + (k3 + (j4)))) := by simp only [op, pair, Codec.bind, List.drop_drop, ← Nat.add_assoc, HR1.out, HR2.out, HR3.out, hr4]
          rw [hr4] at h4
          obtain ⟨rfl, hS4, hsd4⟩ := h4
          have hst4 : RStep hb mb w3 w4 := by first | exact hsd4 | exact hsd4.ofDrew
          refine ⟨rfl, ?_⟩
          unfold RPostV
          rw [hn]
          exact ⟨rfl, by simpa only [Nat.add_assoc] using hS4, (hT3.trans hst4)⟩
        | ok v4 =>
          obtain ⟨x4, k4⟩ := v4
          rw [hr4] at h4
          obtain ⟨⟨rfl, hB4⟩, hS4, hsd4⟩ := h4
          have hst4 : RStep hb mb w3 w4 := by first | exact hsd4 | exact hsd4.ofDrew
          unfold tup
          have hT4 := hT3.trans hst4
          clear hsd4 hst4
          have hn : (op).rd (bs.drop p) = .ok ((x1, x2, x3, x4), k1 + (k2 + (k3 + (k4)))) := by simp only [op, pair, Codec.bind, List.drop_drop, ← Nat.add_assoc, HR1.out, HR2.out, HR3.out, hr4]
          have HN : Hid _ := hn
          clear hn
          first | (rename_i hK; refine hK _ _ ?_; refine wpAny_done (by kernel_rfl) ?_ _; clear hK) | go_wp2
          go_end0
          unfold RPostV
          rw [HN.out]
          exact ⟨⟨rfl, by exact hB4⟩, by simpa only [Nat.add_assoc] using hS4, hT4⟩
set_option maxRecDepth 100000 in
set_option maxHeartbeats 1600000 in
theorem view_r (hb b off n cap : Nat) (bs : List UInt8) (p mb mo : Nat) (C : Array Value) (T : TypeId) (s0 a : List UInt8) (c0 r0 v0 d0 u0 h0 : Value) (w : World) (hS : RSt hb (some ⟨b, off, none⟩) n cap bs p w)
    (hB : Blk w mb C T) (hn : C[mo]? = some (Str s0)) (hc : C[mo + 1]? = some (c0)) (hr : C[mo + 2]? = some (r0)) (hv : C[mo + 3]? = some (v0)) (hd : C[mo + 4]? = some (d0)) (hu : C[mo + 4 + 1]? = some (u0)) (hh : C[mo + 6]? = some (h0)) (hne : mb ≠ hb) (hne2 : b ≠ mb) (hbw : b < w.heap.size) :
    Calls Try.prog 94 #[RH hb, .pointer (some ⟨mb, mo, none⟩), Str a] w (RPostV hb mb (some ⟨b, off, none⟩) n cap bs p w ((view a).rd (bs.drop p)) fun v e w' => e = tup ∧ Blk w' mb ((((((((C).setIfInBounds (mo) (Str v.name)).setIfInBounds (mo + 1) (.int .i64 v.cap)).setIfInBounds (mo + 2) (.int .i64 v.recaps)).setIfInBounds (mo + 3) (.int .i64 v.version)).setIfInBounds (mo + 4) (.int .i64 v.down)).setIfInBounds (mo + 4 + 1) (.int .i64 v.up)).setIfInBounds (mo + 6) (.int .i64 v.held)) T) := by
  have _t := hbw
  clear _t
  have A1 := ahead_num_r ⟨hb, 0, none⟩
  have A2 := ahead_sig_r ⟨hb, 0, none⟩
  unfold RH
  try unfold Str at *
  go_enter Try.func94, Try.ntmps94
  go_wp2_with fail
  try go_region_dies
  refine (name_r hb b off n cap bs (p) mb (mo) C T s0 a _ (by first | exact hS | exact hS.drew) (by exact hB) (by exact hn) hne hne2 (by exact hbw)).mono ?_
  intro e1 w1 h1
  unfold RPostV at h1
  cases hr1 : (name a).rd (bs.drop (p)) with
  | error j1 =>
    have hn : (view a).rd (bs.drop p) = .error (j1) := by simp only [view, pair, Codec.bind, Codec.map, maxN, hr1]
    rw [hr1] at h1
    obtain ⟨rfl, hS1, hsd1⟩ := h1
    have hst1 : RStep hb mb w w1 := by first | exact hsd1 | exact hsd1.ofDrew
    refine ⟨rfl, ?_⟩
    unfold RPostV
    rw [hn]
    exact ⟨rfl, by simpa only [Nat.add_assoc] using hS1, hst1⟩
  | ok v1 =>
    obtain ⟨x1, k1⟩ := v1
    rw [hr1] at h1
    obtain ⟨⟨rfl, hB1⟩, hS1, hsd1⟩ := h1
    have hst1 : RStep hb mb w w1 := by first | exact hsd1 | exact hsd1.ofDrew
    unfold tup
    have hT1 := hst1
    clear hsd1 hst1
    first | (rename_i hK; refine hK _ _ ?_; refine wpAny_done (by kernel_rfl) ?_ _; clear hK) | skip
    have HR1 : Hid _ := hr1
    clear hr1
    go_wp2_with fail
    try go_region_dies
    refine (caps_r hb b off n cap bs (p + k1) mb (mo + 1) (mo + 2) _ T (c0) (r0) _ (by first | exact hS1 | exact hS1.drew) (by exact hB1) (by rw [get_ne _ _ _ _ (by omega)]; exact hc) (by rw [get_ne _ _ _ _ (by omega)]; exact hr) (by omega) hne hne2 (by exact (Nat.lt_of_lt_of_le hbw hT1.size))).mono ?_
    intro e2 w2 h2
    unfold RPostV at h2
    cases hr2 : (caps).rd (bs.drop (p + k1)) with
    | error j2 =>
      have hn : (view a).rd (bs.drop p) = .error (k1 + (j2)) := by simp only [view, pair, Codec.bind, Codec.map, maxN, List.drop_drop, HR1.out, hr2]
      rw [hr2] at h2
      obtain ⟨rfl, hS2, hsd2⟩ := h2
      have hst2 : RStep hb mb w1 w2 := by first | exact hsd2 | exact hsd2.ofDrew
      refine ⟨rfl, ?_⟩
      unfold RPostV
      rw [hn]
      exact ⟨rfl, by simpa only [Nat.add_assoc] using hS2, (hT1.trans hst2)⟩
    | ok v2 =>
      obtain ⟨⟨x2, x3⟩, k2⟩ := v2
      rw [hr2] at h2
      obtain ⟨⟨rfl, hB2⟩, hS2, hsd2⟩ := h2
      have hst2 : RStep hb mb w1 w2 := by first | exact hsd2 | exact hsd2.ofDrew
      unfold tup
      have hT2 := hT1.trans hst2
      clear hsd2 hst2
      first | (rename_i hK; refine hK _ _ ?_; refine wpAny_done (by kernel_rfl) ?_ _; clear hK) | skip
      have HR2 : Hid _ := hr2
      clear hr2
      go_wp2_with fail
      try go_region_dies
      refine (number_r hb b off n cap bs (p + k1 + k2) mb (mo + 3) 0 1099511627776 _ T (v0) 0 1099511627776 _ (by first | exact hS2 | exact hS2.drew) (by exact hB2) (by rw [get_ne _ _ _ _ (by omega), get_ne _ _ _ _ (by omega), get_ne _ _ _ _ (by omega)]; exact hv) hne hne2 rfl rfl (by decide) (by decide)).mono ?_
      intro e3 w3 h3
      unfold RPostV at h3
      cases hr3 : (num 0 1099511627776).rd (bs.drop (p + k1 + k2)) with
      | error j3 =>
        have hn : (view a).rd (bs.drop p) = .error (k1 + (k2 + (j3))) := by simp only [view, pair, Codec.bind, Codec.map, maxN, List.drop_drop, ← Nat.add_assoc, HR1.out, HR2.out, hr3]
        rw [hr3] at h3
        obtain ⟨rfl, hS3, hsd3⟩ := h3
        have hst3 : RStep hb mb w2 w3 := by first | exact hsd3 | exact hsd3.ofDrew
        refine ⟨rfl, ?_⟩
        unfold RPostV
        rw [hn]
        exact ⟨rfl, by simpa only [Nat.add_assoc] using hS3, (hT2.trans hst3)⟩
      | ok v3 =>
        obtain ⟨x4, k3⟩ := v3
        rw [hr3] at h3
        obtain ⟨⟨rfl, hB3⟩, hS3, hsd3⟩ := h3
        have hst3 : RStep hb mb w2 w3 := by first | exact hsd3 | exact hsd3.ofDrew
        unfold tup
        have hT3 := hT2.trans hst3
        clear hsd3 hst3
        first | (rename_i hK; refine hK _ _ ?_; refine wpAny_done (by kernel_rfl) ?_ _; clear hK) | skip
        have HR3 : Hid _ := hr3
        clear hr3
        go_wp2_with fail
        try go_region_dies
        refine (rights_r hb b off n cap bs (p + k1 + k2 + k3) mb (mo + 4) _ T (d0) (u0) _ (by first | exact hS3 | exact hS3.drew) (by exact hB3) (by rw [get_ne _ _ _ _ (by omega), get_ne _ _ _ _ (by omega), get_ne _ _ _ _ (by omega), get_ne _ _ _ _ (by omega)]; exact hd) (by rw [get_ne _ _ _ _ (by omega), get_ne _ _ _ _ (by omega), get_ne _ _ _ _ (by omega), get_ne _ _ _ _ (by omega)]; exact hu) hne hne2 (by exact (Nat.lt_of_lt_of_le hbw hT3.size))).mono ?_
        intro e4 w4 h4
        unfold RPostV at h4
        cases hr4 : (rights).rd (bs.drop (p + k1 + k2 + k3)) with
        | error j4 =>
          have hn : (view a).rd (bs.drop p) = .error (k1 + (k2 + (k3 + (j4)))) := by simp only [view, pair, Codec.bind, Codec.map, maxN, List.drop_drop, ← Nat.add_assoc, HR1.out, HR2.out, HR3.out, hr4]
          rw [hr4] at h4
          obtain ⟨rfl, hS4, hsd4⟩ := h4
          have hst4 : RStep hb mb w3 w4 := by first | exact hsd4 | exact hsd4.ofDrew
          refine ⟨rfl, ?_⟩
          unfold RPostV
          rw [hn]
          exact ⟨rfl, by simpa only [Nat.add_assoc] using hS4, (hT3.trans hst4)⟩
        | ok v4 =>
          obtain ⟨⟨x5, x6⟩, k4⟩ := v4
          rw [hr4] at h4
          obtain ⟨⟨rfl, hB4⟩, hS4, hsd4⟩ := h4
          have hst4 : RStep hb mb w3 w4 := by first | exact hsd4 | exact hsd4.ofDrew
          unfold tup
          have hT4 := hT3.trans hst4
          clear hsd4 hst4
          first | (rename_i hK; refine hK _ _ ?_; refine wpAny_done (by kernel_rfl) ?_ _; clear hK) | skip
          have HR4 : Hid _ := hr4
          clear hr4
          go_wp2_with fail
          try go_region_dies
          refine (held_r hb b off n cap bs (p + k1 + k2 + k3 + k4) mb (mo + 6) _ T (h0) _ (by first | exact hS4 | exact hS4.drew) (by exact hB4) (by rw [get_ne _ _ _ _ (by omega), get_ne _ _ _ _ (by omega), get_ne _ _ _ _ (by omega), get_ne _ _ _ _ (by omega), get_ne _ _ _ _ (by omega), get_ne _ _ _ _ (by omega)]; exact hh) hne hne2 (by exact (Nat.lt_of_lt_of_le hbw hT4.size))).mono ?_
          intro e5 w5 h5
          unfold RPostV at h5
          cases hr5 : (held).rd (bs.drop (p + k1 + k2 + k3 + k4)) with
          | error j5 =>
            have hn : (view a).rd (bs.drop p) = .error (k1 + (k2 + (k3 + (k4 + (j5))))) := by simp only [view, pair, Codec.bind, Codec.map, maxN, List.drop_drop, ← Nat.add_assoc, HR1.out, HR2.out, HR3.out, HR4.out, hr5]
            rw [hr5] at h5
            obtain ⟨rfl, hS5, hsd5⟩ := h5
            have hst5 : RStep hb mb w4 w5 := by first | exact hsd5 | exact hsd5.ofDrew
            refine ⟨rfl, ?_⟩
            unfold RPostV
            rw [hn]
            exact ⟨rfl, by simpa only [Nat.add_assoc] using hS5, (hT4.trans hst5)⟩
          | ok v5 =>
            obtain ⟨x7, k5⟩ := v5
            rw [hr5] at h5
            obtain ⟨⟨rfl, hB5⟩, hS5, hsd5⟩ := h5
            have hst5 : RStep hb mb w4 w5 := by first | exact hsd5 | exact hsd5.ofDrew
            unfold tup
            have hT5 := hT4.trans hst5
            clear hsd5 hst5
            have hn : (view a).rd (bs.drop p) = .ok (⟨x1, x2, x3, x4, x5, x6, x7⟩, k1 + (k2 + (k3 + (k4 + (k5))))) := by simp only [view, pair, Codec.bind, Codec.map, maxN, List.drop_drop, ← Nat.add_assoc, HR1.out, HR2.out, HR3.out, HR4.out, hr5]
            have HN : Hid _ := hn
            clear hn
            first | (rename_i hK; refine hK _ _ ?_; refine wpAny_done (by kernel_rfl) ?_ _; clear hK) | go_wp2
            go_end0
            unfold RPostV
            rw [HN.out]
            exact ⟨⟨rfl, by exact hB5⟩, by simpa only [Nat.add_assoc] using hS5, hT5⟩
end Go.Proofs.Ytfgnlfemckdfnaa
