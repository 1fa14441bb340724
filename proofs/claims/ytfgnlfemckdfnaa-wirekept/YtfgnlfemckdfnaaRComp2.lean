import Derived.Test.YtfgnlfemckdfnaaJB
namespace Go.Proofs.Ytfgnlfemckdfnaa
open Go.RowKit Go.PlainAid
theorem ahead_num_r (a : Addr) (w : World) : (nilAhead 294 118 (.pointer (some a)) "sluice/wire.number").run Try.prog w = .ok (some false) w := by kernel_rfl
theorem ahead_sig_r (a : Addr) (w : World) : (nilAhead 294 118 (.pointer (some a)) "sluice/wire.signed").run Try.prog w = .ok (some false) w := by kernel_rfl
set_option maxRecDepth 100000 in
set_option maxHeartbeats 1600000 in
theorem caps_r (hb b off n cap : Nat) (bs : List UInt8) (p mb mo mo2 : Nat) (C : Array Value) (T : TypeId) (x0 y0 : Value) (w : World) (hS : RSt hb (some ⟨b, off, none⟩) n cap bs p w)
    (hB : Blk w mb C T) (hx : C[mo]? = some (x0)) (hy : C[mo2]? = some (y0)) (hmm : mo ≠ mo2) (hne : mb ≠ hb) (hne2 : b ≠ mb) (hbw : b < w.heap.size) :
    Calls Try.prog 74 #[RH hb, .pointer (some ⟨mb, mo, none⟩), .pointer (some ⟨mb, mo2, none⟩)] w (RPostV hb mb (some ⟨b, off, none⟩) n cap bs p w ((caps).rd (bs.drop p)) fun v e w' => e = tup ∧ Blk w' mb (((C).setIfInBounds (mo) (.int .i64 v.1)).setIfInBounds (mo2) (.int .i64 v.2)) T) := by
  have _t := hbw
  clear _t
  have A1 := ahead_num_r ⟨hb, 0, none⟩
  have A2 := ahead_sig_r ⟨hb, 0, none⟩
  unfold RH
  try unfold Str at *
  go_enter Try.func74, Try.ntmps74
  go_wp2_with fail
  try go_region_dies
  refine (number_r hb b off n cap bs (p) mb (mo) 1 1099511627776 C T (x0) 1 1099511627776 _ (by first | exact hS | exact hS.drew) (by exact hB) (by exact hx) hne hne2 rfl rfl (by decide) (by decide)).mono ?_
  intro e1 w1 h1
  unfold RPostV at h1
  cases hr1 : (num 1 1099511627776).rd (bs.drop (p)) with
  | error j1 =>
    have hn : (caps).rd (bs.drop p) = .error (j1) := by simp only [caps, pair, Codec.bind, maxN, hr1]
    rw [hr1] at h1
    obtain ⟨rfl, hS1, hsd1⟩ := h1
    have hst1 : RStep hb mb w w1 := by first | exact hsd1 | exact hsd1.ofDrew
    refine ⟨rfl, ?_⟩
    unfold RPostV
    rw [hn]
    exact ⟨rfl, by simpa only [Nat.add_assoc] using hS1, hst1⟩
  | ok v1 =>
    obtain ⟨x1, k1⟩ := v1
    rw [hr1] at h1
    obtain ⟨⟨rfl, hB1⟩, hS1, hsd1⟩ := h1
    have hst1 : RStep hb mb w w1 := by first | exact hsd1 | exact hsd1.ofDrew
    unfold tup
    have hT1 := hst1
    clear hsd1 hst1
    first | (rename_i hK; refine hK _ _ ?_; refine wpAny_done (by kernel_rfl) ?_ _; clear hK) | skip
    have HR1 : Hid _ := hr1
    clear hr1
    go_wp2_with fail
    try go_region_dies
    refine (number_r hb b off n cap bs (p + k1) mb (mo2) 0 1099511627776 _ T (y0) 0 1099511627776 _ (by first | exact hS1 | exact hS1.drew) (by exact hB1) (by rw [get_ne _ _ _ _ (by omega)]; exact hy) hne hne2 rfl rfl (by decide) (by decide)).mono ?_
    intro e2 w2 h2
    unfold RPostV at h2
    cases hr2 : (num 0 1099511627776).rd (bs.drop (p + k1)) with
    | error j2 =>
      have hn : (caps).rd (bs.drop p) = .error (k1 + (j2)) := by simp only [caps, pair, Codec.bind, maxN, List.drop_drop, HR1.out, hr2]
      rw [hr2] at h2
      obtain ⟨rfl, hS2, hsd2⟩ := h2
      have hst2 : RStep hb mb w1 w2 := by first | exact hsd2 | exact hsd2.ofDrew
      refine ⟨rfl, ?_⟩
      unfold RPostV
      rw [hn]
      exact ⟨rfl, by simpa only [Nat.add_assoc] using hS2, (hT1.trans hst2)⟩
    | ok v2 =>
      obtain ⟨x2, k2⟩ := v2
      rw [hr2] at h2
      obtain ⟨⟨rfl, hB2⟩, hS2, hsd2⟩ := h2
      have hst2 : RStep hb mb w1 w2 := by first | exact hsd2 | exact hsd2.ofDrew
      unfold tup
      have hT2 := hT1.trans hst2
      clear hsd2 hst2
      have hn : (caps).rd (bs.drop p) = .ok ((x1, x2), k1 + (k2)) := by simp only [caps, pair, Codec.bind, maxN, List.drop_drop, HR1.out, hr2]
      have HN : Hid _ := hn
      clear hn
      first | (rename_i hK; refine hK _ _ ?_; refine wpAny_done (by kernel_rfl) ?_ _; clear hK) | go_wp2
      go_end0
      unfold RPostV
      rw [HN.out]
      exact ⟨⟨rfl, by exact hB2⟩, by simpa only [Nat.add_assoc] using hS2, hT2⟩
set_option maxRecDepth 100000 in
set_option maxHeartbeats 1600000 in
theorem epoch_r (hb b off n cap : Nat) (bs : List UInt8) (p mb mo : Nat) (C : Array Value) (T : TypeId) (x0 y0 : Value) (w : World) (hS : RSt hb (some ⟨b, off, none⟩) n cap bs p w)
    (hB : Blk w mb C T) (hx : C[mo]? = some (x0)) (hy : C[mo + 1]? = some (y0)) (hne : mb ≠ hb) (hne2 : b ≠ mb) (hbw : b < w.heap.size) :
    Calls Try.prog 75 #[RH hb, .pointer (some ⟨mb, mo, none⟩)] w (RPostV hb mb (some ⟨b, off, none⟩) n cap bs p w ((epoch).rd (bs.drop p)) fun v e w' => e = tup ∧ Blk w' mb (((C).setIfInBounds (mo) (.int .i64 v.1)).setIfInBounds (mo + 1) (.int .i64 v.2)) T) := by
  have _t := hbw
  clear _t
  have A1 := ahead_num_r ⟨hb, 0, none⟩
  have A2 := ahead_sig_r ⟨hb, 0, none⟩
  unfold RH
  try unfold Str at *
  go_enter Try.func75, Try.ntmps75
  go_wp2_with fail
  try go_region_dies
  refine (number_r hb b off n cap bs (p) mb (mo) 1 1099511627776 C T (x0) 1 1099511627776 _ (by first | exact hS | exact hS.drew) (by exact hB) (by exact hx) hne hne2 rfl rfl (by decide) (by decide)).mono ?_
  intro e1 w1 h1
  unfold RPostV at h1
  cases hr1 : (num 1 1099511627776).rd (bs.drop (p)) with
  | error j1 =>
    have hn : (epoch).rd (bs.drop p) = .error (j1) := by simp only [epoch, pair, Codec.bind, maxN, hr1]
    rw [hr1] at h1
    obtain ⟨rfl, hS1, hsd1⟩ := h1
    have hst1 : RStep hb mb w w1 := by first | exact hsd1 | exact hsd1.ofDrew
    refine ⟨rfl, ?_⟩
    unfold RPostV
    rw [hn]
    exact ⟨rfl, by simpa only [Nat.add_assoc] using hS1, hst1⟩
  | ok v1 =>
    obtain ⟨x1, k1⟩ := v1
    rw [hr1] at h1
    obtain ⟨⟨rfl, hB1⟩, hS1, hsd1⟩ := h1
    have hst1 : RStep hb mb w w1 := by first | exact hsd1 | exact hsd1.ofDrew
    unfold tup
    have hT1 := hst1
    clear hsd1 hst1
    first | (rename_i hK; refine hK _ _ ?_; refine wpAny_done (by kernel_rfl) ?_ _; clear hK) | skip
    have HR1 : Hid _ := hr1
    clear hr1
    go_wp2_with fail
    try go_region_dies
    refine (number_r hb b off n cap bs (p + k1) mb (mo + 1) 0 15 _ T (y0) 0 15 _ (by first | exact hS1 | exact hS1.drew) (by exact hB1) (by rw [get_ne _ _ _ _ (by omega)]; exact hy) hne hne2 rfl rfl (by decide) (by decide)).mono ?_
    intro e2 w2 h2
    unfold RPostV at h2
    cases hr2 : (num 0 15).rd (bs.drop (p + k1)) with
    | error j2 =>
      have hn : (epoch).rd (bs.drop p) = .error (k1 + (j2)) := by simp only [epoch, pair, Codec.bind, maxN, List.drop_drop, HR1.out, hr2]
      rw [hr2] at h2
      obtain ⟨rfl, hS2, hsd2⟩ := h2
      have hst2 : RStep hb mb w1 w2 := by first | exact hsd2 | exact hsd2.ofDrew
      refine ⟨rfl, ?_⟩
      unfold RPostV
      rw [hn]
      exact ⟨rfl, by simpa only [Nat.add_assoc] using hS2, (hT1.trans hst2)⟩
    | ok v2 =>
      obtain ⟨x2, k2⟩ := v2
      rw [hr2] at h2
      obtain ⟨⟨rfl, hB2⟩, hS2, hsd2⟩ := h2
      have hst2 : RStep hb mb w1 w2 := by first | exact hsd2 | exact hsd2.ofDrew
      unfold tup
      have hT2 := hT1.trans hst2
      clear hsd2 hst2
      have hn : (epoch).rd (bs.drop p) = .ok ((x1, x2), k1 + (k2)) := by simp only [epoch, pair, Codec.bind, maxN, List.drop_drop, HR1.out, hr2]
      have HN : Hid _ := hn
      clear hn
      first | (rename_i hK; refine hK _ _ ?_; refine wpAny_done (by kernel_rfl) ?_ _; clear hK) | go_wp2
      go_end0
      unfold RPostV
      rw [HN.out]
      exact ⟨⟨rfl, by exact hB2⟩, by simpa only [Nat.add_assoc] using hS2, hT2⟩
set_option maxRecDepth 100000 in
set_option maxHeartbeats 1600000 in
theorem rights_r (hb b off n cap : Nat) (bs : List UInt8) (p mb mo : Nat) (C : Array Value) (T : TypeId) (x0 y0 : Value) (w : World) (hS : RSt hb (some ⟨b, off, none⟩) n cap bs p w)
    (hB : Blk w mb C T) (hx : C[mo]? = some (x0)) (hy : C[mo + 1]? = some (y0)) (hne : mb ≠ hb) (hne2 : b ≠ mb) (hbw : b < w.heap.size) :
    Calls Try.prog 76 #[RH hb, .pointer (some ⟨mb, mo, none⟩)] w (RPostV hb mb (some ⟨b, off, none⟩) n cap bs p w ((rights).rd (bs.drop p)) fun v e w' => e = tup ∧ Blk w' mb (((C).setIfInBounds (mo) (.int .i64 v.1)).setIfInBounds (mo + 1) (.int .i64 v.2)) T) := by
  have _t := hbw
  clear _t
  have A1 := ahead_num_r ⟨hb, 0, none⟩
  have A2 := ahead_sig_r ⟨hb, 0, none⟩
  unfold RH
  try unfold Str at *
  go_enter Try.func76, Try.ntmps76
  go_wp2_with fail
  try go_region_dies
  refine (number_r hb b off n cap bs (p) mb (mo) 0 1099511627776 C T (x0) 0 1099511627776 _ (by first | exact hS | exact hS.drew) (by exact hB) (by exact hx) hne hne2 rfl rfl (by decide) (by decide)).mono ?_
  intro e1 w1 h1
  unfold RPostV at h1
  cases hr1 : (num 0 1099511627776).rd (bs.drop (p)) with
  | error j1 =>
    have hn : (rights).rd (bs.drop p) = .error (j1) := by simp only [rights, pair, Codec.bind, maxN, hr1]
    rw [hr1] at h1
    obtain ⟨rfl, hS1, hsd1⟩ := h1
    have hst1 : RStep hb mb w w1 := by first | exact hsd1 | exact hsd1.ofDrew
    refine ⟨rfl, ?_⟩
    unfold RPostV
    rw [hn]
    exact ⟨rfl, by simpa only [Nat.add_assoc] using hS1, hst1⟩
  | ok v1 =>
    obtain ⟨x1, k1⟩ := v1
    rw [hr1] at h1
    obtain ⟨⟨rfl, hB1⟩, hS1, hsd1⟩ := h1
    have hst1 : RStep hb mb w w1 := by first | exact hsd1 | exact hsd1.ofDrew
    unfold tup
    have hT1 := hst1
    clear hsd1 hst1
    first | (rename_i hK; refine hK _ _ ?_; refine wpAny_done (by kernel_rfl) ?_ _; clear hK) | skip
    have HR1 : Hid _ := hr1
    clear hr1
    go_wp2_with fail
    try go_region_dies
    refine (number_r hb b off n cap bs (p + k1) mb (mo + 1) 0 1099511627776 _ T (y0) 0 1099511627776 _ (by first | exact hS1 | exact hS1.drew) (by exact hB1) (by rw [get_ne _ _ _ _ (by omega)]; exact hy) hne hne2 rfl rfl (by decide) (by decide)).mono ?_
    intro e2 w2 h2
    unfold RPostV at h2
    cases hr2 : (num 0 1099511627776).rd (bs.drop (p + k1)) with
    | error j2 =>
      have hn : (rights).rd (bs.drop p) = .error (k1 + (j2)) := by simp only [rights, pair, Codec.bind, maxN, List.drop_drop, HR1.out, hr2]
      rw [hr2] at h2
      obtain ⟨rfl, hS2, hsd2⟩ := h2
      have hst2 : RStep hb mb w1 w2 := by first | exact hsd2 | exact hsd2.ofDrew
      refine ⟨rfl, ?_⟩
      unfold RPostV
      rw [hn]
      exact ⟨rfl, by simpa only [Nat.add_assoc] using hS2, (hT1.trans hst2)⟩
    | ok v2 =>
      obtain ⟨x2, k2⟩ := v2
      rw [hr2] at h2
      obtain ⟨⟨rfl, hB2⟩, hS2, hsd2⟩ := h2
      have hst2 : RStep hb mb w1 w2 := by first | exact hsd2 | exact hsd2.ofDrew
      unfold tup
      have hT2 := hT1.trans hst2
      clear hsd2 hst2
      have hn : (rights).rd (bs.drop p) = .ok ((x1, x2), k1 + (k2)) := by simp only [rights, pair, Codec.bind, maxN, List.drop_drop, HR1.out, hr2]
      have HN : Hid _ := hn
      clear hn
      first | (rename_i hK; refine hK _ _ ?_; refine wpAny_done (by kernel_rfl) ?_ _; clear hK) | go_wp2
      go_end0
      unfold RPostV
      rw [HN.out]
      exact ⟨⟨rfl, by exact hB2⟩, by simpa only [Nat.add_assoc] using hS2, hT2⟩
set_option maxRecDepth 100000 in
set_option maxHeartbeats 1600000 in
theorem call_r (hb b off n cap : Nat) (bs : List UInt8) (p mb mo : Nat) (C : Array Value) (T : TypeId) (x0 y0 : Value) (w : World) (hS : RSt hb (some ⟨b, off, none⟩) n cap bs p w)
    (hB : Blk w mb C T) (hx : C[mo]? = some (x0)) (hy : C[mo + 1]? = some (y0)) (hne : mb ≠ hb) (hne2 : b ≠ mb) (hbw : b < w.heap.size) :
    Calls Try.prog 70 #[RH hb, .pointer (some ⟨mb, mo, none⟩)] w (RPostV hb mb (some ⟨b, off, none⟩) n cap bs p w ((call).rd (bs.drop p)) fun v e w' => e = tup ∧ Blk w' mb (((C).setIfInBounds (mo) (.int .i64 v.1)).setIfInBounds (mo + 1) (.int .i64 v.2)) T) := by
  have _t := hbw
  clear _t
  have A1 := ahead_num_r ⟨hb, 0, none⟩
  have A2 := ahead_sig_r ⟨hb, 0, none⟩
  unfold RH
  try unfold Str at *
  go_enter Try.func70, Try.ntmps70
  go_wp2_with fail
  try go_region_dies
  refine (number_r hb b off n cap bs (p) mb (mo) 0 63 C T (x0) 0 63 _ (by first | exact hS | exact hS.drew) (by exact hB) (by exact hx) hne hne2 rfl rfl (by decide) (by decide)).mono ?_
  intro e1 w1 h1
  unfold RPostV at h1
  cases hr1 : (num 0 63).rd (bs.drop (p)) with
  | error j1 =>
    have hn : (call).rd (bs.drop p) = .error (j1) := by simp only [call, pair, Codec.bind, maxN, hr1]
    rw [hr1] at h1
    obtain ⟨rfl, hS1, hsd1⟩ := h1
    have hst1 : RStep hb mb w w1 := by first | exact hsd1 | exact hsd1.ofDrew
    refine ⟨rfl, ?_⟩
    unfold RPostV
    rw [hn]
    exact ⟨rfl, by simpa only [Nat.add_assoc] using hS1, hst1⟩
  | ok v1 =>
    obtain ⟨x1, k1⟩ := v1
    rw [hr1] at h1
    obtain ⟨⟨rfl, hB1⟩, hS1, hsd1⟩ := h1
    have hst1 : RStep hb mb w w1 := by first | exact hsd1 | exact hsd1.ofDrew
    unfold tup
    have hT1 := hst1
    clear hsd1 hst1
    first | (rename_i hK; refine hK _ _ ?_; refine wpAny_done (by kernel_rfl) ?_ _; clear hK) | skip
    have HR1 : Hid _ := hr1
    clear hr1
    go_wp2_with fail
    try go_region_dies
    refine (number_r hb b off n cap bs (p + k1) mb (mo + 1) 1 1099511627776 _ T (y0) 1 1099511627776 _ (by first | exact hS1 | exact hS1.drew) (by exact hB1) (by rw [get_ne _ _ _ _ (by omega)]; exact hy) hne hne2 rfl rfl (by decide) (by decide)).mono ?_
    intro e2 w2 h2
    unfold RPostV at h2
    cases hr2 : (num 1 1099511627776).rd (bs.drop (p + k1)) with
    | error j2 =>
      have hn : (call).rd (bs.drop p) = .error (k1 + (j2)) := by simp only [call, pair, Codec.bind, maxN, List.drop_drop, HR1.out, hr2]
      rw [hr2] at h2
      obtain ⟨rfl, hS2, hsd2⟩ := h2
      have hst2 : RStep hb mb w1 w2 := by first | exact hsd2 | exact hsd2.ofDrew
      refine ⟨rfl, ?_⟩
      unfold RPostV
      rw [hn]
      exact ⟨rfl, by simpa only [Nat.add_assoc] using hS2, (hT1.trans hst2)⟩
    | ok v2 =>
      obtain ⟨x2, k2⟩ := v2
      rw [hr2] at h2
      obtain ⟨⟨rfl, hB2⟩, hS2, hsd2⟩ := h2
      have hst2 : RStep hb mb w1 w2 := by first | exact hsd2 | exact hsd2.ofDrew
      unfold tup
      have hT2 := hT1.trans hst2
      clear hsd2 hst2
      have hn : (call).rd (bs.drop p) = .ok ((x1, x2), k1 + (k2)) := by simp only [call, pair, Codec.bind, maxN, List.drop_drop, HR1.out, hr2]
      have HN : Hid _ := hn
      clear hn
      first | (rename_i hK; refine hK _ _ ?_; refine wpAny_done (by kernel_rfl) ?_ _; clear hK) | go_wp2
      go_end0
      unfold RPostV
      rw [HN.out]
      exact ⟨⟨rfl, by exact hB2⟩, by simpa only [Nat.add_assoc] using hS2, hT2⟩
set_option maxRecDepth 100000 in
set_option maxHeartbeats 1600000 in
theorem held_r (hb b off n cap : Nat) (bs : List UInt8) (p mb mo : Nat) (C : Array Value) (T : TypeId) (x0 : Value) (w : World) (hS : RSt hb (some ⟨b, off, none⟩) n cap bs p w)
    (hB : Blk w mb C T) (hx : C[mo]? = some (x0)) (hne : mb ≠ hb) (hne2 : b ≠ mb) (hbw : b < w.heap.size) :
    Calls Try.prog 77 #[RH hb, .pointer (some ⟨mb, mo, none⟩)] w (RPostV hb mb (some ⟨b, off, none⟩) n cap bs p w ((held).rd (bs.drop p)) fun v e w' => e = tup ∧ Blk w' mb ((C).setIfInBounds (mo) (.int .i64 v)) T) := by
  have _t := hbw
  clear _t
  have A1 := ahead_num_r ⟨hb, 0, none⟩
  have A2 := ahead_sig_r ⟨hb, 0, none⟩
  unfold RH
  try unfold Str at *
  go_enter Try.func77, Try.ntmps77
  go_wp2_with fail
  try go_region_dies
  refine (number_r hb b off n cap bs (p) mb (mo) 0 1099511627776 C T (x0) 0 1099511627776 _ (by first | exact hS | exact hS.drew) (by exact hB) (by exact hx) hne hne2 rfl rfl (by decide) (by decide)).mono ?_
  intro e1 w1 h1
  unfold RPostV at h1
  cases hr1 : (num 0 1099511627776).rd (bs.drop (p)) with
  | error j1 =>
    have hn : (held).rd (bs.drop p) = .error (j1) := by simp only [held, maxN, hr1]
    rw [hr1] at h1
    obtain ⟨rfl, hS1, hsd1⟩ := h1
    have hst1 : RStep hb mb w w1 := by first | exact hsd1 | exact hsd1.ofDrew
    refine ⟨rfl, ?_⟩
    unfold RPostV
    rw [hn]
    exact ⟨rfl, by simpa only [Nat.add_assoc] using hS1, hst1⟩
  | ok v1 =>
    obtain ⟨x1, k1⟩ := v1
    rw [hr1] at h1
    obtain ⟨⟨rfl, hB1⟩, hS1, hsd1⟩ := h1
    have hst1 : RStep hb mb w w1 := by first | exact hsd1 | exact hsd1.ofDrew
    unfold tup
    have hT1 := hst1
    clear hsd1 hst1
    have hn : (held).rd (bs.drop p) = .ok (x1, k1) := by simp only [held, maxN, hr1]
    have HN : Hid _ := hn
    clear hn
    first | (rename_i hK; refine hK _ _ ?_; refine wpAny_done (by kernel_rfl) ?_ _; clear hK) | go_wp2
    go_end0
    unfold RPostV
    rw [HN.out]
    exact ⟨⟨rfl, by exact hB1⟩, by simpa only [Nat.add_assoc] using hS1, hT1⟩
set_option maxRecDepth 100000 in
set_option maxHeartbeats 1600000 in
theorem errno_r (hb b off n cap : Nat) (bs : List UInt8) (p mb mo : Nat) (C : Array Value) (T : TypeId) (x0 : Value) (w : World) (hS : RSt hb (some ⟨b, off, none⟩) n cap bs p w)
    (hB : Blk w mb C T) (hx : C[mo]? = some (x0)) (hne : mb ≠ hb) (hne2 : b ≠ mb) (hbw : b < w.heap.size) :
    Calls Try.prog 73 #[RH hb, .pointer (some ⟨mb, mo, none⟩)] w (RPostV hb mb (some ⟨b, off, none⟩) n cap bs p w ((errno).rd (bs.drop p)) fun v e w' => e = tup ∧ Blk w' mb ((C).setIfInBounds (mo) (.int .i64 v)) T) := by
  have _t := hbw
  clear _t
  have A1 := ahead_num_r ⟨hb, 0, none⟩
  have A2 := ahead_sig_r ⟨hb, 0, none⟩
  unfold RH
  try unfold Str at *
  go_enter Try.func73, Try.ntmps73
  go_wp2_with fail
  try go_region_dies
  refine (number_r hb b off n cap bs (p) mb (mo) 0 255 C T (x0) 0 255 _ (by first | exact hS | exact hS.drew) (by exact hB) (by exact hx) hne hne2 rfl rfl (by decide) (by decide)).mono ?_
  intro e1 w1 h1
  unfold RPostV at h1
  cases hr1 : (num 0 255).rd (bs.drop (p)) with
  | error j1 =>
    have hn : (errno).rd (bs.drop p) = .error (j1) := by simp only [errno, hr1]
    rw [hr1] at h1
    obtain ⟨rfl, hS1, hsd1⟩ := h1
    have hst1 : RStep hb mb w w1 := by first | exact hsd1 | exact hsd1.ofDrew
    refine ⟨rfl, ?_⟩
    unfold RPostV
    rw [hn]
    exact ⟨rfl, by simpa only [Nat.add_assoc] using hS1, hst1⟩
  | ok v1 =>
    obtain ⟨x1, k1⟩ := v1
    rw [hr1] at h1
    obtain ⟨⟨rfl, hB1⟩, hS1, hsd1⟩ := h1
    have hst1 : RStep hb mb w w1 := by first | exact hsd1 | exact hsd1.ofDrew
    unfold tup
    have hT1 := hst1
    clear hsd1 hst1
    have hn : (errno).rd (bs.drop p) = .ok (x1, k1) := by simp only [errno, hr1]
    have HN : Hid _ := hn
    clear hn
    first | (rename_i hK; refine hK _ _ ?_; refine wpAny_done (by kernel_rfl) ?_ _; clear hK) | go_wp2
    go_end0
    unfold RPostV
    rw [HN.out]
    exact ⟨⟨rfl, by exact hB1⟩, by simpa only [Nat.add_assoc] using hS1, hT1⟩
end Go.Proofs.Ytfgnlfemckdfnaa
