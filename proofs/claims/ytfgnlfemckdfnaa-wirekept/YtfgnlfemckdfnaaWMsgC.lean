import Derived.Test.YtfgnlfemckdfnaaJC
namespace Go.Proofs.Ytfgnlfemckdfnaa
open Go.RowKit Go.PlainAid
set_option maxRecDepth 100000 in
set_option maxHeartbeats 3200000 in
theorem msg8_w (hb b : Nat) (v : Value) (out : List UInt8) (s : List UInt8) (c r d u : Int) (w : World) (hS : WSt hb v out w) (hk : w.cell? ⟨b, 0, none⟩ = some (.int .i64 8)) (hn : w.cell? ⟨b, 1, none⟩ = some (Str s)) (hc : w.cell? ⟨b, 2, none⟩ = some (.int .i64 c)) (hr : w.cell? ⟨b, 3, none⟩ = some (.int .i64 r)) (hd : w.cell? ⟨b, 8, none⟩ = some (.int .i64 d)) (hu : w.cell? ⟨b, 9, none⟩ = some (.int .i64 u)) (hb' : b < hb) (hs : s.length ≤ 140737488355328) (hl : out.length ≤ 800000) (R : Option (List UInt8)) (hj : R = join ((num 1 10).wr 8) (join ((name []).wr s) (join (caps.wr (c, r)) (rights.wr (d, u))))) :
    Calls Try.prog 32 #[WH hb, .pointer (some ⟨b, 0, none⟩)] w (WPostR hb out w R (.int .u64 84)) := by
  have HJ : Hid _ := hj
  clear hj
  have A1 := ahead_num_w ⟨hb, 0, none⟩
  have A2 := ahead_sig_w ⟨hb, 0, none⟩
  have B1 := bn 84 1 0
  have B2 := bn 84 2 0
  have B4 := bn 84 4 4
  have B8 := bn 84 8 0
  have B16 := bn 84 16 16
  have B32 := bn 84 32 0
  have B64 := bn 84 64 64
  have B128 := bn 84 128 0
  have B256 := bn 84 256 0
  have B512 := bn 84 512 0
  have E0 : hasOf 8 = 84 := by decide
  unfold WH
  try unfold Str at *
  go_enter Try.func32, Try.ntmps32
  go_wp2_with (first | (go_at_call 68; refine fo ?_) | (go_at_call 69; refine wi ?_) | fail)
  try go_region_dies
  refine (number_w hb b 0 1 10 v out 8 1 10 _ (by first | exact hS | exact hS.drew) (by exact hk) rfl rfl (by decide) (by first | omega | (simp only [List.length_append]; omega))).mono ?_
  rintro e1 w1 ⟨hsd1, h1⟩
  have hst1 : WStep hb w w1 := by first | exact hsd1 | exact hsd1.ofDrew
  clear hsd1
  cases hr1 : (num 1 10).wr 8 with
  | none =>
    have hn : R = none := by rw [HJ.out, hr1] <;> rfl
    rw [hr1] at h1
    subst h1
    exact ⟨rfl, hst1, by rw [hn]; rfl⟩
  | some p1 =>
    rw [hr1] at h1
    obtain ⟨rfl, v1, hS1⟩ := h1
    first | (rename_i hK; refine hK _ _ ?_; refine wpAny_done (by kernel_rfl) ?_ _; clear hK) | skip
    have hp1 := num_len hr1
    have hk_1 : w1.cell? ⟨b, 0, none⟩ = some (.int .i64 8) := (hst1.cell hb').trans hk
    have hn_1 : w1.cell? ⟨b, 1, none⟩ = some (Str s) := (hst1.cell hb').trans hn
    have hc_1 : w1.cell? ⟨b, 2, none⟩ = some (.int .i64 c) := (hst1.cell hb').trans hc
    have hr_1 : w1.cell? ⟨b, 3, none⟩ = some (.int .i64 r) := (hst1.cell hb').trans hr
    have hd_1 : w1.cell? ⟨b, 8, none⟩ = some (.int .i64 d) := (hst1.cell hb').trans hd
    have hu_1 : w1.cell? ⟨b, 9, none⟩ = some (.int .i64 u) := (hst1.cell hb').trans hu
    have hT1 := hst1
    have HR1 : Hid _ := hr1
    clear hst1 hr1
    have hr1 : Hid _ := HR1
    go_wp2_with (first | (go_at_call 68; refine fo ?_) | (go_at_call 69; refine wi ?_) | fail)
    try go_region_dies
    refine (name_w hb b 1 v1 (out ++ p1) s [] _ (by first | exact hS1 | exact hS1.drew) (by exact hn_1) hb' (by first | omega | (simp only [List.length_append]; omega)) hs).mono ?_
    rintro e2 w2 ⟨hsd2, h2⟩
    have hst2 : WStep hb w1 w2 := by first | exact hsd2 | exact hsd2.ofDrew
    clear hsd2
    cases hr2 : (name []).wr s with
    | none =>
      have hn : R = none := by rw [HJ.out, hr1.out, hr2] <;> rfl
      rw [hr2] at h2
      subst h2
      exact ⟨rfl, (hT1.trans hst2), by rw [hn]; rfl⟩
    | some p2 =>
      rw [hr2] at h2
      obtain ⟨rfl, v2, hS2⟩ := h2
      first | (rename_i hK; refine hK _ _ ?_; refine wpAny_done (by kernel_rfl) ?_ _; clear hK) | skip
      have hp2 := name_len hr2
      have hk_2 : w2.cell? ⟨b, 0, none⟩ = some (.int .i64 8) := (hst2.cell hb').trans hk_1
      have hn_2 : w2.cell? ⟨b, 1, none⟩ = some (Str s) := (hst2.cell hb').trans hn_1
      have hc_2 : w2.cell? ⟨b, 2, none⟩ = some (.int .i64 c) := (hst2.cell hb').trans hc_1
      have hr_2 : w2.cell? ⟨b, 3, none⟩ = some (.int .i64 r) := (hst2.cell hb').trans hr_1
      have hd_2 : w2.cell? ⟨b, 8, none⟩ = some (.int .i64 d) := (hst2.cell hb').trans hd_1
      have hu_2 : w2.cell? ⟨b, 9, none⟩ = some (.int .i64 u) := (hst2.cell hb').trans hu_1
      have hT2 := hT1.trans hst2
      have HR2 : Hid _ := hr2
      clear hst2 hr2
      have hr2 : Hid _ := HR2
      go_wp2_with (first | (go_at_call 68; refine fo ?_) | (go_at_call 69; refine wi ?_) | fail)
      try go_region_dies
      refine (caps_w hb b 2 3 v2 ((out ++ p1) ++ p2) c r _ (by first | exact hS2 | exact hS2.drew) (by exact hc_2) (by exact hr_2) hb' (by first | omega | (simp only [List.length_append]; omega))).mono ?_
      rintro e3 w3 ⟨hsd3, h3⟩
      have hst3 : WStep hb w2 w3 := by first | exact hsd3 | exact hsd3.ofDrew
      clear hsd3
      cases hr3 : caps.wr (c, r) with
      | none =>
        have hn : R = none := by rw [HJ.out, hr1.out, hr2.out, hr3] <;> rfl
        rw [hr3] at h3
        subst h3
        exact ⟨rfl, (hT2.trans hst3), by rw [hn]; rfl⟩
      | some p3 =>
        rw [hr3] at h3
        obtain ⟨rfl, v3, hS3⟩ := h3
        first | (rename_i hK; refine hK _ _ ?_; refine wpAny_done (by kernel_rfl) ?_ _; clear hK) | skip
        have hp3 := caps_len hr3
        have hk_3 : w3.cell? ⟨b, 0, none⟩ = some (.int .i64 8) := (hst3.cell hb').trans hk_2
        have hn_3 : w3.cell? ⟨b, 1, none⟩ = some (Str s) := (hst3.cell hb').trans hn_2
        have hc_3 : w3.cell? ⟨b, 2, none⟩ = some (.int .i64 c) := (hst3.cell hb').trans hc_2
        have hr_3 : w3.cell? ⟨b, 3, none⟩ = some (.int .i64 r) := (hst3.cell hb').trans hr_2
        have hd_3 : w3.cell? ⟨b, 8, none⟩ = some (.int .i64 d) := (hst3.cell hb').trans hd_2
        have hu_3 : w3.cell? ⟨b, 9, none⟩ = some (.int .i64 u) := (hst3.cell hb').trans hu_2
        have hT3 := hT2.trans hst3
        have HR3 : Hid _ := hr3
        clear hst3 hr3
        have hr3 : Hid _ := HR3
        go_wp2_with (first | (go_at_call 68; refine fo ?_) | (go_at_call 69; refine wi ?_) | fail)
        try go_region_dies
        refine (rights_w hb b 8 v3 (((out ++ p1) ++ p2) ++ p3) d u _ (by first | exact hS3 | exact hS3.drew) (by exact hd_3) (by exact hu_3) hb' (by first | omega | (simp only [List.length_append]; omega))).mono ?_
        rintro e4 w4 ⟨hsd4, h4⟩
        have hst4 : WStep hb w3 w4 := by first | exact hsd4 | exact hsd4.ofDrew
        clear hsd4
        cases hr4 : rights.wr (d, u) with
        | none =>
          have hn : R = none := by rw [HJ.out, hr1.out, hr2.out, hr3.out, hr4] <;> rfl
          rw [hr4] at h4
          subst h4
          exact ⟨rfl, (hT3.trans hst4), by rw [hn]; rfl⟩
        | some p4 =>
          rw [hr4] at h4
          obtain ⟨rfl, v4, hS4⟩ := h4
          first | (rename_i hK; refine hK _ _ ?_; refine wpAny_done (by kernel_rfl) ?_ _; clear hK) | skip
          go_wp2_with (first | (go_at_call 68; refine fo ?_) | (go_at_call 69; refine wi ?_) | fail)
          go_ret
          have hn : R = some (p1 ++ (p2 ++ (p3 ++ (p4)))) := by rw [HJ.out, hr1.out, hr2.out, hr3.out, hr4] <;> rfl
          exact ⟨(hT3.trans hst4), by rw [hn]; exact ⟨rfl, v4, by simpa [List.append_assoc] using hS4⟩⟩
set_option maxRecDepth 100000 in
set_option maxHeartbeats 3200000 in
theorem msg9_w (hb b : Nat) (v : Value) (out : List UInt8) (s : List UInt8) (c r d u : Int) (w : World) (hS : WSt hb v out w) (hk : w.cell? ⟨b, 0, none⟩ = some (.int .i64 9)) (hn : w.cell? ⟨b, 1, none⟩ = some (Str s)) (hc : w.cell? ⟨b, 2, none⟩ = some (.int .i64 c)) (hr : w.cell? ⟨b, 3, none⟩ = some (.int .i64 r)) (hd : w.cell? ⟨b, 8, none⟩ = some (.int .i64 d)) (hu : w.cell? ⟨b, 9, none⟩ = some (.int .i64 u)) (hb' : b < hb) (hs : s.length ≤ 140737488355328) (hl : out.length ≤ 800000) (R : Option (List UInt8)) (hj : R = join ((num 1 10).wr 9) (join ((name []).wr s) (join (caps.wr (c, r)) (rights.wr (d, u))))) :
    Calls Try.prog 32 #[WH hb, .pointer (some ⟨b, 0, none⟩)] w (WPostR hb out w R (.int .u64 84)) := by
  have HJ : Hid _ := hj
  clear hj
  have A1 := ahead_num_w ⟨hb, 0, none⟩
  have A2 := ahead_sig_w ⟨hb, 0, none⟩
  have B1 := bn 84 1 0
  have B2 := bn 84 2 0
  have B4 := bn 84 4 4
  have B8 := bn 84 8 0
  have B16 := bn 84 16 16
  have B32 := bn 84 32 0
  have B64 := bn 84 64 64
  have B128 := bn 84 128 0
  have B256 := bn 84 256 0
  have B512 := bn 84 512 0
  have E0 : hasOf 9 = 84 := by decide
  unfold WH
  try unfold Str at *
  go_enter Try.func32, Try.ntmps32
  go_wp2_with (first | (go_at_call 68; refine fo ?_) | (go_at_call 69; refine wi ?_) | fail)
  try go_region_dies
  refine (number_w hb b 0 1 10 v out 9 1 10 _ (by first | exact hS | exact hS.drew) (by exact hk) rfl rfl (by decide) (by first | omega | (simp only [List.length_append]; omega))).mono ?_
  rintro e1 w1 ⟨hsd1, h1⟩
  have hst1 : WStep hb w w1 := by first | exact hsd1 | exact hsd1.ofDrew
  clear hsd1
  cases hr1 : (num 1 10).wr 9 with
  | none =>
    have hn : R = none := by rw [HJ.out, hr1] <;> rfl
    rw [hr1] at h1
    subst h1
    exact ⟨rfl, hst1, by rw [hn]; rfl⟩
  | some p1 =>
    rw [hr1] at h1
    obtain ⟨rfl, v1, hS1⟩ := h1
    first | (rename_i hK; refine hK _ _ ?_; refine wpAny_done (by kernel_rfl) ?_ _; clear hK) | skip
    have hp1 := num_len hr1
    have hk_1 : w1.cell? ⟨b, 0, none⟩ = some (.int .i64 9) := (hst1.cell hb').trans hk
    have hn_1 : w1.cell? ⟨b, 1, none⟩ = some (Str s) := (hst1.cell hb').trans hn
    have hc_1 : w1.cell? ⟨b, 2, none⟩ = some (.int .i64 c) := (hst1.cell hb').trans hc
    have hr_1 : w1.cell? ⟨b, 3, none⟩ = some (.int .i64 r) := (hst1.cell hb').trans hr
    have hd_1 : w1.cell? ⟨b, 8, none⟩ = some (.int .i64 d) := (hst1.cell hb').trans hd
    have hu_1 : w1.cell? ⟨b, 9, none⟩ = some (.int .i64 u) := (hst1.cell hb').trans hu
    have hT1 := hst1
    have HR1 : Hid _ := hr1
    clear hst1 hr1
    have hr1 : Hid _ := HR1
    go_wp2_with (first | (go_at_call 68; refine fo ?_) | (go_at_call 69; refine wi ?_) | fail)
    try go_region_dies
    refine (name_w hb b 1 v1 (out ++ p1) s [] _ (by first | exact hS1 | exact hS1.drew) (by exact hn_1) hb' (by first | omega | (simp only [List.length_append]; omega)) hs).mono ?_
    rintro e2 w2 ⟨hsd2, h2⟩
    have hst2 : WStep hb w1 w2 := by first | exact hsd2 | exact hsd2.ofDrew
    clear hsd2
    cases hr2 : (name []).wr s with
    | none =>
      have hn : R = none := by rw [HJ.out, hr1.out, hr2] <;> rfl
      rw [hr2] at h2
      subst h2
      exact ⟨rfl, (hT1.trans hst2), by rw [hn]; rfl⟩
    | some p2 =>
      rw [hr2] at h2
      obtain ⟨rfl, v2, hS2⟩ := h2
      first | (rename_i hK; refine hK _ _ ?_; refine wpAny_done (by kernel_rfl) ?_ _; clear hK) | skip
      have hp2 := name_len hr2
      have hk_2 : w2.cell? ⟨b, 0, none⟩ = some (.int .i64 9) := (hst2.cell hb').trans hk_1
      have hn_2 : w2.cell? ⟨b, 1, none⟩ = some (Str s) := (hst2.cell hb').trans hn_1
      have hc_2 : w2.cell? ⟨b, 2, none⟩ = some (.int .i64 c) := (hst2.cell hb').trans hc_1
      have hr_2 : w2.cell? ⟨b, 3, none⟩ = some (.int .i64 r) := (hst2.cell hb').trans hr_1
      have hd_2 : w2.cell? ⟨b, 8, none⟩ = some (.int .i64 d) := (hst2.cell hb').trans hd_1
      have hu_2 : w2.cell? ⟨b, 9, none⟩ = some (.int .i64 u) := (hst2.cell hb').trans hu_1
      have hT2 := hT1.trans hst2
      have HR2 : Hid _ := hr2
      clear hst2 hr2
      have hr2 : Hid _ := HR2
      go_wp2_with (first | (go_at_call 68; refine fo ?_) | (go_at_call 69; refine wi ?_) | fail)
      try go_region_dies
      refine (caps_w hb b 2 3 v2 ((out ++ p1) ++ p2) c r _ (by first | exact hS2 | exact hS2.drew) (by exact hc_2) (by exact hr_2) hb' (by first | omega | (simp only [List.length_append]; omega))).mono ?_
      rintro e3 w3 ⟨hsd3, h3⟩
      have hst3 : WStep hb w2 w3 := by first | exact hsd3 | exact hsd3.ofDrew
      clear hsd3
      cases hr3 : caps.wr (c, r) with
      | none =>
        have hn : R = none := by rw [HJ.out, hr1.out, hr2.out, hr3] <;> rfl
        rw [hr3] at h3
        subst h3
        exact ⟨rfl, (hT2.trans hst3), by rw [hn]; rfl⟩
      | some p3 =>
        rw [hr3] at h3
        obtain ⟨rfl, v3, hS3⟩ := h3
        first | (rename_i hK; refine hK _ _ ?_; refine wpAny_done (by kernel_rfl) ?_ _; clear hK) | skip
        have hp3 := caps_len hr3
        have hk_3 : w3.cell? ⟨b, 0, none⟩ = some (.int .i64 9) := (hst3.cell hb').trans hk_2
        have hn_3 : w3.cell? ⟨b, 1, none⟩ = some (Str s) := (hst3.cell hb').trans hn_2
        have hc_3 : w3.cell? ⟨b, 2, none⟩ = some (.int .i64 c) := (hst3.cell hb').trans hc_2
        have hr_3 : w3.cell? ⟨b, 3, none⟩ = some (.int .i64 r) := (hst3.cell hb').trans hr_2
        have hd_3 : w3.cell? ⟨b, 8, none⟩ = some (.int .i64 d) := (hst3.cell hb').trans hd_2
        have hu_3 : w3.cell? ⟨b, 9, none⟩ = some (.int .i64 u) := (hst3.cell hb').trans hu_2
        have hT3 := hT2.trans hst3
        have HR3 : Hid _ := hr3
        clear hst3 hr3
        have hr3 : Hid _ := HR3
        go_wp2_with (first | (go_at_call 68; refine fo ?_) | (go_at_call 69; refine wi ?_) | fail)
        try go_region_dies
        refine (rights_w hb b 8 v3 (((out ++ p1) ++ p2) ++ p3) d u _ (by first | exact hS3 | exact hS3.drew) (by exact hd_3) (by exact hu_3) hb' (by first | omega | (simp only [List.length_append]; omega))).mono ?_
        rintro e4 w4 ⟨hsd4, h4⟩
        have hst4 : WStep hb w3 w4 := by first | exact hsd4 | exact hsd4.ofDrew
        clear hsd4
        cases hr4 : rights.wr (d, u) with
        | none =>
          have hn : R = none := by rw [HJ.out, hr1.out, hr2.out, hr3.out, hr4] <;> rfl
          rw [hr4] at h4
          subst h4
          exact ⟨rfl, (hT3.trans hst4), by rw [hn]; rfl⟩
        | some p4 =>
          rw [hr4] at h4
          obtain ⟨rfl, v4, hS4⟩ := h4
          first | (rename_i hK; refine hK _ _ ?_; refine wpAny_done (by kernel_rfl) ?_ _; clear hK) | skip
          go_wp2_with (first | (go_at_call 68; refine fo ?_) | (go_at_call 69; refine wi ?_) | fail)
          go_ret
          have hn : R = some (p1 ++ (p2 ++ (p3 ++ (p4)))) := by rw [HJ.out, hr1.out, hr2.out, hr3.out, hr4] <;> rfl
          exact ⟨(hT3.trans hst4), by rw [hn]; exact ⟨rfl, v4, by simpa [List.append_assoc] using hS4⟩⟩
set_option maxRecDepth 100000 in
set_option maxHeartbeats 3200000 in
theorem msg10_w (hb b : Nat) (v : Value) (out : List UInt8) (ao : Option Addr) (m cc : Nat) (l : List View) (w : World) (hS : WSt hb v out w) (hk : w.cell? ⟨b, 0, none⟩ = some (.int .i64 10)) (hvw : w.cell? ⟨b, 19, none⟩ = some (.slice ao m cc)) (hb' : b < hb) (hm : l.length = m) (hsrc : VFrom w ao l) (hsb : ∀ b1 o1, ao = some ⟨b1, o1, none⟩ → 0 < l.length → b1 < hb) (hms : m ≤ 140000000000000) (hlen : ∀ x ∈ l, x.name.length ≤ 140737488355328) (hl : out.length ≤ 800000) (R : Option (List UInt8)) (hj : R = join ((num 1 10).wr 10) (views.wr l)) :
    Calls Try.prog 32 #[WH hb, .pointer (some ⟨b, 0, none⟩)] w (WPostR hb out w R (.int .u64 512)) := by
  have HJ : Hid _ := hj
  clear hj
  have A1 := ahead_num_w ⟨hb, 0, none⟩
  have A2 := ahead_sig_w ⟨hb, 0, none⟩
  have B1 := bn 512 1 0
  have B2 := bn 512 2 0
  have B4 := bn 512 4 0
  have B8 := bn 512 8 0
  have B16 := bn 512 16 0
  have B32 := bn 512 32 0
  have B64 := bn 512 64 0
  have B128 := bn 512 128 0
  have B256 := bn 512 256 0
  have B512 := bn 512 512 512
  have E0 : hasOf 10 = 512 := by decide
  unfold WH
  try unfold Str at *
  go_enter Try.func32, Try.ntmps32
  go_wp2_with (first | (go_at_call 68; refine fo ?_) | (go_at_call 69; refine wi ?_) | fail)
  try go_region_dies
  refine (number_w hb b 0 1 10 v out 10 1 10 _ (by first | exact hS | exact hS.drew) (by exact hk) rfl rfl (by decide) (by first | omega | (simp only [List.length_append]; omega))).mono ?_
  rintro e1 w1 ⟨hsd1, h1⟩
  have hst1 : WStep hb w w1 := by first | exact hsd1 | exact hsd1.ofDrew
  clear hsd1
  cases hr1 : (num 1 10).wr 10 with
  | none =>
    have hn : R = none := by rw [HJ.out, hr1] <;> rfl
    rw [hr1] at h1
    subst h1
    exact ⟨rfl, hst1, by rw [hn]; rfl⟩
  | some p1 =>
    rw [hr1] at h1
    obtain ⟨rfl, v1, hS1⟩ := h1
    first | (rename_i hK; refine hK _ _ ?_; refine wpAny_done (by kernel_rfl) ?_ _; clear hK) | skip
    have hp1 := num_len hr1
    have hk_1 : w1.cell? ⟨b, 0, none⟩ = some (.int .i64 10) := (hst1.cell hb').trans hk
    have hvw_1 : w1.cell? ⟨b, 19, none⟩ = some (.slice ao m cc) := (hst1.cell hb').trans hvw
    have hT1 := hst1
    have HR1 : Hid _ := hr1
    clear hst1 hr1
    have hr1 : Hid _ := HR1
    go_wp2_with (first | (go_at_call 68; refine fo ?_) | (go_at_call 69; refine wi ?_) | fail)
    try go_region_dies
    refine (views_w hb b 19 v1 (out ++ p1) ao m cc l _ (by first | exact hS1 | exact hS1.drew) (by exact hvw_1) hm (by exact (hsrc.keep fun b1 o1 e h0 => hT1.below.block b1 (hsb b1 o1 e h0))) hsb hms hlen hb' (by first | omega | (simp only [List.length_append]; omega))).mono ?_
    rintro e2 w2 ⟨hsd2, h2⟩
    have hst2 : WStep hb w1 w2 := by first | exact hsd2 | exact hsd2.ofDrew
    clear hsd2
    cases hr2 : views.wr l with
    | none =>
      have hn : R = none := by rw [HJ.out, hr1.out, hr2] <;> rfl
      rw [hr2] at h2
      subst h2
      exact ⟨rfl, (hT1.trans hst2), by rw [hn]; rfl⟩
    | some p2 =>
      rw [hr2] at h2
      obtain ⟨rfl, v2, hS2⟩ := h2
      first | (rename_i hK; refine hK _ _ ?_; refine wpAny_done (by kernel_rfl) ?_ _; clear hK) | skip
      go_wp2_with (first | (go_at_call 68; refine fo ?_) | (go_at_call 69; refine wi ?_) | fail)
      go_ret
      have hn : R = some (p1 ++ (p2)) := by rw [HJ.out, hr1.out, hr2] <;> rfl
      exact ⟨(hT1.trans hst2), by rw [hn]; exact ⟨rfl, v2, by simpa [List.append_assoc] using hS2⟩⟩
end Go.Proofs.Ytfgnlfemckdfnaa
