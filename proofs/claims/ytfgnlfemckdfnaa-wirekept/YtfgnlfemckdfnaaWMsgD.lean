import Derived.Test.YtfgnlfemckdfnaaJC
namespace Go.Proofs.Ytfgnlfemckdfnaa
open Go.RowKit Go.PlainAid
set_option maxRecDepth 100000 in
set_option maxHeartbeats 3200000 in
theorem msg2z_w (hb b : Nat) (v : Value) (out : List UInt8) (s : List UInt8) (se id' c r : Int) (w : World) (hS : WSt hb v out w) (hk : w.cell? ⟨b, 0, none⟩ = some (.int .i64 2)) (hse : w.cell? ⟨b, 11, none⟩ = some (.int .i64 se)) (hid : w.cell? ⟨b, 12, none⟩ = some (.int .i64 id')) (hn : w.cell? ⟨b, 1, none⟩ = some (Str s)) (her : w.cell? ⟨b, 17, none⟩ = some (.int .i64 0)) (hc : w.cell? ⟨b, 2, none⟩ = some (.int .i64 c)) (hr : w.cell? ⟨b, 3, none⟩ = some (.int .i64 r)) (hb' : b < hb) (hs : s.length ≤ 140737488355328) (hl : out.length ≤ 800000) (R : Option (List UInt8)) (hj : R = join ((num 1 10).wr 2) (join (call.wr (se, id')) (join ((name []).wr s) (join (errno.wr 0) (caps.wr (c, r)))))) :
    Calls Try.prog 32 #[WH hb, .pointer (some ⟨b, 0, none⟩)] w (WPostR hb out w R (.int .u64 29)) := by
  have HJ : Hid _ := hj
  clear hj
  have A1 := ahead_num_w ⟨hb, 0, none⟩
  have A2 := ahead_sig_w ⟨hb, 0, none⟩
  have B1 := bn 13 1 1
  have B2 := bn 13 2 0
  have B4 := bn 13 4 4
  have B8 := bn 13 8 8
  have B16 := bn 13 16 0
  have B32 := bn 13 32 0
  have B64 := bn 13 64 0
  have B128 := bn 13 128 0
  have B256 := bn 13 256 0
  have B512 := bn 13 512 0
  have E0 : hasOf 2 = 13 := by decide
  have D1 : bits BinOp.and IntKind.u64 29 1 = 1 := by decide
  have D2 : bits BinOp.and IntKind.u64 29 2 = 0 := by decide
  have D4 : bits BinOp.and IntKind.u64 29 4 = 4 := by decide
  have D8 : bits BinOp.and IntKind.u64 29 8 = 8 := by decide
  have D16 : bits BinOp.and IntKind.u64 29 16 = 16 := by decide
  have D32 : bits BinOp.and IntKind.u64 29 32 = 0 := by decide
  have D64 : bits BinOp.and IntKind.u64 29 64 = 0 := by decide
  have D128 : bits BinOp.and IntKind.u64 29 128 = 0 := by decide
  have D256 : bits BinOp.and IntKind.u64 29 256 = 0 := by decide
  have D512 : bits BinOp.and IntKind.u64 29 512 = 0 := by decide
  have E1 : bits BinOp.or IntKind.u64 13 16 = 29 := by decide
  unfold WH
  try unfold Str at *
  go_enter Try.func32, Try.ntmps32
  go_wp2_with (first | (go_at_call 68; refine fo ?_) | (go_at_call 69; refine wi ?_) | fail)
  try go_region_dies
  refine (number_w hb b 0 1 10 v out 2 1 10 _ (by first | exact hS | exact hS.drew) (by exact hk) rfl rfl (by decide) (by first | omega | (simp only [List.length_append]; omega))).mono ?_
  rintro e1 w1 ⟨hsd1, h1⟩
  have hst1 : WStep hb w w1 := by first | exact hsd1 | exact hsd1.ofDrew
  clear hsd1
  cases hr1 : (num 1 10).wr 2 with
  | none =>
    have hn : R = none := by rw [HJ.out, hr1] <;> rfl
    rw [hr1] at h1
    subst h1
    exact ⟨rfl, hst1, by rw [hn]; rfl⟩
  | some p1 =>
    rw [hr1] at h1
    obtain ⟨rfl, v1, hS1⟩ := h1
    first | (rename_i hK; refine hK _ _ ?_; refine wpAny_done (by kernel_rfl) ?_ _; clear hK) | skip
    have hp1 := num_len hr1
    have hk_1 : w1.cell? ⟨b, 0, none⟩ = some (.int .i64 2) := (hst1.cell hb').trans hk
    have hse_1 : w1.cell? ⟨b, 11, none⟩ = some (.int .i64 se) := (hst1.cell hb').trans hse
    have hid_1 : w1.cell? ⟨b, 12, none⟩ = some (.int .i64 id') := (hst1.cell hb').trans hid
    have hn_1 : w1.cell? ⟨b, 1, none⟩ = some (Str s) := (hst1.cell hb').trans hn
    have her_1 : w1.cell? ⟨b, 17, none⟩ = some (.int .i64 0) := (hst1.cell hb').trans her
    have hc_1 : w1.cell? ⟨b, 2, none⟩ = some (.int .i64 c) := (hst1.cell hb').trans hc
    have hr_1 : w1.cell? ⟨b, 3, none⟩ = some (.int .i64 r) := (hst1.cell hb').trans hr
    have hT1 := hst1
    have HR1 : Hid _ := hr1
    clear hst1 hr1
    have hr1 : Hid _ := HR1
    go_wp2_with (first | (go_at_call 68; refine fo ?_) | (go_at_call 69; refine wi ?_) | fail)
    try go_region_dies
    refine (call_w hb b 11 v1 (out ++ p1) se id' _ (by first | exact hS1 | exact hS1.drew) (by exact hse_1) (by exact hid_1) hb' (by first | omega | (simp only [List.length_append]; omega))).mono ?_
    rintro e2 w2 ⟨hsd2, h2⟩
    have hst2 : WStep hb w1 w2 := by first | exact hsd2 | exact hsd2.ofDrew
    clear hsd2
    cases hr2 : call.wr (se, id') with
    | none =>
      have hn : R = none := by rw [HJ.out, hr1.out, hr2] <;> rfl
      rw [hr2] at h2
      subst h2
      exact ⟨rfl, (hT1.trans hst2), by rw [hn]; rfl⟩
    | some p2 =>
      rw [hr2] at h2
      obtain ⟨rfl, v2, hS2⟩ := h2
      first | (rename_i hK; refine hK _ _ ?_; refine wpAny_done (by kernel_rfl) ?_ _; clear hK) | skip
      have hp2 := call_len hr2
      have hk_2 : w2.cell? ⟨b, 0, none⟩ = some (.int .i64 2) := (hst2.cell hb').trans hk_1
      have hse_2 : w2.cell? ⟨b, 11, none⟩ = some (.int .i64 se) := (hst2.cell hb').trans hse_1
      have hid_2 : w2.cell? ⟨b, 12, none⟩ = some (.int .i64 id') := (hst2.cell hb').trans hid_1
      have hn_2 : w2.cell? ⟨b, 1, none⟩ = some (Str s) := (hst2.cell hb').trans hn_1
      have her_2 : w2.cell? ⟨b, 17, none⟩ = some (.int .i64 0) := (hst2.cell hb').trans her_1
      have hc_2 : w2.cell? ⟨b, 2, none⟩ = some (.int .i64 c) := (hst2.cell hb').trans hc_1
      have hr_2 : w2.cell? ⟨b, 3, none⟩ = some (.int .i64 r) := (hst2.cell hb').trans hr_1
      have hT2 := hT1.trans hst2
      have HR2 : Hid _ := hr2
      clear hst2 hr2
      have hr2 : Hid _ := HR2
      go_wp2_with (first | (go_at_call 68; refine fo ?_) | (go_at_call 69; refine wi ?_) | fail)
      try go_region_dies
      refine (name_w hb b 1 v2 ((out ++ p1) ++ p2) s [] _ (by first | exact hS2 | exact hS2.drew) (by exact hn_2) hb' (by first | omega | (simp only [List.length_append]; omega)) hs).mono ?_
      rintro e3 w3 ⟨hsd3, h3⟩
      have hst3 : WStep hb w2 w3 := by first | exact hsd3 | exact hsd3.ofDrew
      clear hsd3
      cases hr3 : (name []).wr s with
      | none =>
        have hn : R = none := by rw [HJ.out, hr1.out, hr2.out, hr3] <;> rfl
        rw [hr3] at h3
        subst h3
        exact ⟨rfl, (hT2.trans hst3), by rw [hn]; rfl⟩
      | some p3 =>
        rw [hr3] at h3
        obtain ⟨rfl, v3, hS3⟩ := h3
        first | (rename_i hK; refine hK _ _ ?_; refine wpAny_done (by kernel_rfl) ?_ _; clear hK) | skip
        have hp3 := name_len hr3
        have hk_3 : w3.cell? ⟨b, 0, none⟩ = some (.int .i64 2) := (hst3.cell hb').trans hk_2
        have hse_3 : w3.cell? ⟨b, 11, none⟩ = some (.int .i64 se) := (hst3.cell hb').trans hse_2
        have hid_3 : w3.cell? ⟨b, 12, none⟩ = some (.int .i64 id') := (hst3.cell hb').trans hid_2
        have hn_3 : w3.cell? ⟨b, 1, none⟩ = some (Str s) := (hst3.cell hb').trans hn_2
        have her_3 : w3.cell? ⟨b, 17, none⟩ = some (.int .i64 0) := (hst3.cell hb').trans her_2
        have hc_3 : w3.cell? ⟨b, 2, none⟩ = some (.int .i64 c) := (hst3.cell hb').trans hc_2
        have hr_3 : w3.cell? ⟨b, 3, none⟩ = some (.int .i64 r) := (hst3.cell hb').trans hr_2
        have hT3 := hT2.trans hst3
        have HR3 : Hid _ := hr3
        clear hst3 hr3
        have hr3 : Hid _ := HR3
        go_wp2_with (first | (go_at_call 68; refine fo ?_) | (go_at_call 69; refine wi ?_) | fail)
        try go_region_dies
        refine (errno_w hb b 17 v3 (((out ++ p1) ++ p2) ++ p3) 0 _ (by first | exact hS3 | exact hS3.drew) (by exact her_3) hb' (by first | omega | (simp only [List.length_append]; omega))).mono ?_
        rintro e4 w4 ⟨hsd4, h4⟩
        have hst4 : WStep hb w3 w4 := by first | exact hsd4 | exact hsd4.ofDrew
        clear hsd4
        cases hr4 : errno.wr 0 with
        | none =>
          have hn : R = none := by rw [HJ.out, hr1.out, hr2.out, hr3.out, hr4] <;> rfl
          rw [hr4] at h4
          subst h4
          exact ⟨rfl, (hT3.trans hst4), by rw [hn]; rfl⟩
        | some p4 =>
          rw [hr4] at h4
          obtain ⟨rfl, v4, hS4⟩ := h4
          first | (rename_i hK; refine hK _ _ ?_; refine wpAny_done (by kernel_rfl) ?_ _; clear hK) | skip
          have hp4 := errno_len hr4
          have hk_4 : w4.cell? ⟨b, 0, none⟩ = some (.int .i64 2) := (hst4.cell hb').trans hk_3
          have hse_4 : w4.cell? ⟨b, 11, none⟩ = some (.int .i64 se) := (hst4.cell hb').trans hse_3
          have hid_4 : w4.cell? ⟨b, 12, none⟩ = some (.int .i64 id') := (hst4.cell hb').trans hid_3
          have hn_4 : w4.cell? ⟨b, 1, none⟩ = some (Str s) := (hst4.cell hb').trans hn_3
          have her_4 : w4.cell? ⟨b, 17, none⟩ = some (.int .i64 0) := (hst4.cell hb').trans her_3
          have hc_4 : w4.cell? ⟨b, 2, none⟩ = some (.int .i64 c) := (hst4.cell hb').trans hc_3
          have hr_4 : w4.cell? ⟨b, 3, none⟩ = some (.int .i64 r) := (hst4.cell hb').trans hr_3
          have hT4 := hT3.trans hst4
          have HR4 : Hid _ := hr4
          clear hst4 hr4
          have hr4 : Hid _ := HR4
          try go_wp2_with (first | (go_at_call 68; refine fo ?_) | (go_at_call 69; refine wi ?_) | fail)
          try go_quiet (fail)
          go_wp2_with (first | (go_at_call 68; refine fo ?_) | (go_at_call 69; refine wi ?_) | fail)
          try go_region_dies
          refine (caps_w hb b 2 3 v4 ((((out ++ p1) ++ p2) ++ p3) ++ p4) c r _ (by first | exact hS4 | exact hS4.drew) (by exact hc_4) (by exact hr_4) hb' (by first | omega | (simp only [List.length_append]; omega))).mono ?_
          rintro e5 w5 ⟨hsd5, h5⟩
          have hst5 : WStep hb w4 w5 := by first | exact hsd5 | exact hsd5.ofDrew
          clear hsd5
          cases hr5 : caps.wr (c, r) with
          | none =>
            have hn : R = none := by rw [HJ.out, hr1.out, hr2.out, hr3.out, hr4.out, hr5] <;> rfl
            rw [hr5] at h5
            subst h5
            exact ⟨rfl, (hT4.trans hst5), by rw [hn]; rfl⟩
          | some p5 =>
            rw [hr5] at h5
            obtain ⟨rfl, v5, hS5⟩ := h5
            first | (rename_i hK; refine hK _ _ ?_; refine wpAny_done (by kernel_rfl) ?_ _; clear hK) | skip
            go_wp2_with (first | (go_at_call 68; refine fo ?_) | (go_at_call 69; refine wi ?_) | fail)
            go_ret
            have hn : R = some (p1 ++ (p2 ++ (p3 ++ (p4 ++ (p5))))) := by rw [HJ.out, hr1.out, hr2.out, hr3.out, hr4.out, hr5] <;> rfl
            exact ⟨(hT4.trans hst5), by rw [hn]; exact ⟨rfl, v5, by simpa [List.append_assoc] using hS5⟩⟩
set_option maxRecDepth 100000 in
set_option maxHeartbeats 3200000 in
theorem msg2x_w (hb b : Nat) (v : Value) (out : List UInt8) (s : List UInt8) (se id' c r : Int) (w : World) (hS : WSt hb v out w) (hk : w.cell? ⟨b, 0, none⟩ = some (.int .i64 2)) (hse : w.cell? ⟨b, 11, none⟩ = some (.int .i64 se)) (hid : w.cell? ⟨b, 12, none⟩ = some (.int .i64 id')) (hn : w.cell? ⟨b, 1, none⟩ = some (Str s)) (her : w.cell? ⟨b, 17, none⟩ = some (.int .i64 101)) (hc : w.cell? ⟨b, 2, none⟩ = some (.int .i64 c)) (hr : w.cell? ⟨b, 3, none⟩ = some (.int .i64 r)) (hb' : b < hb) (hs : s.length ≤ 140737488355328) (hl : out.length ≤ 800000) (R : Option (List UInt8)) (hj : R = join ((num 1 10).wr 2) (join (call.wr (se, id')) (join ((name []).wr s) (join (errno.wr 101) (caps.wr (c, r)))))) :
    Calls Try.prog 32 #[WH hb, .pointer (some ⟨b, 0, none⟩)] w (WPostR hb out w R (.int .u64 29)) := by
  have HJ : Hid _ := hj
  clear hj
  have A1 := ahead_num_w ⟨hb, 0, none⟩
  have A2 := ahead_sig_w ⟨hb, 0, none⟩
  have B1 := bn 13 1 1
  have B2 := bn 13 2 0
  have B4 := bn 13 4 4
  have B8 := bn 13 8 8
  have B16 := bn 13 16 0
  have B32 := bn 13 32 0
  have B64 := bn 13 64 0
  have B128 := bn 13 128 0
  have B256 := bn 13 256 0
  have B512 := bn 13 512 0
  have E0 : hasOf 2 = 13 := by decide
  have D1 : bits BinOp.and IntKind.u64 29 1 = 1 := by decide
  have D2 : bits BinOp.and IntKind.u64 29 2 = 0 := by decide
  have D4 : bits BinOp.and IntKind.u64 29 4 = 4 := by decide
  have D8 : bits BinOp.and IntKind.u64 29 8 = 8 := by decide
  have D16 : bits BinOp.and IntKind.u64 29 16 = 16 := by decide
  have D32 : bits BinOp.and IntKind.u64 29 32 = 0 := by decide
  have D64 : bits BinOp.and IntKind.u64 29 64 = 0 := by decide
  have D128 : bits BinOp.and IntKind.u64 29 128 = 0 := by decide
  have D256 : bits BinOp.and IntKind.u64 29 256 = 0 := by decide
  have D512 : bits BinOp.and IntKind.u64 29 512 = 0 := by decide
  have E1 : bits BinOp.or IntKind.u64 13 16 = 29 := by decide
  unfold WH
  try unfold Str at *
  go_enter Try.func32, Try.ntmps32
  go_wp2_with (first | (go_at_call 68; refine fo ?_) | (go_at_call 69; refine wi ?_) | fail)
  try go_region_dies
  refine (number_w hb b 0 1 10 v out 2 1 10 _ (by first | exact hS | exact hS.drew) (by exact hk) rfl rfl (by decide) (by first | omega | (simp only [List.length_append]; omega))).mono ?_
  rintro e1 w1 ⟨hsd1, h1⟩
  have hst1 : WStep hb w w1 := by first | exact hsd1 | exact hsd1.ofDrew
  clear hsd1
  cases hr1 : (num 1 10).wr 2 with
  | none =>
    have hn : R = none := by rw [HJ.out, hr1] <;> rfl
    rw [hr1] at h1
    subst h1
    exact ⟨rfl, hst1, by rw [hn]; rfl⟩
  | some p1 =>
    rw [hr1] at h1
    obtain ⟨rfl, v1, hS1⟩ := h1
    first | (rename_i hK; refine hK _ _ ?_; refine wpAny_done (by kernel_rfl) ?_ _; clear hK) | skip
    have hp1 := num_len hr1
    have hk_1 : w1.cell? ⟨b, 0, none⟩ = some (.int .i64 2) := (hst1.cell hb').trans hk
    have hse_1 : w1.cell? ⟨b, 11, none⟩ = some (.int .i64 se) := (hst1.cell hb').trans hse
    have hid_1 : w1.cell? ⟨b, 12, none⟩ = some (.int .i64 id') := (hst1.cell hb').trans hid
    have hn_1 : w1.cell? ⟨b, 1, none⟩ = some (Str s) := (hst1.cell hb').trans hn
    have her_1 : w1.cell? ⟨b, 17, none⟩ = some (.int .i64 101) := (hst1.cell hb').trans her
    have hc_1 : w1.cell? ⟨b, 2, none⟩ = some (.int .i64 c) := (hst1.cell hb').trans hc
    have hr_1 : w1.cell? ⟨b, 3, none⟩ = some (.int .i64 r) := (hst1.cell hb').trans hr
    have hT1 := hst1
    have HR1 : Hid _ := hr1
    clear hst1 hr1
    have hr1 : Hid _ := HR1
    go_wp2_with (first | (go_at_call 68; refine fo ?_) | (go_at_call 69; refine wi ?_) | fail)
    try go_region_dies
    refine (call_w hb b 11 v1 (out ++ p1) se id' _ (by first | exact hS1 | exact hS1.drew) (by exact hse_1) (by exact hid_1) hb' (by first | omega | (simp only [List.length_append]; omega))).mono ?_
    rintro e2 w2 ⟨hsd2, h2⟩
    have hst2 : WStep hb w1 w2 := by first | exact hsd2 | exact hsd2.ofDrew
    clear hsd2
    cases hr2 : call.wr (se, id') with
    | none =>
      have hn : R = none := by rw [HJ.out, hr1.out, hr2] <;> rfl
      rw [hr2] at h2
      subst h2
      exact ⟨rfl, (hT1.trans hst2), by rw [hn]; rfl⟩
    | some p2 =>
      rw [hr2] at h2
      obtain ⟨rfl, v2, hS2⟩ := h2
      first | (rename_i hK; refine hK _ _ ?_; refine wpAny_done (by kernel_rfl) ?_ _; clear hK) | skip
      have hp2 := call_len hr2
      have hk_2 : w2.cell? ⟨b, 0, none⟩ = some (.int .i64 2) := (hst2.cell hb').trans hk_1
      have hse_2 : w2.cell? ⟨b, 11, none⟩ = some (.int .i64 se) := (hst2.cell hb').trans hse_1
      have hid_2 : w2.cell? ⟨b, 12, none⟩ = some (.int .i64 id') := (hst2.cell hb').trans hid_1
      have hn_2 : w2.cell? ⟨b, 1, none⟩ = some (Str s) := (hst2.cell hb').trans hn_1
      have her_2 : w2.cell? ⟨b, 17, none⟩ = some (.int .i64 101) := (hst2.cell hb').trans her_1
      have hc_2 : w2.cell? ⟨b, 2, none⟩ = some (.int .i64 c) := (hst2.cell hb').trans hc_1
      have hr_2 : w2.cell? ⟨b, 3, none⟩ = some (.int .i64 r) := (hst2.cell hb').trans hr_1
      have hT2 := hT1.trans hst2
      have HR2 : Hid _ := hr2
      clear hst2 hr2
      have hr2 : Hid _ := HR2
      go_wp2_with (first | (go_at_call 68; refine fo ?_) | (go_at_call 69; refine wi ?_) | fail)
      try go_region_dies
      refine (name_w hb b 1 v2 ((out ++ p1) ++ p2) s [] _ (by first | exact hS2 | exact hS2.drew) (by exact hn_2) hb' (by first | omega | (simp only [List.length_append]; omega)) hs).mono ?_
      rintro e3 w3 ⟨hsd3, h3⟩
      have hst3 : WStep hb w2 w3 := by first | exact hsd3 | exact hsd3.ofDrew
      clear hsd3
      cases hr3 : (name []).wr s with
      | none =>
        have hn : R = none := by rw [HJ.out, hr1.out, hr2.out, hr3] <;> rfl
        rw [hr3] at h3
        subst h3
        exact ⟨rfl, (hT2.trans hst3), by rw [hn]; rfl⟩
      | some p3 =>
        rw [hr3] at h3
        obtain ⟨rfl, v3, hS3⟩ := h3
        first | (rename_i hK; refine hK _ _ ?_; refine wpAny_done (by kernel_rfl) ?_ _; clear hK) | skip
        have hp3 := name_len hr3
        have hk_3 : w3.cell? ⟨b, 0, none⟩ = some (.int .i64 2) := (hst3.cell hb').trans hk_2
        have hse_3 : w3.cell? ⟨b, 11, none⟩ = some (.int .i64 se) := (hst3.cell hb').trans hse_2
        have hid_3 : w3.cell? ⟨b, 12, none⟩ = some (.int .i64 id') := (hst3.cell hb').trans hid_2
        have hn_3 : w3.cell? ⟨b, 1, none⟩ = some (Str s) := (hst3.cell hb').trans hn_2
        have her_3 : w3.cell? ⟨b, 17, none⟩ = some (.int .i64 101) := (hst3.cell hb').trans her_2
        have hc_3 : w3.cell? ⟨b, 2, none⟩ = some (.int .i64 c) := (hst3.cell hb').trans hc_2
        have hr_3 : w3.cell? ⟨b, 3, none⟩ = some (.int .i64 r) := (hst3.cell hb').trans hr_2
        have hT3 := hT2.trans hst3
        have HR3 : Hid _ := hr3
        clear hst3 hr3
        have hr3 : Hid _ := HR3
        go_wp2_with (first | (go_at_call 68; refine fo ?_) | (go_at_call 69; refine wi ?_) | fail)
        try go_region_dies
        refine (errno_w hb b 17 v3 (((out ++ p1) ++ p2) ++ p3) 101 _ (by first | exact hS3 | exact hS3.drew) (by exact her_3) hb' (by first | omega | (simp only [List.length_append]; omega))).mono ?_
        rintro e4 w4 ⟨hsd4, h4⟩
        have hst4 : WStep hb w3 w4 := by first | exact hsd4 | exact hsd4.ofDrew
        clear hsd4
        cases hr4 : errno.wr 101 with
        | none =>
          have hn : R = none := by rw [HJ.out, hr1.out, hr2.out, hr3.out, hr4] <;> rfl
          rw [hr4] at h4
          subst h4
          exact ⟨rfl, (hT3.trans hst4), by rw [hn]; rfl⟩
        | some p4 =>
          rw [hr4] at h4
          obtain ⟨rfl, v4, hS4⟩ := h4
          first | (rename_i hK; refine hK _ _ ?_; refine wpAny_done (by kernel_rfl) ?_ _; clear hK) | skip
          have hp4 := errno_len hr4
          have hk_4 : w4.cell? ⟨b, 0, none⟩ = some (.int .i64 2) := (hst4.cell hb').trans hk_3
          have hse_4 : w4.cell? ⟨b, 11, none⟩ = some (.int .i64 se) := (hst4.cell hb').trans hse_3
          have hid_4 : w4.cell? ⟨b, 12, none⟩ = some (.int .i64 id') := (hst4.cell hb').trans hid_3
          have hn_4 : w4.cell? ⟨b, 1, none⟩ = some (Str s) := (hst4.cell hb').trans hn_3
          have her_4 : w4.cell? ⟨b, 17, none⟩ = some (.int .i64 101) := (hst4.cell hb').trans her_3
          have hc_4 : w4.cell? ⟨b, 2, none⟩ = some (.int .i64 c) := (hst4.cell hb').trans hc_3
          have hr_4 : w4.cell? ⟨b, 3, none⟩ = some (.int .i64 r) := (hst4.cell hb').trans hr_3
          have hT4 := hT3.trans hst4
          have HR4 : Hid _ := hr4
          clear hst4 hr4
          have hr4 : Hid _ := HR4
          try go_wp2_with (first | (go_at_call 68; refine fo ?_) | (go_at_call 69; refine wi ?_) | fail)
          try go_quiet (fail)
          go_wp2_with (first | (go_at_call 68; refine fo ?_) | (go_at_call 69; refine wi ?_) | fail)
          try go_region_dies
          refine (caps_w hb b 2 3 v4 ((((out ++ p1) ++ p2) ++ p3) ++ p4) c r _ (by first | exact hS4 | exact hS4.drew) (by exact hc_4) (by exact hr_4) hb' (by first | omega | (simp only [List.length_append]; omega))).mono ?_
          rintro e5 w5 ⟨hsd5, h5⟩
          have hst5 : WStep hb w4 w5 := by first | exact hsd5 | exact hsd5.ofDrew
          clear hsd5
          cases hr5 : caps.wr (c, r) with
          | none =>
            have hn : R = none := by rw [HJ.out, hr1.out, hr2.out, hr3.out, hr4.out, hr5] <;> rfl
            rw [hr5] at h5
            subst h5
            exact ⟨rfl, (hT4.trans hst5), by rw [hn]; rfl⟩
          | some p5 =>
            rw [hr5] at h5
            obtain ⟨rfl, v5, hS5⟩ := h5
            first | (rename_i hK; refine hK _ _ ?_; refine wpAny_done (by kernel_rfl) ?_ _; clear hK) | skip
            go_wp2_with (first | (go_at_call 68; refine fo ?_) | (go_at_call 69; refine wi ?_) | fail)
            go_ret
            have hn : R = some (p1 ++ (p2 ++ (p3 ++ (p4 ++ (p5))))) := by rw [HJ.out, hr1.out, hr2.out, hr3.out, hr4.out, hr5] <;> rfl
            exact ⟨(hT4.trans hst5), by rw [hn]; exact ⟨rfl, v5, by simpa [List.append_assoc] using hS5⟩⟩
set_option maxRecDepth 100000 in
set_option maxHeartbeats 3200000 in
theorem msg2n_w (hb b : Nat) (v : Value) (out : List UInt8) (s : List UInt8) (se id' er : Int) (w : World) (hS : WSt hb v out w) (hk : w.cell? ⟨b, 0, none⟩ = some (.int .i64 2)) (hse : w.cell? ⟨b, 11, none⟩ = some (.int .i64 se)) (hid : w.cell? ⟨b, 12, none⟩ = some (.int .i64 id')) (hn : w.cell? ⟨b, 1, none⟩ = some (Str s)) (her : w.cell? ⟨b, 17, none⟩ = some (.int .i64 er)) (hb' : b < hb) (hs : s.length ≤ 140737488355328) (he0 : (er == 0) = false) (he1 : (er == 101) = false) (hl : out.length ≤ 800000) (R : Option (List UInt8)) (hj : R = join ((num 1 10).wr 2) (join (call.wr (se, id')) (join ((name []).wr s) (errno.wr er)))) :
    Calls Try.prog 32 #[WH hb, .pointer (some ⟨b, 0, none⟩)] w (WPostR hb out w R (.int .u64 13)) := by
  have HJ : Hid _ := hj
  clear hj
  have A1 := ahead_num_w ⟨hb, 0, none⟩
  have A2 := ahead_sig_w ⟨hb, 0, none⟩
  have B1 := bn 13 1 1
  have B2 := bn 13 2 0
  have B4 := bn 13 4 4
  have B8 := bn 13 8 8
  have B16 := bn 13 16 0
  have B32 := bn 13 32 0
  have B64 := bn 13 64 0
  have B128 := bn 13 128 0
  have B256 := bn 13 256 0
  have B512 := bn 13 512 0
  have E0 : hasOf 2 = 13 := by decide
  unfold WH
  try unfold Str at *
  go_enter Try.func32, Try.ntmps32
  go_wp2_with (first | (go_at_call 68; refine fo ?_) | (go_at_call 69; refine wi ?_) | fail)
  try go_region_dies
  refine (number_w hb b 0 1 10 v out 2 1 10 _ (by first | exact hS | exact hS.drew) (by exact hk) rfl rfl (by decide) (by first | omega | (simp only [List.length_append]; omega))).mono ?_
  rintro e1 w1 ⟨hsd1, h1⟩
  have hst1 : WStep hb w w1 := by first | exact hsd1 | exact hsd1.ofDrew
  clear hsd1
  cases hr1 : (num 1 10).wr 2 with
  | none =>
    have hn : R = none := by rw [HJ.out, hr1] <;> rfl
    rw [hr1] at h1
    subst h1
    exact ⟨rfl, hst1, by rw [hn]; rfl⟩
  | some p1 =>
    rw [hr1] at h1
    obtain ⟨rfl, v1, hS1⟩ := h1
    first | (rename_i hK; refine hK _ _ ?_; refine wpAny_done (by kernel_rfl) ?_ _; clear hK) | skip
    have hp1 := num_len hr1
    have hk_1 : w1.cell? ⟨b, 0, none⟩ = some (.int .i64 2) := (hst1.cell hb').trans hk
    have hse_1 : w1.cell? ⟨b, 11, none⟩ = some (.int .i64 se) := (hst1.cell hb').trans hse
    have hid_1 : w1.cell? ⟨b, 12, none⟩ = some (.int .i64 id') := (hst1.cell hb').trans hid
    have hn_1 : w1.cell? ⟨b, 1, none⟩ = some (Str s) := (hst1.cell hb').trans hn
    have her_1 : w1.cell? ⟨b, 17, none⟩ = some (.int .i64 er) := (hst1.cell hb').trans her
    have hT1 := hst1
    have HR1 : Hid _ := hr1
    clear hst1 hr1
    have hr1 : Hid _ := HR1
    go_wp2_with (first | (go_at_call 68; refine fo ?_) | (go_at_call 69; refine wi ?_) | fail)
    try go_region_dies
    refine (call_w hb b 11 v1 (out ++ p1) se id' _ (by first | exact hS1 | exact hS1.drew) (by exact hse_1) (by exact hid_1) hb' (by first | omega | (simp only [List.length_append]; omega))).mono ?_
    rintro e2 w2 ⟨hsd2, h2⟩
    have hst2 : WStep hb w1 w2 := by first | exact hsd2 | exact hsd2.ofDrew
    clear hsd2
    cases hr2 : call.wr (se, id') with
    | none =>
      have hn : R = none := by rw [HJ.out, hr1.out, hr2] <;> rfl
      rw [hr2] at h2
      subst h2
      exact ⟨rfl, (hT1.trans hst2), by rw [hn]; rfl⟩
    | some p2 =>
      rw [hr2] at h2
      obtain ⟨rfl, v2, hS2⟩ := h2
      first | (rename_i hK; refine hK _ _ ?_; refine wpAny_done (by kernel_rfl) ?_ _; clear hK) | skip
      have hp2 := call_len hr2
      have hk_2 : w2.cell? ⟨b, 0, none⟩ = some (.int .i64 2) := (hst2.cell hb').trans hk_1
      have hse_2 : w2.cell? ⟨b, 11, none⟩ = some (.int .i64 se) := (hst2.cell hb').trans hse_1
      have hid_2 : w2.cell? ⟨b, 12, none⟩ = some (.int .i64 id') := (hst2.cell hb').trans hid_1
      have hn_2 : w2.cell? ⟨b, 1, none⟩ = some (Str s) := (hst2.cell hb').trans hn_1
      have her_2 : w2.cell? ⟨b, 17, none⟩ = some (.int .i64 er) := (hst2.cell hb').trans her_1
      have hT2 := hT1.trans hst2
      have HR2 : Hid _ := hr2
      clear hst2 hr2
      have hr2 : Hid _ := HR2
      go_wp2_with (first | (go_at_call 68; refine fo ?_) | (go_at_call 69; refine wi ?_) | fail)
      try go_region_dies
      refine (name_w hb b 1 v2 ((out ++ p1) ++ p2) s [] _ (by first | exact hS2 | exact hS2.drew) (by exact hn_2) hb' (by first | omega | (simp only [List.length_append]; omega)) hs).mono ?_
      rintro e3 w3 ⟨hsd3, h3⟩
      have hst3 : WStep hb w2 w3 := by first | exact hsd3 | exact hsd3.ofDrew
      clear hsd3
      cases hr3 : (name []).wr s with
      | none =>
        have hn : R = none := by rw [HJ.out, hr1.out, hr2.out, hr3] <;> rfl
        rw [hr3] at h3
        subst h3
        exact ⟨rfl, (hT2.trans hst3), by rw [hn]; rfl⟩
      | some p3 =>
        rw [hr3] at h3
        obtain ⟨rfl, v3, hS3⟩ := h3
        first | (rename_i hK; refine hK _ _ ?_; refine wpAny_done (by kernel_rfl) ?_ _; clear hK) | skip
        have hp3 := name_len hr3
        have hk_3 : w3.cell? ⟨b, 0, none⟩ = some (.int .i64 2) := (hst3.cell hb').trans hk_2
        have hse_3 : w3.cell? ⟨b, 11, none⟩ = some (.int .i64 se) := (hst3.cell hb').trans hse_2
        have hid_3 : w3.cell? ⟨b, 12, none⟩ = some (.int .i64 id') := (hst3.cell hb').trans hid_2
        have hn_3 : w3.cell? ⟨b, 1, none⟩ = some (Str s) := (hst3.cell hb').trans hn_2
        have her_3 : w3.cell? ⟨b, 17, none⟩ = some (.int .i64 er) := (hst3.cell hb').trans her_2
        have hT3 := hT2.trans hst3
        have HR3 : Hid _ := hr3
        clear hst3 hr3
        have hr3 : Hid _ := HR3
        go_wp2_with (first | (go_at_call 68; refine fo ?_) | (go_at_call 69; refine wi ?_) | fail)
        try go_region_dies
        refine (errno_w hb b 17 v3 (((out ++ p1) ++ p2) ++ p3) er _ (by first | exact hS3 | exact hS3.drew) (by exact her_3) hb' (by first | omega | (simp only [List.length_append]; omega))).mono ?_
        rintro e4 w4 ⟨hsd4, h4⟩
        have hst4 : WStep hb w3 w4 := by first | exact hsd4 | exact hsd4.ofDrew
        clear hsd4
        cases hr4 : errno.wr er with
        | none =>
          have hn : R = none := by rw [HJ.out, hr1.out, hr2.out, hr3.out, hr4] <;> rfl
          rw [hr4] at h4
          subst h4
          exact ⟨rfl, (hT3.trans hst4), by rw [hn]; rfl⟩
        | some p4 =>
          rw [hr4] at h4
          obtain ⟨rfl, v4, hS4⟩ := h4
          first | (rename_i hK; refine hK _ _ ?_; refine wpAny_done (by kernel_rfl) ?_ _; clear hK) | skip
          have her_4 : w4.cell? ⟨b, 17, none⟩ = some (.int .i64 er) := (hst4.cell hb').trans her_3
          try go_wp2_with (first | (go_at_call 68; refine fo ?_) | (go_at_call 69; refine wi ?_) | fail)
          try go_quiet (fail)
          go_wp2_with (first | (go_at_call 68; refine fo ?_) | (go_at_call 69; refine wi ?_) | fail)
          go_ret
          have hn : R = some (p1 ++ (p2 ++ (p3 ++ (p4)))) := by rw [HJ.out, hr1.out, hr2.out, hr3.out, hr4] <;> rfl
          exact ⟨(hT3.trans hst4), by rw [hn]; exact ⟨rfl, v4, by simpa [List.append_assoc] using hS4⟩⟩
end Go.Proofs.Ytfgnlfemckdfnaa
