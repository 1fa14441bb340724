import Derived.Test.YtfgnlfemckdfnaaJC
namespace Go.Proofs.Ytfgnlfemckdfnaa
open Go.RowKit Go.PlainAid
set_option maxRecDepth 100000 in
set_option maxHeartbeats 3200000 in
theorem msg1_w (hb b : Nat) (v : Value) (out : List UInt8) (os : List UInt8) (se id' ok oa ob : Int) (w : World) (hS : WSt hb v out w) (hk : w.cell? ⟨b, 0, none⟩ = some (.int .i64 1)) (hse : w.cell? ⟨b, 11, none⟩ = some (.int .i64 se)) (hid : w.cell? ⟨b, 12, none⟩ = some (.int .i64 id')) (hok : w.cell? ⟨b, 13, none⟩ = some (.int .i64 ok)) (hon : w.cell? ⟨b, 14, none⟩ = some (Str os)) (hoa : w.cell? ⟨b, 15, none⟩ = some (.int .i64 oa)) (hob : w.cell? ⟨b, 16, none⟩ = some (.int .i64 ob)) (hb' : b < hb) (hos : os.length ≤ 140737488355328) (hoa1 : (-9223372036854775808 : Int) ≤ oa) (hoa2 : oa < 9223372036854775808) (hob1 : (-9223372036854775808 : Int) ≤ ob) (hob2 : ob < 9223372036854775808) (hl : out.length ≤ 800000) (R : Option (List UInt8)) (hj : R = join ((num 1 10).wr 1) (join (call.wr (se, id')) (op.wr (ok, os, oa, ob)))) :
    Calls Try.prog 32 #[WH hb, .pointer (some ⟨b, 0, none⟩)] w (WPostR hb out w R (.int .u64 3)) := by
  have HJ : Hid _ := hj
  clear hj
  have A1 := ahead_num_w ⟨hb, 0, none⟩
  have A2 := ahead_sig_w ⟨hb, 0, none⟩
  have B1 := bn 3 1 1
  have B2 := bn 3 2 2
  have B4 := bn 3 4 0
  have B8 := bn 3 8 0
  have B16 := bn 3 16 0
  have B32 := bn 3 32 0
  have B64 := bn 3 64 0
  have B128 := bn 3 128 0
  have B256 := bn 3 256 0
  have B512 := bn 3 512 0
  have E0 : hasOf 1 = 3 := by decide
  unfold WH
  try unfold Str at *
  go_enter Try.func32, Try.ntmps32
  go_wp2_with (first | (go_at_call 68; refine fo ?_) | (go_at_call 69; refine wi ?_) | fail)
  try go_region_dies
  refine (number_w hb b 0 1 10 v out 1 1 10 _ (by first | exact hS | exact hS.drew) (by exact hk) rfl rfl (by decide) (by first | omega | (simp only [List.length_append]; omega))).mono ?_
  rintro e1 w1 ⟨hsd1, h1⟩
  have hst1 : WStep hb w w1 := by first | exact hsd1 | exact hsd1.ofDrew
  clear hsd1
  cases hr1 : (num 1 10).wr 1 with
  | none =>
    have hn : R = none := by rw [HJ.out, hr1] <;> rfl
    rw [hr1] at h1
    subst h1
    exact ⟨rfl, hst1, by rw [hn]; rfl⟩
  | some p1 =>
    rw [hr1] at h1
    obtain ⟨rfl, v1, hS1⟩ := h1
    first | (rename_i hK; refine hK _ _ ?_; refine wpAny_done (by kernel_rfl) ?_ _; clear hK) | skip
    have hp1 := num_len hr1
    have hk_1 : w1.cell? ⟨b, 0, none⟩ = some (.int .i64 1) := (hst1.cell hb').trans hk
    have hse_1 : w1.cell? ⟨b, 11, none⟩ = some (.int .i64 se) := (hst1.cell hb').trans hse
    have hid_1 : w1.cell? ⟨b, 12, none⟩ = some (.int .i64 id') := (hst1.cell hb').trans hid
    have hok_1 : w1.cell? ⟨b, 13, none⟩ = some (.int .i64 ok) := (hst1.cell hb').trans hok
    have hon_1 : w1.cell? ⟨b, 14, none⟩ = some (Str os) := (hst1.cell hb').trans hon
    have hoa_1 : w1.cell? ⟨b, 15, none⟩ = some (.int .i64 oa) := (hst1.cell hb').trans hoa
    have hob_1 : w1.cell? ⟨b, 16, none⟩ = some (.int .i64 ob) := (hst1.cell hb').trans hob
    have hT1 := hst1
    have HR1 : Hid _ := hr1
    clear hst1 hr1
    have hr1 : Hid _ := HR1
    go_wp2_with (first | (go_at_call 68; refine fo ?_) | (go_at_call 69; refine wi ?_) | fail)
    try go_region_dies
    refine (call_w hb b 11 v1 (out ++ p1) se id' _ (by first | exact hS1 | exact hS1.drew) (by exact hse_1) (by exact hid_1) hb' (by first | omega | (simp only [List.length_append]; omega))).mono ?_
    rintro e2 w2 ⟨hsd2, h2⟩
    have hst2 : WStep hb w1 w2 := by first | exact hsd2 | exact hsd2.ofDrew
    clear hsd2
    cases hr2 : call.wr (se, id') with
    | none =>
      have hn : R = none := by rw [HJ.out, hr1.out, hr2] <;> rfl
      rw [hr2] at h2
      subst h2
      exact ⟨rfl, (hT1.trans hst2), by rw [hn]; rfl⟩
    | some p2 =>
      rw [hr2] at h2
      obtain ⟨rfl, v2, hS2⟩ := h2
      first | (rename_i hK; refine hK _ _ ?_; refine wpAny_done (by kernel_rfl) ?_ _; clear hK) | skip
      have hp2 := call_len hr2
      have hk_2 : w2.cell? ⟨b, 0, none⟩ = some (.int .i64 1) := (hst2.cell hb').trans hk_1
      have hse_2 : w2.cell? ⟨b, 11, none⟩ = some (.int .i64 se) := (hst2.cell hb').trans hse_1
      have hid_2 : w2.cell? ⟨b, 12, none⟩ = some (.int .i64 id') := (hst2.cell hb').trans hid_1
      have hok_2 : w2.cell? ⟨b, 13, none⟩ = some (.int .i64 ok) := (hst2.cell hb').trans hok_1
      have hon_2 : w2.cell? ⟨b, 14, none⟩ = some (Str os) := (hst2.cell hb').trans hon_1
      have hoa_2 : w2.cell? ⟨b, 15, none⟩ = some (.int .i64 oa) := (hst2.cell hb').trans hoa_1
      have hob_2 : w2.cell? ⟨b, 16, none⟩ = some (.int .i64 ob) := (hst2.cell hb').trans hob_1
      have hT2 := hT1.trans hst2
      have HR2 : Hid _ := hr2
      clear hst2 hr2
      have hr2 : Hid _ := HR2
      go_wp2_with (first | (go_at_call 68; refine fo ?_) | (go_at_call 69; refine wi ?_) | fail)
      try go_region_dies
      refine (op_w hb b 13 v2 ((out ++ p1) ++ p2) ok os oa ob _ (by first | exact hS2 | exact hS2.drew) (by exact hok_2) (by exact hon_2) (by exact hoa_2) (by exact hob_2) hb' hos hoa1 hoa2 hob1 hob2 (by first | omega | (simp only [List.length_append]; omega))).mono ?_
      rintro e3 w3 ⟨hsd3, h3⟩
      have hst3 : WStep hb w2 w3 := by first | exact hsd3 | exact hsd3.ofDrew
      clear hsd3
      cases hr3 : op.wr (ok, os, oa, ob) with
      | none =>
        have hn : R = none := by rw [HJ.out, hr1.out, hr2.out, hr3] <;> rfl
        rw [hr3] at h3
        subst h3
        exact ⟨rfl, (hT2.trans hst3), by rw [hn]; rfl⟩
      | some p3 =>
        rw [hr3] at h3
        obtain ⟨rfl, v3, hS3⟩ := h3
        first | (rename_i hK; refine hK _ _ ?_; refine wpAny_done (by kernel_rfl) ?_ _; clear hK) | skip
        go_wp2_with (first | (go_at_call 68; refine fo ?_) | (go_at_call 69; refine wi ?_) | fail)
        go_ret
        have hn : R = some (p1 ++ (p2 ++ (p3))) := by rw [HJ.out, hr1.out, hr2.out, hr3] <;> rfl
        exact ⟨(hT2.trans hst3), by rw [hn]; exact ⟨rfl, v3, by simpa [List.append_assoc] using hS3⟩⟩
set_option maxRecDepth 100000 in
set_option maxHeartbeats 3200000 in
theorem msg3_w (hb b : Nat) (v : Value) (out : List UInt8) (s : List UInt8) (c r p q : Int) (w : World) (hS : WSt hb v out w) (hk : w.cell? ⟨b, 0, none⟩ = some (.int .i64 3)) (hn : w.cell? ⟨b, 1, none⟩ = some (Str s)) (hc : w.cell? ⟨b, 2, none⟩ = some (.int .i64 c)) (hr : w.cell? ⟨b, 3, none⟩ = some (.int .i64 r)) (hp : w.cell? ⟨b, 4, none⟩ = some (.int .i64 p)) (hq : w.cell? ⟨b, 5, none⟩ = some (.int .i64 q)) (hb' : b < hb) (hs : s.length ≤ 140737488355328) (hl : out.length ≤ 800000) (R : Option (List UInt8)) (hj : R = join ((num 1 10).wr 3) (join ((name []).wr s) (join (caps.wr (c, r)) (epoch.wr (p, q))))) :
    Calls Try.prog 32 #[WH hb, .pointer (some ⟨b, 0, none⟩)] w (WPostR hb out w R (.int .u64 52)) := by
  have HJ : Hid _ := hj
  clear hj
  have A1 := ahead_num_w ⟨hb, 0, none⟩
  have A2 := ahead_sig_w ⟨hb, 0, none⟩
  have B1 := bn 52 1 0
  have B2 := bn 52 2 0
  have B4 := bn 52 4 4
  have B8 := bn 52 8 0
  have B16 := bn 52 16 16
  have B32 := bn 52 32 32
  have B64 := bn 52 64 0
  have B128 := bn 52 128 0
  have B256 := bn 52 256 0
  have B512 := bn 52 512 0
  have E0 : hasOf 3 = 52 := by decide
  unfold WH
  try unfold Str at *
  go_enter Try.func32, Try.ntmps32
  go_wp2_with (first | (go_at_call 68; refine fo ?_) | (go_at_call 69; refine wi ?_) | fail)
  try go_region_dies
  refine (number_w hb b 0 1 10 v out 3 1 10 _ (by first | exact hS | exact hS.drew) (by exact hk) rfl rfl (by decide) (by first | omega | (simp only [List.length_append]; omega))).mono ?_
  rintro e1 w1 ⟨hsd1, h1⟩
  have hst1 : WStep hb w w1 := by first | exact hsd1 | exact hsd1.ofDrew
  clear hsd1
  cases hr1 : (num 1 10).wr 3 with
  | none =>
    have hn : R = none := by rw [HJ.out, hr1] <;> rfl
    rw [hr1] at h1
    subst h1
    exact ⟨rfl, hst1, by rw [hn]; rfl⟩
  | some p1 =>
    rw [hr1] at h1
    obtain ⟨rfl, v1, hS1⟩ := h1
    first | (rename_i hK; refine hK _ _ ?_; refine wpAny_done (by kernel_rfl) ?_ _; clear hK) | skip
    have hp1 := num_len hr1
    have hk_1 : w1.cell? ⟨b, 0, none⟩ = some (.int .i64 3) := (hst1.cell hb').trans hk
    have hn_1 : w1.cell? ⟨b, 1, none⟩ = some (Str s) := (hst1.cell hb').trans hn
    have hc_1 : w1.cell? ⟨b, 2, none⟩ = some (.int .i64 c) := (hst1.cell hb').trans hc
    have hr_1 : w1.cell? ⟨b, 3, none⟩ = some (.int .i64 r) := (hst1.cell hb').trans hr
    have hp_1 : w1.cell? ⟨b, 4, none⟩ = some (.int .i64 p) := (hst1.cell hb').trans hp
    have hq_1 : w1.cell? ⟨b, 5, none⟩ = some (.int .i64 q) := (hst1.cell hb').trans hq
    have hT1 := hst1
    have HR1 : Hid _ := hr1
    clear hst1 hr1
    have hr1 : Hid _ := HR1
    go_wp2_with (first | (go_at_call 68; refine fo ?_) | (go_at_call 69; refine wi ?_) | fail)
    try go_region_dies
    refine (name_w hb b 1 v1 (out ++ p1) s [] _ (by first | exact hS1 | exact hS1.drew) (by exact hn_1) hb' (by first | omega | (simp only [List.length_append]; omega)) hs).mono ?_
    rintro e2 w2 ⟨hsd2, h2⟩
    have hst2 : WStep hb w1 w2 := by first | exact hsd2 | exact hsd2.ofDrew
    clear hsd2
    cases hr2 : (name []).wr s with
    | none =>
      have hn : R = none := by rw [HJ.out, hr1.out, hr2] <;> rfl
      rw [hr2] at h2
      subst h2
      exact ⟨rfl, (hT1.trans hst2), by rw [hn]; rfl⟩
    | some p2 =>
      rw [hr2] at h2
      obtain ⟨rfl, v2, hS2⟩ := h2
      first | (rename_i hK; refine hK _ _ ?_; refine wpAny_done (by kernel_rfl) ?_ _; clear hK) | skip
      have hp2 := name_len hr2
      have hk_2 : w2.cell? ⟨b, 0, none⟩ = some (.int .i64 3) := (hst2.cell hb').trans hk_1
      have hn_2 : w2.cell? ⟨b, 1, none⟩ = some (Str s) := (hst2.cell hb').trans hn_1
      have hc_2 : w2.cell? ⟨b, 2, none⟩ = some (.int .i64 c) := (hst2.cell hb').trans hc_1
      have hr_2 : w2.cell? ⟨b, 3, none⟩ = some (.int .i64 r) := (hst2.cell hb').trans hr_1
      have hp_2 : w2.cell? ⟨b, 4, none⟩ = some (.int .i64 p) := (hst2.cell hb').trans hp_1
      have hq_2 : w2.cell? ⟨b, 5, none⟩ = some (.int .i64 q) := (hst2.cell hb').trans hq_1
      have hT2 := hT1.trans hst2
      have HR2 : Hid _ := hr2
      clear hst2 hr2
      have hr2 : Hid _ := HR2
      go_wp2_with (first | (go_at_call 68; refine fo ?_) | (go_at_call 69; refine wi ?_) | fail)
      try go_region_dies
      refine (caps_w hb b 2 3 v2 ((out ++ p1) ++ p2) c r _ (by first | exact hS2 | exact hS2.drew) (by exact hc_2) (by exact hr_2) hb' (by first | omega | (simp only [List.length_append]; omega))).mono ?_
      rintro e3 w3 ⟨hsd3, h3⟩
      have hst3 : WStep hb w2 w3 := by first | exact hsd3 | exact hsd3.ofDrew
      clear hsd3
      cases hr3 : caps.wr (c, r) with
      | none =>
        have hn : R = none := by rw [HJ.out, hr1.out, hr2.out, hr3] <;> rfl
        rw [hr3] at h3
        subst h3
        exact ⟨rfl, (hT2.trans hst3), by rw [hn]; rfl⟩
      | some p3 =>
        rw [hr3] at h3
        obtain ⟨rfl, v3, hS3⟩ := h3
        first | (rename_i hK; refine hK _ _ ?_; refine wpAny_done (by kernel_rfl) ?_ _; clear hK) | skip
        have hp3 := caps_len hr3
        have hk_3 : w3.cell? ⟨b, 0, none⟩ = some (.int .i64 3) := (hst3.cell hb').trans hk_2
        have hn_3 : w3.cell? ⟨b, 1, none⟩ = some (Str s) := (hst3.cell hb').trans hn_2
        have hc_3 : w3.cell? ⟨b, 2, none⟩ = some (.int .i64 c) := (hst3.cell hb').trans hc_2
        have hr_3 : w3.cell? ⟨b, 3, none⟩ = some (.int .i64 r) := (hst3.cell hb').trans hr_2
        have hp_3 : w3.cell? ⟨b, 4, none⟩ = some (.int .i64 p) := (hst3.cell hb').trans hp_2
        have hq_3 : w3.cell? ⟨b, 5, none⟩ = some (.int .i64 q) := (hst3.cell hb').trans hq_2
        have hT3 := hT2.trans hst3
        have HR3 : Hid _ := hr3
        clear hst3 hr3
        have hr3 : Hid _ := HR3
        go_wp2_with (first | (go_at_call 68; refine fo ?_) | (go_at_call 69; refine wi ?_) | fail)
        try go_region_dies
        refine (epoch_w hb b 4 v3 (((out ++ p1) ++ p2) ++ p3) p q _ (by first | exact hS3 | exact hS3.drew) (by exact hp_3) (by exact hq_3) hb' (by first | omega | (simp only [List.length_append]; omega))).mono ?_
        rintro e4 w4 ⟨hsd4, h4⟩
        have hst4 : WStep hb w3 w4 := by first | exact hsd4 | exact hsd4.ofDrew
        clear hsd4
        cases hr4 : epoch.wr (p, q) with
        | none =>
          have hn : R = none := by rw [HJ.out, hr1.out, hr2.out, hr3.out, hr4] <;> rfl
          rw [hr4] at h4
          subst h4
          exact ⟨rfl, (hT3.trans hst4), by rw [hn]; rfl⟩
        | some p4 =>
          rw [hr4] at h4
          obtain ⟨rfl, v4, hS4⟩ := h4
          first | (rename_i hK; refine hK _ _ ?_; refine wpAny_done (by kernel_rfl) ?_ _; clear hK) | skip
          go_wp2_with (first | (go_at_call 68; refine fo ?_) | (go_at_call 69; refine wi ?_) | fail)
          go_ret
          have hn : R = some (p1 ++ (p2 ++ (p3 ++ (p4)))) := by rw [HJ.out, hr1.out, hr2.out, hr3.out, hr4] <;> rfl
          exact ⟨(hT3.trans hst4), by rw [hn]; exact ⟨rfl, v4, by simpa [List.append_assoc] using hS4⟩⟩
set_option maxRecDepth 100000 in
set_option maxHeartbeats 3200000 in
theorem msg4_w (hb b : Nat) (v : Value) (out : List UInt8) (s : List UInt8) (c r p q d u h : Int) (w : World) (hS : WSt hb v out w) (hk : w.cell? ⟨b, 0, none⟩ = some (.int .i64 4)) (hn : w.cell? ⟨b, 1, none⟩ = some (Str s)) (hc : w.cell? ⟨b, 2, none⟩ = some (.int .i64 c)) (hr : w.cell? ⟨b, 3, none⟩ = some (.int .i64 r)) (hp : w.cell? ⟨b, 4, none⟩ = some (.int .i64 p)) (hq : w.cell? ⟨b, 5, none⟩ = some (.int .i64 q)) (hd : w.cell? ⟨b, 8, none⟩ = some (.int .i64 d)) (hu : w.cell? ⟨b, 9, none⟩ = some (.int .i64 u)) (hh : w.cell? ⟨b, 10, none⟩ = some (.int .i64 h)) (hb' : b < hb) (hs : s.length ≤ 140737488355328) (hl : out.length ≤ 800000) (R : Option (List UInt8)) (hj : R = join ((num 1 10).wr 4) (join ((name []).wr s) (join (caps.wr (c, r)) (join (epoch.wr (p, q)) (join (rights.wr (d, u)) (held.wr h)))))) :
    Calls Try.prog 32 #[WH hb, .pointer (some ⟨b, 0, none⟩)] w (WPostR hb out w R (.int .u64 244)) := by
  have HJ : Hid _ := hj
  clear hj
  have A1 := ahead_num_w ⟨hb, 0, none⟩
  have A2 := ahead_sig_w ⟨hb, 0, none⟩
  have B1 := bn 244 1 0
  have B2 := bn 244 2 0
  have B4 := bn 244 4 4
  have B8 := bn 244 8 0
  have B16 := bn 244 16 16
  have B32 := bn 244 32 32
  have B64 := bn 244 64 64
  have B128 := bn 244 128 128
  have B256 := bn 244 256 0
  have B512 := bn 244 512 0
  have E0 : hasOf 4 = 244 := by decide
  unfold WH
  try unfold Str at *
  go_enter Try.func32, Try.ntmps32
  go_wp2_with (first | (go_at_call 68; refine fo ?_) | (go_at_call 69; refine wi ?_) | fail)
  try go_region_dies
  refine (number_w hb b 0 1 10 v out 4 1 10 _ (by first | exact hS | exact hS.drew) (by exact hk) rfl rfl (by decide) (by first | omega | (simp only [List.length_append]; omega))).mono ?_
  rintro e1 w1 ⟨hsd1, h1⟩
  have hst1 : WStep hb w w1 := by first | exact hsd1 | exact hsd1.ofDrew
  clear hsd1
  cases hr1 : (num 1 10).wr 4 with
  | none =>
    have hn : R = none := by rw [HJ.out, hr1] <;> rfl
    rw [hr1] at h1
    subst h1
    exact ⟨rfl, hst1, by rw [hn]; rfl⟩
  | some p1 =>
    rw [hr1] at h1
    obtain ⟨rfl, v1, hS1⟩ := h1
    first | (rename_i hK; refine hK _ _ ?_; refine wpAny_done (by kernel_rfl) ?_ _; clear hK) | skip
    have hp1 := num_len hr1
    have hk_1 : w1.cell? ⟨b, 0, none⟩ = some (.int .i64 4) := (hst1.cell hb').trans hk
    have hn_1 : w1.cell? ⟨b, 1, none⟩ = some (Str s) := (hst1.cell hb').trans hn
    have hc_1 : w1.cell? ⟨b, 2, none⟩ = some (.int .i64 c) := (hst1.cell hb').trans hc
    have hr_1 : w1.cell? ⟨b, 3, none⟩ = some (.int .i64 r) := (hst1.cell hb').trans hr
    have hp_1 : w1.cell? ⟨b, 4, none⟩ = some (.int .i64 p) := (hst1.cell hb').trans hp
    have hq_1 : w1.cell? ⟨b, 5, none⟩ = some (.int .i64 q) := (hst1.cell hb').trans hq
    have hd_1 : w1.cell? ⟨b, 8, none⟩ = some (.int .i64 d) := (hst1.cell hb').trans hd
    have hu_1 : w1.cell? ⟨b, 9, none⟩ = some (.int .i64 u) := (hst1.cell hb').trans hu
    have hh_1 : w1.cell? ⟨b, 10, none⟩ = some (.int .i64 h) := (hst1.cell hb').trans hh
    have hT1 := hst1
    have HR1 : Hid _ := hr1
    clear hst1 hr1
    have hr1 : Hid _ := HR1
    go_wp2_with (first | (go_at_call 68; refine fo ?_) | (go_at_call 69; refine wi ?_) | fail)
    try go_region_dies
    refine (name_w hb b 1 v1 (out ++ p1) s [] _ (by first | exact hS1 | exact hS1.drew) (by exact hn_1) hb' (by first | omega | (simp only [List.length_append]; omega)) hs).mono ?_
    rintro e2 w2 ⟨hsd2, h2⟩
    have hst2 : WStep hb w1 w2 := by first | exact hsd2 | exact hsd2.ofDrew
    clear hsd2
    cases hr2 : (name []).wr s with
    | none =>
      have hn : R = none := by rw [HJ.out, hr1.out, hr2] <;> rfl
      rw [hr2] at h2
      subst h2
      exact ⟨rfl, (hT1.trans hst2), by rw [hn]; rfl⟩
    | some p2 =>
      rw [hr2] at h2
      obtain ⟨rfl, v2, hS2⟩ := h2
      first | (rename_i hK; refine hK _ _ ?_; refine wpAny_done (by kernel_rfl) ?_ _; clear hK) | skip
      have hp2 := name_len hr2
      have hk_2 : w2.cell? ⟨b, 0, none⟩ = some (.int .i64 4) := (hst2.cell hb').trans hk_1
      have hn_2 : w2.cell? ⟨b, 1, none⟩ = some (Str s) := (hst2.cell hb').trans hn_1
      have hc_2 : w2.cell? ⟨b, 2, none⟩ = some (.int .i64 c) := (hst2.cell hb').trans hc_1
      have hr_2 : w2.cell? ⟨b, 3, none⟩ = some (.int .i64 r) := (hst2.cell hb').trans hr_1
      have hp_2 : w2.cell? ⟨b, 4, none⟩ = some (.int .i64 p) := (hst2.cell hb').trans hp_1
      have hq_2 : w2.cell? ⟨b, 5, none⟩ = some (.int .i64 q) := (hst2.cell hb').trans hq_1
      have hd_2 : w2.cell? ⟨b, 8, none⟩ = some (.int .i64 d) := (hst2.cell hb').trans hd_1
      have hu_2 : w2.cell? ⟨b, 9, none⟩ = some (.int .i64 u) := (hst2.cell hb').trans hu_1
      have hh_2 : w2.cell? ⟨b, 10, none⟩ = some (.int .i64 h) := (hst2.cell hb').trans hh_1
      have hT2 := hT1.trans hst2
      have HR2 : Hid _ := hr2
      clear hst2 hr2
      have hr2 : Hid _ := HR2
      go_wp2_with (first | (go_at_call 68; refine fo ?_) | (go_at_call 69; refine wi ?_) | fail)
      try go_region_dies
      refine (caps_w hb b 2 3 v2 ((out ++ p1) ++ p2) c r _ (by first | exact hS2 | exact hS2.drew) (by exact hc_2) (by exact hr_2) hb' (by first | omega | (simp only [List.length_append]; omega))).mono ?_
      rintro e3 w3 ⟨hsd3, h3⟩
      have hst3 : WStep hb w2 w3 := by first | exact hsd3 | exact hsd3.ofDrew
      clear hsd3
      cases hr3 : caps.wr (c, r) with
      | none =>
        have hn : R = none := by rw [HJ.out, hr1.out, hr2.out, hr3] <;> rfl
        rw [hr3] at h3
        subst h3
        exact ⟨rfl, (hT2.trans hst3), by rw [hn]; rfl⟩
      | some p3 =>
        rw [hr3] at h3
        obtain ⟨rfl, v3, hS3⟩ := h3
        first | (rename_i hK; refine hK _ _ ?_; refine wpAny_done (by kernel_rfl) ?_ _; clear hK) | skip
        have hp3 := caps_len hr3
        have hk_3 : w3.cell? ⟨b, 0, none⟩ = some (.int .i64 4) := (hst3.cell hb').trans hk_2
        have hn_3 : w3.cell? ⟨b, 1, none⟩ = some (Str s) := (hst3.cell hb').trans hn_2
        have hc_3 : w3.cell? ⟨b, 2, none⟩ = some (.int .i64 c) := (hst3.cell hb').trans hc_2
        have hr_3 : w3.cell? ⟨b, 3, none⟩ = some (.int .i64 r) := (hst3.cell hb').trans hr_2
        have hp_3 : w3.cell? ⟨b, 4, none⟩ = some (.int .i64 p) := (hst3.cell hb').trans hp_2
        have hq_3 : w3.cell? ⟨b, 5, none⟩ = some (.int .i64 q) := (hst3.cell hb').trans hq_2
        have hd_3 : w3.cell? ⟨b, 8, none⟩ = some (.int .i64 d) := (hst3.cell hb').trans hd_2
        have hu_3 : w3.cell? ⟨b, 9, none⟩ = some (.int .i64 u) := (hst3.cell hb').trans hu_2
        have hh_3 : w3.cell? ⟨b, 10, none⟩ = some (.int .i64 h) := (hst3.cell hb').trans hh_2
        have hT3 := hT2.trans hst3
        have HR3 : Hid _ := hr3
        clear hst3 hr3
        have hr3 : Hid _ := HR3
        go_wp2_with (first | (go_at_call 68; refine fo ?_) | (go_at_call 69; refine wi ?_) | fail)
        try go_region_dies
        refine (epoch_w hb b 4 v3 (((out ++ p1) ++ p2) ++ p3) p q _ (by first | exact hS3 | exact hS3.drew) (by exact hp_3) (by exact hq_3) hb' (by first | omega | (simp only [List.length_append]; omega))).mono ?_
        rintro e4 w4 ⟨hsd4, h4⟩
        have hst4 : WStep hb w3 w4 := by first | exact hsd4 | exact hsd4.ofDrew
        clear hsd4
        cases hr4 : epoch.wr (p, q) with
        | none =>
          have hn : R = none := by rw [HJ.out, hr1.out, hr2.out, hr3.out, hr4] <;> rfl
          rw [hr4] at h4
          subst h4
          exact ⟨rfl, (hT3.trans hst4), by rw [hn]; rfl⟩
        | some p4 =>
          rw [hr4] at h4
          obtain ⟨rfl, v4, hS4⟩ := h4
          first | (rename_i hK; refine hK _ _ ?_; refine wpAny_done (by kernel_rfl) ?_ _; clear hK) | skip
          have hp4 := epoch_len hr4
          have hk_4 : w4.cell? ⟨b, 0, none⟩ = some (.int .i64 4) := (hst4.cell hb').trans hk_3
          have hn_4 : w4.cell? ⟨b, 1, none⟩ = some (Str s) := (hst4.cell hb').trans hn_3
          have hc_4 : w4.cell? ⟨b, 2, none⟩ = some (.int .i64 c) := (hst4.cell hb').trans hc_3
          have hr_4 : w4.cell? ⟨b, 3, none⟩ = some (.int .i64 r) := (hst4.cell hb').trans hr_3
          have hp_4 : w4.cell? ⟨b, 4, none⟩ = some (.int .i64 p) := (hst4.cell hb').trans hp_3
          have hq_4 : w4.cell? ⟨b, 5, none⟩ = some (.int .i64 q) := (hst4.cell hb').trans hq_3
          have hd_4 : w4.cell? ⟨b, 8, none⟩ = some (.int .i64 d) := (hst4.cell hb').trans hd_3
          have hu_4 : w4.cell? ⟨b, 9, none⟩ = some (.int .i64 u) := (hst4.cell hb').trans hu_3
          have hh_4 : w4.cell? ⟨b, 10, none⟩ = some (.int .i64 h) := (hst4.cell hb').trans hh_3
          have hT4 := hT3.trans hst4
          have HR4 : Hid _ := hr4
          clear hst4 hr4
          have hr4 : Hid _ := HR4
          go_wp2_with (first | (go_at_call 68; refine fo ?_) | (go_at_call 69; refine wi ?_) | fail)
          try go_region_dies
          refine (rights_w hb b 8 v4 ((((out ++ p1) ++ p2) ++ p3) ++ p4) d u _ (by first | exact hS4 | exact hS4.drew) (by exact hd_4) (by exact hu_4) hb' (by first | omega | (simp only [List.length_append]; omega))).mono ?_
          rintro e5 w5 ⟨hsd5, h5⟩
          have hst5 : WStep hb w4 w5 := by first | exact hsd5 | exact hsd5.ofDrew
          clear hsd5
          cases hr5 : rights.wr (d, u) with
          | none =>
            have hn : R = none := by rw [HJ.out, hr1.out, hr2.out, hr3.out, hr4.out, hr5] <;> rfl
            rw [hr5] at h5
            subst h5
            exact ⟨rfl, (hT4.trans hst5), by rw [hn]; rfl⟩
          | some p5 =>
            rw [hr5] at h5
            obtain ⟨rfl, v5, hS5⟩ := h5
            first | (rename_i hK; refine hK _ _ ?_; refine wpAny_done (by kernel_rfl) ?_ _; clear hK) | skip
            have hp5 := rights_len hr5
            have hk_5 : w5.cell? ⟨b, 0, none⟩ = some (.int .i64 4) := (hst5.cell hb').trans hk_4
            have hn_5 : w5.cell? ⟨b, 1, none⟩ = some (Str s) := (hst5.cell hb').trans hn_4
            have hc_5 : w5.cell? ⟨b, 2, none⟩ = some (.int .i64 c) := (hst5.cell hb').trans hc_4
            have hr_5 : w5.cell? ⟨b, 3, none⟩ = some (.int .i64 r) := (hst5.cell hb').trans hr_4
            have hp_5 : w5.cell? ⟨b, 4, none⟩ = some (.int .i64 p) := (hst5.cell hb').trans hp_4
            have hq_5 : w5.cell? ⟨b, 5, none⟩ = some (.int .i64 q) := (hst5.cell hb').trans hq_4
            have hd_5 : w5.cell? ⟨b, 8, none⟩ = some (.int .i64 d) := (hst5.cell hb').trans hd_4
            have hu_5 : w5.cell? ⟨b, 9, none⟩ = some (.int .i64 u) := (hst5.cell hb').trans hu_4
            have hh_5 : w5.cell? ⟨b, 10, none⟩ = some (.int .i64 h) := (hst5.cell hb').trans hh_4
            have hT5 := hT4.trans hst5
            have HR5 : Hid _ := hr5
            clear hst5 hr5
            have hr5 : Hid _ := HR5
            go_wp2_with (first | (go_at_call 68; refine fo ?_) | (go_at_call 69; refine wi ?_) | fail)
            try go_region_dies
            refine (held_w hb b 10 v5 (((((out ++ p1) ++ p2) ++ p3) ++ p4) ++ p5) h _ (by first | exact hS5 | exact hS5.drew) (by exact hh_5) hb' (by first | omega | (simp only [List.length_append]; omega))).mono ?_
            rintro e6 w6 ⟨hsd6, h6⟩
            have hst6 : WStep hb w5 w6 := by first | exact hsd6 | exact hsd6.ofDrew
            clear hsd6
            cases hr6 : held.wr h with
            | none =>
              have hn : R = none := by rw [HJ.out, hr1.out, hr2.out, hr3.out, hr4.out, hr5.out, hr6] <;> rfl
              rw [hr6] at h6
              subst h6
              exact ⟨rfl, (hT5.trans hst6), by rw [hn]; rfl⟩
            | some p6 =>
              rw [hr6] at h6
              obtain ⟨rfl, v6, hS6⟩ := h6
              first | (rename_i hK; refine hK _ _ ?_; refine wpAny_done (by kernel_rfl) ?_ _; clear hK) | skip
              go_wp2_with (first | (go_at_call 68; refine fo ?_) | (go_at_call 69; refine wi ?_) | fail)
              go_ret
              have hn : R = some (p1 ++ (p2 ++ (p3 ++ (p4 ++ (p5 ++ (p6)))))) := by rw [HJ.out, hr1.out, hr2.out, hr3.out, hr4.out, hr5.out, hr6] <;> rfl
              exact ⟨(hT5.trans hst6), by rw [hn]; exact ⟨rfl, v6, by simpa [List.append_assoc] using hS6⟩⟩
end Go.Proofs.Ytfgnlfemckdfnaa
