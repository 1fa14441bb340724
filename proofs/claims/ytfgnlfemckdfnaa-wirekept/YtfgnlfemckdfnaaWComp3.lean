import Derived.Test.YtfgnlfemckdfnaaWComp2
namespace Go.Proofs.Ytfgnlfemckdfnaa
open Go.RowKit Go.PlainAid
set_option maxRecDepth 100000 in
set_option maxHeartbeats 800000 in
theorem op_w (hb b off : Nat) (v : Value) (out : List UInt8) (k : Int) (s : List UInt8) (x y : Int) (w : World) (hS : WSt hb v out w) (hk : w.cell? ⟨b, off, none⟩ = some (.int .i64 k)) (hn : w.cell? ⟨b, off + 1, none⟩ = some (Str s)) (hx : w.cell? ⟨b, off + 2, none⟩ = some (.int .i64 x)) (hy : w.cell? ⟨b, off + 3, none⟩ = some (.int .i64 y)) (hb' : b < hb) (hs : s.length ≤ 140737488355328) (hx1 : (-9223372036854775808 : Int) ≤ x) (hx2 : x < 9223372036854775808) (hy1 : (-9223372036854775808 : Int) ≤ y) (hy2 : y < 9223372036854775808) (hl : out.length ≤ 998000) :
    Calls Try.prog 71 #[WH hb, .pointer (some ⟨b, off, none⟩)] w (WPost hb out w (op.wr (k, s, x, y))) := by
  have hj : op.wr (k, s, x, y) = join ((num 1 11).wr k) (join ((name []).wr s) (join (signed.wr x) (signed.wr y))) := rfl
  have HJ : Hid _ := hj
  clear hj
  have A1 := ahead_num_w ⟨hb, 0, none⟩
  have A2 := ahead_sig_w ⟨hb, 0, none⟩
  unfold WH
  try unfold Str at *
  go_enter Try.func71, Try.ntmps71
  go_wp2_with fail
  try go_region_dies
  refine (number_w hb b off 1 11 v out k 1 11 _ (by first | exact hS | exact hS.drew) (by exact hk) rfl rfl (by decide) (by first | omega | (simp only [List.length_append]; omega))).mono ?_
  rintro e1 w1 ⟨hsd1, h1⟩
  have hst1 : WStep hb w w1 := by first | exact hsd1 | exact hsd1.ofDrew
  clear hsd1
  cases hr1 : (num 1 11).wr k with
  | none =>
    have hn : op.wr (k, s, x, y) = none := by rw [HJ.out, hr1] <;> rfl
    rw [hr1] at h1
    subst h1
    exact ⟨rfl, hst1, by rw [hn]; rfl⟩
  | some p1 =>
    rw [hr1] at h1
    obtain ⟨rfl, v1, hS1⟩ := h1
    first | (rename_i hK; refine hK _ _ ?_; refine wpAny_done (by kernel_rfl) ?_ _; clear hK) | skip
    have hp1 := num_len hr1
    have hk_1 : w1.cell? ⟨b, off, none⟩ = some (.int .i64 k) := (hst1.cell hb').trans hk
    have hn_1 : w1.cell? ⟨b, off + 1, none⟩ = some (Str s) := (hst1.cell hb').trans hn
    have hx_1 : w1.cell? ⟨b, off + 2, none⟩ = some (.int .i64 x) := (hst1.cell hb').trans hx
    have hy_1 : w1.cell? ⟨b, off + 3, none⟩ = some (.int .i64 y) := (hst1.cell hb').trans hy
    have hT1 := hst1
    have HR1 : Hid _ := hr1
    clear hst1 hr1
    have hr1 : Hid _ := HR1
    go_wp2_with fail
    try go_region_dies
    refine (name_w hb b (off + 1) v1 (out ++ p1) s [] _ (by first | exact hS1 | exact hS1.drew) (by exact hn_1) hb' (by first | omega | (simp only [List.length_append]; omega)) hs).mono ?_
    rintro e2 w2 ⟨hsd2, h2⟩
    have hst2 : WStep hb w1 w2 := by first | exact hsd2 | exact hsd2.ofDrew
    clear hsd2
    cases hr2 : (name []).wr s with
    | none =>
      have hn : op.wr (k, s, x, y) = none := by rw [HJ.out, hr1.out, hr2] <;> rfl
      rw [hr2] at h2
      subst h2
      exact ⟨rfl, (hT1.trans hst2), by rw [hn]; rfl⟩
    | some p2 =>
      rw [hr2] at h2
      obtain ⟨rfl, v2, hS2⟩ := h2
      first | (rename_i hK; refine hK _ _ ?_; refine wpAny_done (by kernel_rfl) ?_ _; clear hK) | skip
      have hp2 := name_len hr2
      have hk_2 : w2.cell? ⟨b, off, none⟩ = some (.int .i64 k) := (hst2.cell hb').trans hk_1
      have hn_2 : w2.cell? ⟨b, off + 1, none⟩ = some (Str s) := (hst2.cell hb').trans hn_1
      have hx_2 : w2.cell? ⟨b, off + 2, none⟩ = some (.int .i64 x) := (hst2.cell hb').trans hx_1
      have hy_2 : w2.cell? ⟨b, off + 3, none⟩ = some (.int .i64 y) := (hst2.cell hb').trans hy_1
      have hT2 := hT1.trans hst2
      have HR2 : Hid _ := hr2
      clear hst2 hr2
      have hr2 : Hid _ := HR2
      go_wp2_with fail
      try go_region_dies
      refine (signed_w hb b (off + 2) v2 ((out ++ p1) ++ p2) x _ (by first | exact hS2 | exact hS2.drew) (by exact hx_2) hx1 hx2 (by first | omega | (simp only [List.length_append]; omega))).mono ?_
      rintro e3 w3 ⟨hsd3, h3⟩
      have hst3 : WStep hb w2 w3 := by first | exact hsd3 | exact hsd3.ofDrew
      clear hsd3
      cases hr3 : signed.wr x with
      | none =>
        have hn : op.wr (k, s, x, y) = none := by rw [HJ.out, hr1.out, hr2.out, hr3] <;> rfl
        rw [hr3] at h3
        subst h3
        exact ⟨rfl, (hT2.trans hst3), by rw [hn]; rfl⟩
      | some p3 =>
        rw [hr3] at h3
        obtain ⟨rfl, v3, hS3⟩ := h3
        first | (rename_i hK; refine hK _ _ ?_; refine wpAny_done (by kernel_rfl) ?_ _; clear hK) | skip
        have hp3 := signed_len hr3
        have hk_3 : w3.cell? ⟨b, off, none⟩ = some (.int .i64 k) := (hst3.cell hb').trans hk_2
        have hn_3 : w3.cell? ⟨b, off + 1, none⟩ = some (Str s) := (hst3.cell hb').trans hn_2
        have hx_3 : w3.cell? ⟨b, off + 2, none⟩ = some (.int .i64 x) := (hst3.cell hb').trans hx_2
        have hy_3 : w3.cell? ⟨b, off + 3, none⟩ = some (.int .i64 y) := (hst3.cell hb').trans hy_2
        have hT3 := hT2.trans hst3
        have HR3 : Hid _ := hr3
        clear hst3 hr3
        have hr3 : Hid _ := HR3
        go_wp2_with fail
        try go_region_dies
        refine (signed_w hb b (off + 3) v3 (((out ++ p1) ++ p2) ++ p3) y _ (by first | exact hS3 | exact hS3.drew) (by exact hy_3) hy1 hy2 (by first | omega | (simp only [List.length_append]; omega))).mono ?_
        rintro e4 w4 ⟨hsd4, h4⟩
        have hst4 : WStep hb w3 w4 := by first | exact hsd4 | exact hsd4.ofDrew
        clear hsd4
        cases hr4 : signed.wr y with
        | none =>
          have hn : op.wr (k, s, x, y) = none := by rw [HJ.out, hr1.out, hr2.out, hr3.out, hr4] <;> rfl
          rw [hr4] at h4
          subst h4
          exact ⟨rfl, (hT3.trans hst4), by rw [hn]; rfl⟩
        | some p4 =>
          rw [hr4] at h4
          obtain ⟨rfl, v4, hS4⟩ := h4
          first | (rename_i hK; refine hK _ _ ?_; refine wpAny_done (by kernel_rfl) ?_ _; clear hK) | go_wp2
          go_end0
          have hn : op.wr (k, s, x, y) = some (p1 ++ (p2 ++ (p3 ++ (p4)))) := by rw [HJ.out, hr1.out, hr2.out, hr3.out, hr4] <;> rfl
          exact ⟨(hT3.trans hst4), by rw [hn]; exact ⟨rfl, v4, by simpa [List.append_assoc] using hS4⟩⟩
theorem op_len {x : Int × List UInt8 × Int × Int} {p : List UInt8} (h : op.wr x = some p) : p.length ≤ 10 + (26 + (10 + 10)) := join_len (fun _ h => num_len h) (join_len (fun _ h => name_len h) (join_len (fun _ h => signed_len h) (fun _ h => signed_len h))) p h
set_option maxRecDepth 100000 in
set_option maxHeartbeats 800000 in
theorem reply_w (hb b off : Nat) (v : Value) (out : List UInt8) (c i x y : Int) (w : World) (hS : WSt hb v out w) (hc : w.cell? ⟨b, off, none⟩ = some (.int .i64 c)) (hi : w.cell? ⟨b, off + 1, none⟩ = some (.int .i64 i)) (hx : w.cell? ⟨b, off + 2, none⟩ = some (.int .i64 x)) (hy : w.cell? ⟨b, off + 3, none⟩ = some (.int .i64 y)) (hb' : b < hb) (hy1 : (-9223372036854775808 : Int) ≤ y) (hy2 : y < 9223372036854775808) (hl : out.length ≤ 998000) :
    Calls Try.prog 44 #[WH hb, .pointer (some ⟨b, off, none⟩)] w (WPost hb out w (reply.wr ((c, i), x, y))) := by
  have hj : reply.wr ((c, i), x, y) = join (call.wr (c, i)) (join (errno.wr x) (signed.wr y)) := rfl
  have HJ : Hid _ := hj
  clear hj
  have A1 := ahead_num_w ⟨hb, 0, none⟩
  have A2 := ahead_sig_w ⟨hb, 0, none⟩
  unfold WH
  try unfold Str at *
  go_enter Try.func44, Try.ntmps44
  go_wp2_with fail
  try go_region_dies
  refine (call_w hb b off v out c i _ (by first | exact hS | exact hS.drew) (by exact hc) (by exact hi) hb' (by first | omega | (simp only [List.length_append]; omega))).mono ?_
  rintro e1 w1 ⟨hsd1, h1⟩
  have hst1 : WStep hb w w1 := by first | exact hsd1 | exact hsd1.ofDrew
  clear hsd1
  cases hr1 : call.wr (c, i) with
  | none =>
    have hn : reply.wr ((c, i), x, y) = none := by rw [HJ.out, hr1] <;> rfl
    rw [hr1] at h1
    subst h1
    exact ⟨rfl, hst1, by rw [hn]; rfl⟩
  | some p1 =>
    rw [hr1] at h1
    obtain ⟨rfl, v1, hS1⟩ := h1
    first | (rename_i hK; refine hK _ _ ?_; refine wpAny_done (by kernel_rfl) ?_ _; clear hK) | skip
    have hp1 := call_len hr1
    have hc_1 : w1.cell? ⟨b, off, none⟩ = some (.int .i64 c) := (hst1.cell hb').trans hc
    have hi_1 : w1.cell? ⟨b, off + 1, none⟩ = some (.int .i64 i) := (hst1.cell hb').trans hi
    have hx_1 : w1.cell? ⟨b, off + 2, none⟩ = some (.int .i64 x) := (hst1.cell hb').trans hx
    have hy_1 : w1.cell? ⟨b, off + 3, none⟩ = some (.int .i64 y) := (hst1.cell hb').trans hy
    have hT1 := hst1
    have HR1 : Hid _ := hr1
    clear hst1 hr1
    have hr1 : Hid _ := HR1
    go_wp2_with fail
    try go_region_dies
    refine (errno_w hb b (off + 2) v1 (out ++ p1) x _ (by first | exact hS1 | exact hS1.drew) (by exact hx_1) hb' (by first | omega | (simp only [List.length_append]; omega))).mono ?_
    rintro e2 w2 ⟨hsd2, h2⟩
    have hst2 : WStep hb w1 w2 := by first | exact hsd2 | exact hsd2.ofDrew
    clear hsd2
    cases hr2 : errno.wr x with
    | none =>
      have hn : reply.wr ((c, i), x, y) = none := by rw [HJ.out, hr1.out, hr2] <;> rfl
      rw [hr2] at h2
      subst h2
      exact ⟨rfl, (hT1.trans hst2), by rw [hn]; rfl⟩
    | some p2 =>
      rw [hr2] at h2
      obtain ⟨rfl, v2, hS2⟩ := h2
      first | (rename_i hK; refine hK _ _ ?_; refine wpAny_done (by kernel_rfl) ?_ _; clear hK) | skip
      have hp2 := errno_len hr2
      have hc_2 : w2.cell? ⟨b, off, none⟩ = some (.int .i64 c) := (hst2.cell hb').trans hc_1
      have hi_2 : w2.cell? ⟨b, off + 1, none⟩ = some (.int .i64 i) := (hst2.cell hb').trans hi_1
      have hx_2 : w2.cell? ⟨b, off + 2, none⟩ = some (.int .i64 x) := (hst2.cell hb').trans hx_1
      have hy_2 : w2.cell? ⟨b, off + 3, none⟩ = some (.int .i64 y) := (hst2.cell hb').trans hy_1
      have hT2 := hT1.trans hst2
      have HR2 : Hid _ := hr2
      clear hst2 hr2
      have hr2 : Hid _ := HR2
      go_wp2_with fail
      try go_region_dies
      refine (signed_w hb b (off + 3) v2 ((out ++ p1) ++ p2) y _ (by first | exact hS2 | exact hS2.drew) (by exact hy_2) hy1 hy2 (by first | omega | (simp only [List.length_append]; omega))).mono ?_
      rintro e3 w3 ⟨hsd3, h3⟩
      have hst3 : WStep hb w2 w3 := by first | exact hsd3 | exact hsd3.ofDrew
      clear hsd3
      cases hr3 : signed.wr y with
      | none =>
        have hn : reply.wr ((c, i), x, y) = none := by rw [HJ.out, hr1.out, hr2.out, hr3] <;> rfl
        rw [hr3] at h3
        subst h3
        exact ⟨rfl, (hT2.trans hst3), by rw [hn]; rfl⟩
      | some p3 =>
        rw [hr3] at h3
        obtain ⟨rfl, v3, hS3⟩ := h3
        first | (rename_i hK; refine hK _ _ ?_; refine wpAny_done (by kernel_rfl) ?_ _; clear hK) | go_wp2
        go_end0
        have hn : reply.wr ((c, i), x, y) = some (p1 ++ (p2 ++ (p3))) := by rw [HJ.out, hr1.out, hr2.out, hr3] <;> rfl
        exact ⟨(hT2.trans hst3), by rw [hn]; exact ⟨rfl, v3, by simpa [List.append_assoc] using hS3⟩⟩
set_option maxRecDepth 100000 in
set_option maxHeartbeats 800000 in
theorem request_w (hb b off b2 off2 : Nat) (v : Value) (out : List UInt8) (c i k : Int) (s : List UInt8) (x y : Int) (w : World) (hS : WSt hb v out w) (hc : w.cell? ⟨b, off, none⟩ = some (.int .i64 c)) (hi : w.cell? ⟨b, off + 1, none⟩ = some (.int .i64 i)) (hk : w.cell? ⟨b2, off2, none⟩ = some (.int .i64 k)) (hn : w.cell? ⟨b2, off2 + 1, none⟩ = some (Str s)) (hx : w.cell? ⟨b2, off2 + 2, none⟩ = some (.int .i64 x)) (hy : w.cell? ⟨b2, off2 + 3, none⟩ = some (.int .i64 y)) (hb' : b < hb) (hb2 : b2 < hb) (hs : s.length ≤ 140737488355328) (hx1 : (-9223372036854775808 : Int) ≤ x) (hx2 : x < 9223372036854775808) (hy1 : (-9223372036854775808 : Int) ≤ y) (hy2 : y < 9223372036854775808) (hl : out.length ≤ 990000) :
    Calls Try.prog 41 #[WH hb, .pointer (some ⟨b, off, none⟩), .pointer (some ⟨b2, off2, none⟩)] w (WPost hb out w (request.wr ((c, i), k, s, x, y))) := by
  have hj : request.wr ((c, i), k, s, x, y) = join (call.wr (c, i)) (op.wr (k, s, x, y)) := rfl
  have HJ : Hid _ := hj
  clear hj
  have A1 := ahead_num_w ⟨hb, 0, none⟩
  have A2 := ahead_sig_w ⟨hb, 0, none⟩
  unfold WH
  try unfold Str at *
  go_enter Try.func41, Try.ntmps41
  go_wp2_with fail
  try go_region_dies
  refine (call_w hb b off v out c i _ (by first | exact hS | exact hS.drew) (by exact hc) (by exact hi) hb' (by first | omega | (simp only [List.length_append]; omega))).mono ?_
  rintro e1 w1 ⟨hsd1, h1⟩
  have hst1 : WStep hb w w1 := by first | exact hsd1 | exact hsd1.ofDrew
  clear hsd1
  cases hr1 : call.wr (c, i) with
  | none =>
    have hn : request.wr ((c, i), k, s, x, y) = none := by rw [HJ.out, hr1] <;> rfl
    rw [hr1] at h1
    subst h1
    exact ⟨rfl, hst1, by rw [hn]; rfl⟩
  | some p1 =>
    rw [hr1] at h1
    obtain ⟨rfl, v1, hS1⟩ := h1
    first | (rename_i hK; refine hK _ _ ?_; refine wpAny_done (by kernel_rfl) ?_ _; clear hK) | skip
    have hp1 := call_len hr1
    have hc_1 : w1.cell? ⟨b, off, none⟩ = some (.int .i64 c) := (hst1.cell hb').trans hc
    have hi_1 : w1.cell? ⟨b, off + 1, none⟩ = some (.int .i64 i) := (hst1.cell hb').trans hi
    have hk_1 : w1.cell? ⟨b2, off2, none⟩ = some (.int .i64 k) := (hst1.cell hb2).trans hk
    have hn_1 : w1.cell? ⟨b2, off2 + 1, none⟩ = some (Str s) := (hst1.cell hb2).trans hn
    have hx_1 : w1.cell? ⟨b2, off2 + 2, none⟩ = some (.int .i64 x) := (hst1.cell hb2).trans hx
    have hy_1 : w1.cell? ⟨b2, off2 + 3, none⟩ = some (.int .i64 y) := (hst1.cell hb2).trans hy
    have hT1 := hst1
    have HR1 : Hid _ := hr1
    clear hst1 hr1
    have hr1 : Hid _ := HR1
    go_wp2_with fail
    try go_region_dies
    refine (op_w hb b2 off2 v1 (out ++ p1) k s x y _ (by first | exact hS1 | exact hS1.drew) (by exact hk_1) (by exact hn_1) (by exact hx_1) (by exact hy_1) hb2 hs hx1 hx2 hy1 hy2 (by first | omega | (simp only [List.length_append]; omega))).mono ?_
    rintro e2 w2 ⟨hsd2, h2⟩
    have hst2 : WStep hb w1 w2 := by first | exact hsd2 | exact hsd2.ofDrew
    clear hsd2
    cases hr2 : op.wr (k, s, x, y) with
    | none =>
      have hn : request.wr ((c, i), k, s, x, y) = none := by rw [HJ.out, hr1.out, hr2] <;> rfl
      rw [hr2] at h2
      subst h2
      exact ⟨rfl, (hT1.trans hst2), by rw [hn]; rfl⟩
    | some p2 =>
      rw [hr2] at h2
      obtain ⟨rfl, v2, hS2⟩ := h2
      first | (rename_i hK; refine hK _ _ ?_; refine wpAny_done (by kernel_rfl) ?_ _; clear hK) | go_wp2
      go_end0
      have hn : request.wr ((c, i), k, s, x, y) = some (p1 ++ (p2)) := by rw [HJ.out, hr1.out, hr2] <;> rfl
      exact ⟨(hT1.trans hst2), by rw [hn]; exact ⟨rfl, v2, by simpa [List.append_assoc] using hS2⟩⟩
set_option maxRecDepth 100000 in
set_option maxHeartbeats 800000 in
theorem view_w (hb b off : Nat) (v : Value) (out : List UInt8) (s a : List UInt8) (c r n d u h : Int) (w : World) (hS : WSt hb v out w) (hn : w.cell? ⟨b, off, none⟩ = some (Str s)) (hc : w.cell? ⟨b, off + 1, none⟩ = some (.int .i64 c)) (hr : w.cell? ⟨b, off + 2, none⟩ = some (.int .i64 r)) (hv : w.cell? ⟨b, off + 3, none⟩ = some (.int .i64 n)) (hd : w.cell? ⟨b, off + 4, none⟩ = some (.int .i64 d)) (hu : w.cell? ⟨b, off + 4 + 1, none⟩ = some (.int .i64 u)) (hh : w.cell? ⟨b, off + 6, none⟩ = some (.int .i64 h)) (hb' : b < hb) (hs : s.length ≤ 140737488355328) (hl : out.length ≤ 990000) :
    Calls Try.prog 94 #[WH hb, .pointer (some ⟨b, off, none⟩), Str a] w (WPost hb out w ((view a).wr ⟨s, c, r, n, d, u, h⟩)) := by
  have hj : (view a).wr ⟨s, c, r, n, d, u, h⟩ = join ((name a).wr s) (join (caps.wr (c, r)) (join ((num 0 1099511627776).wr n) (join (rights.wr (d, u)) (held.wr h)))) := rfl
  have HJ : Hid _ := hj
  clear hj
  have A1 := ahead_num_w ⟨hb, 0, none⟩
  have A2 := ahead_sig_w ⟨hb, 0, none⟩
  unfold WH
  try unfold Str at *
  go_enter Try.func94, Try.ntmps94
  go_wp2_with fail
  try go_region_dies
  refine (name_w hb b off v out s a _ (by first | exact hS | exact hS.drew) (by exact hn) hb' (by first | omega | (simp only [List.length_append]; omega)) hs).mono ?_
  rintro e1 w1 ⟨hsd1, h1⟩
  have hst1 : WStep hb w w1 := by first | exact hsd1 | exact hsd1.ofDrew
  clear hsd1
  cases hr1 : (name a).wr s with
  | none =>
    have hn : (view a).wr ⟨s, c, r, n, d, u, h⟩ = none := by rw [HJ.out, hr1] <;> rfl
    rw [hr1] at h1
    subst h1
    exact ⟨rfl, hst1, by rw [hn]; rfl⟩
  | some p1 =>
    rw [hr1] at h1
    obtain ⟨rfl, v1, hS1⟩ := h1
    first | (rename_i hK; refine hK _ _ ?_; refine wpAny_done (by kernel_rfl) ?_ _; clear hK) | skip
    have hp1 := name_len hr1
    have hn_1 : w1.cell? ⟨b, off, none⟩ = some (Str s) := (hst1.cell hb').trans hn
    have hc_1 : w1.cell? ⟨b, off + 1, none⟩ = some (.int .i64 c) := (hst1.cell hb').trans hc
    have hr_1 : w1.cell? ⟨b, off + 2, none⟩ = some (.int .i64 r) := (hst1.cell hb').trans hr
    have hv_1 : w1.cell? ⟨b, off + 3, none⟩ = some (.int .i64 n) := (hst1.cell hb').trans hv
    have hd_1 : w1.cell? ⟨b, off + 4, none⟩ = some (.int .i64 d) := (hst1.cell hb').trans hd
    have hu_1 : w1.cell? ⟨b, off + 4 + 1, none⟩ = some (.int .i64 u) := (hst1.cell hb').trans hu
    have hh_1 : w1.cell? ⟨b, off + 6, none⟩ = some (.int .i64 h) := (hst1.cell hb').trans hh
    have hT1 := hst1
    have HR1 : Hid _ := hr1
    clear hst1 hr1
    have hr1 : Hid _ := HR1
    go_wp2_with fail
    try go_region_dies
    refine (caps_w hb b (off + 1) (off + 2) v1 (out ++ p1) c r _ (by first | exact hS1 | exact hS1.drew) (by exact hc_1) (by exact hr_1) hb' (by first | omega | (simp only [List.length_append]; omega))).mono ?_
    rintro e2 w2 ⟨hsd2, h2⟩
    have hst2 : WStep hb w1 w2 := by first | exact hsd2 | exact hsd2.ofDrew
    clear hsd2
    cases hr2 : caps.wr (c, r) with
    | none =>
      have hn : (view a).wr ⟨s, c, r, n, d, u, h⟩ = none := by rw [HJ.out, hr1.out, hr2] <;> rfl
      rw [hr2] at h2
      subst h2
      exact ⟨rfl, (hT1.trans hst2), by rw [hn]; rfl⟩
    | some p2 =>
      rw [hr2] at h2
      obtain ⟨rfl, v2, hS2⟩ := h2
      first | (rename_i hK; refine hK _ _ ?_; refine wpAny_done (by kernel_rfl) ?_ _; clear hK) | skip
      have hp2 := caps_len hr2
      have hn_2 : w2.cell? ⟨b, off, none⟩ = some (Str s) := (hst2.cell hb').trans hn_1
      have hc_2 : w2.cell? ⟨b, off + 1, none⟩ = some (.int .i64 c) := (hst2.cell hb').trans hc_1
      have hr_2 : w2.cell? ⟨b, off + 2, none⟩ = some (.int .i64 r) := (hst2.cell hb').trans hr_1
      have hv_2 : w2.cell? ⟨b, off + 3, none⟩ = some (.int .i64 n) := (hst2.cell hb').trans hv_1
      have hd_2 : w2.cell? ⟨b, off + 4, none⟩ = some (.int .i64 d) := (hst2.cell hb').trans hd_1
      have hu_2 : w2.cell? ⟨b, off + 4 + 1, none⟩ = some (.int .i64 u) := (hst2.cell hb').trans hu_1
      have hh_2 : w2.cell? ⟨b, off + 6, none⟩ = some (.int .i64 h) := (hst2.cell hb').trans hh_1
      have hT2 := hT1.trans hst2
      have HR2 : Hid _ := hr2
      clear hst2 hr2
      have hr2 : Hid _ := HR2
      go_wp2_with fail
      try go_region_dies
      refine (number_w hb b (off + 3) 0 1099511627776 v2 ((out ++ p1) ++ p2) n 0 1099511627776 _ (by first | exact hS2 | exact hS2.drew) (by exact hv_2) rfl rfl (by decide) (by first | omega | (simp only [List.length_append]; omega))).mono ?_
      rintro e3 w3 ⟨hsd3, h3⟩
      have hst3 : WStep hb w2 w3 := by first | exact hsd3 | exact hsd3.ofDrew
      clear hsd3
      cases hr3 : (num 0 1099511627776).wr n with
      | none =>
        have hn : (view a).wr ⟨s, c, r, n, d, u, h⟩ = none := by rw [HJ.out, hr1.out, hr2.out, hr3] <;> rfl
        rw [hr3] at h3
        subst h3
        exact ⟨rfl, (hT2.trans hst3), by rw [hn]; rfl⟩
      | some p3 =>
        rw [hr3] at h3
        obtain ⟨rfl, v3, hS3⟩ := h3
        first | (rename_i hK; refine hK _ _ ?_; refine wpAny_done (by kernel_rfl) ?_ _; clear hK) | skip
        have hp3 := num_len hr3
        have hn_3 : w3.cell? ⟨b, off, none⟩ = some (Str s) := (hst3.cell hb').trans hn_2
        have hc_3 : w3.cell? ⟨b, off + 1, none⟩ = some (.int .i64 c) := (hst3.cell hb').trans hc_2
        have hr_3 : w3.cell? ⟨b, off + 2, none⟩ = some (.int .i64 r) := (hst3.cell hb').trans hr_2
        have hv_3 : w3.cell? ⟨b, off + 3, none⟩ = some (.int .i64 n) := (hst3.cell hb').trans hv_2
        have hd_3 : w3.cell? ⟨b, off + 4, none⟩ = some (.int .i64 d) := (hst3.cell hb').trans hd_2
        have hu_3 : w3.cell? ⟨b, off + 4 + 1, none⟩ = some (.int .i64 u) := (hst3.cell hb').trans hu_2
        have hh_3 : w3.cell? ⟨b, off + 6, none⟩ = some (.int .i64 h) := (hst3.cell hb').trans hh_2
        have hT3 := hT2.trans hst3
        have HR3 : Hid _ := hr3
        clear hst3 hr3
        have hr3 : Hid _ := HR3
        go_wp2_with fail
        try go_region_dies
        refine (rights_w hb b (off + 4) v3 (((out ++ p1) ++ p2) ++ p3) d u _ (by first | exact hS3 | exact hS3.drew) (by exact hd_3) (by exact hu_3) hb' (by first | omega | (simp only [List.length_append]; omega))).mono ?_
        rintro e4 w4 ⟨hsd4, h4⟩
        have hst4 : WStep hb w3 w4 := by first | exact hsd4 | exact hsd4.ofDrew
        clear hsd4
        cases hr4 : rights.wr (d, u) with
        | none =>
          have hn : (view a).wr ⟨s, c, r, n, d, u, h⟩ = none := by rw [HJ.out, hr1.out, hr2.out, hr3.out, hr4] <;> rfl
          rw [hr4] at h4
          subst h4
          exact ⟨rfl, (hT3.trans hst4), by rw [hn]; rfl⟩
        | some p4 =>
          rw [hr4] at h4
          obtain ⟨rfl, v4, hS4⟩ := h4
          first | (rename_i hK; refine hK _ _ ?_; refine wpAny_done (by kernel_rfl) ?_ _; clear hK) | skip
          have hp4 := rights_len hr4
          have hn_4 : w4.cell? ⟨b, off, none⟩ = some (Str s) := (hst4.cell hb').trans hn_3
          have hc_4 : w4.cell? ⟨b, off + 1, none⟩ = some (.int .i64 c) := (hst4.cell hb').trans hc_3
          have hr_4 : w4.cell? ⟨b, off + 2, none⟩ = some (.int .i64 r) := (hst4.cell hb').trans hr_3
          have hv_4 : w4.cell? ⟨b, off + 3, none⟩ = some (.int .i64 n) := (hst4.cell hb').trans hv_3
          have hd_4 : w4.cell? ⟨b, off + 4, none⟩ = some (.int .i64 d) := (hst4.cell hb').trans hd_3
          have hu_4 : w4.cell? ⟨b, off + 4 + 1, none⟩ = some (.int .i64 u) := (hst4.cell hb').trans hu_3
          have hh_4 : w4.cell? ⟨b, off + 6, none⟩ = some (.int .i64 h) := (hst4.cell hb').trans hh_3
          have hT4 := hT3.trans hst4
          have HR4 : Hid _ := hr4
          clear hst4 hr4
          have hr4 : Hid _ := HR4
          go_wp2_with fail
          try go_region_dies
          refine (held_w hb b (off + 6) v4 ((((out ++ p1) ++ p2) ++ p3) ++ p4) h _ (by first | exact hS4 | exact hS4.drew) (by exact hh_4) hb' (by first | omega | (simp only [List.length_append]; omega))).mono ?_
          rintro e5 w5 ⟨hsd5, h5⟩
          have hst5 : WStep hb w4 w5 := by first | exact hsd5 | exact hsd5.ofDrew
          clear hsd5
          cases hr5 : held.wr h with
          | none =>
            have hn : (view a).wr ⟨s, c, r, n, d, u, h⟩ = none := by rw [HJ.out, hr1.out, hr2.out, hr3.out, hr4.out, hr5] <;> rfl
            rw [hr5] at h5
            subst h5
            exact ⟨rfl, (hT4.trans hst5), by rw [hn]; rfl⟩
          | some p5 =>
            rw [hr5] at h5
            obtain ⟨rfl, v5, hS5⟩ := h5
            first | (rename_i hK; refine hK _ _ ?_; refine wpAny_done (by kernel_rfl) ?_ _; clear hK) | go_wp2
            go_end0
            have hn : (view a).wr ⟨s, c, r, n, d, u, h⟩ = some (p1 ++ (p2 ++ (p3 ++ (p4 ++ (p5))))) := by rw [HJ.out, hr1.out, hr2.out, hr3.out, hr4.out, hr5] <;> rfl
            exact ⟨(hT4.trans hst5), by rw [hn]; exact ⟨rfl, v5, by simpa [List.append_assoc] using hS5⟩⟩
theorem view_len {a : List UInt8} {x : View} {p : List UInt8} (h : (view a).wr x = some p) : p.length ≤ 26 + (20 + (10 + (20 + 10))) := join_len (fun _ h => name_len h) (join_len (fun _ h => caps_len h) (join_len (fun _ h => num_len h) (join_len (fun _ h => rights_len h) (fun _ h => held_len h)))) p h
end Go.Proofs.Ytfgnlfemckdfnaa
