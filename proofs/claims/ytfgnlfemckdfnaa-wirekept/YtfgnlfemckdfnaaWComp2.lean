import Derived.Test.YtfgnlfemckdfnaaWMeth
import Derived.RegionDies
namespace Go.Proofs.Ytfgnlfemckdfnaa
open Go.RowKit Go.PlainAid
theorem ahead_num_w (a : Addr) (w : World) : (nilAhead 294 140 (.pointer (some a)) "sluice/wire.number").run Try.prog w = .ok (some false) w := by kernel_rfl
theorem ahead_sig_w (a : Addr) (w : World) : (nilAhead 294 140 (.pointer (some a)) "sluice/wire.signed").run Try.prog w = .ok (some false) w := by kernel_rfl
def join (a b : Option (List UInt8)) : Option (List UInt8) := match a with
  | none => none
  | some p => match b with
    | none => none
    | some q => some (p ++ q)
theorem join_len {a b : Option (List UInt8)} {m n : Nat} (ha : ∀ p, a = some p → p.length ≤ m) (hb : ∀ p, b = some p → p.length ≤ n) : ∀ p, join a b = some p → p.length ≤ m + n := by
  intro p h
  cases a with
  | none => cases h
  | some x =>
    cases b with
    | none => cases h
    | some y =>
      cases h
      have := ha x rfl
      have := hb y rfl
      simp only [List.length_append]; omega
theorem signed_len {x : Int} {p : List UInt8} (h : signed.wr x = some p) : p.length ≤ 10 := by
  simp only [signed] at h
  split at h
  · rename_i hx
    simp only [Bool.and_eq_true, decide_eq_true_eq] at hx
    cases h
    exact (put_len _ (zig_lt x hx.1 hx.2)).2.1
  · cases h
theorem name_len {a s p : List UInt8} (h : (name a).wr s = some p) : p.length ≤ 26 := by
  rw [name_wr] at h
  cases hr : (num 1 16).wr (s.length : Int) with
  | none => rw [hr] at h; cases h
  | some q =>
    rw [hr] at h
    have := num_len hr
    simp only [num] at hr
    split at hr
    · rename_i hx
      simp only [Bool.and_eq_true, decide_eq_true_eq] at hx
      by_cases hg : good a s = true
      · simp only [if_pos hg, Option.some.injEq] at h
        subst h
        simp only [List.length_append]; omega
      · simp only [if_neg hg] at h; cases h
    · cases hr
set_option maxRecDepth 100000 in
set_option maxHeartbeats 800000 in
theorem caps_w (hb b off1 off2 : Nat) (v : Value) (out : List UInt8) (x y : Int) (w : World) (hS : WSt hb v out w) (hx : w.cell? ⟨b, off1, none⟩ = some (.int .i64 x)) (hy : w.cell? ⟨b, off2, none⟩ = some (.int .i64 y)) (hb' : b < hb) (hl : out.length ≤ 999900) :
    Calls Try.prog 74 #[WH hb, .pointer (some ⟨b, off1, none⟩), .pointer (some ⟨b, off2, none⟩)] w (WPost hb out w (caps.wr (x, y))) := by
  have hj : caps.wr (x, y) = join ((num 1 1099511627776).wr x) ((num 0 1099511627776).wr y) := rfl
  have HJ : Hid _ := hj
  clear hj
  have A1 := ahead_num_w ⟨hb, 0, none⟩
  have A2 := ahead_sig_w ⟨hb, 0, none⟩
  unfold WH
  try unfold Str at *
  go_enter Try.func74, Try.ntmps74
  go_wp2_with fail
  try go_region_dies
  refine (number_w hb b off1 1 1099511627776 v out x 1 1099511627776 _ (by first | exact hS | exact hS.drew) (by exact hx) rfl rfl (by decide) (by first | omega | (simp only [List.length_append]; omega))).mono ?_
  rintro e1 w1 ⟨hsd1, h1⟩
  have hst1 : WStep hb w w1 := by first | exact hsd1 | exact hsd1.ofDrew
  clear hsd1
  cases hr1 : (num 1 1099511627776).wr x with
  | none =>
    have hn : caps.wr (x, y) = none := by rw [HJ.out, hr1] <;> rfl
    rw [hr1] at h1
    subst h1
    exact ⟨rfl, hst1, by rw [hn]; rfl⟩
  | some p1 =>
    rw [hr1] at h1
    obtain ⟨rfl, v1, hS1⟩ := h1
    first | (rename_i hK; refine hK _ _ ?_; refine wpAny_done (by kernel_rfl) ?_ _; clear hK) | skip
    have hp1 := num_len hr1
    have hx_1 : w1.cell? ⟨b, off1, none⟩ = some (.int .i64 x) := (hst1.cell hb').trans hx
    have hy_1 : w1.cell? ⟨b, off2, none⟩ = some (.int .i64 y) := (hst1.cell hb').trans hy
    have hT1 := hst1
    have HR1 : Hid _ := hr1
    clear hst1 hr1
    have hr1 : Hid _ := HR1
    go_wp2_with fail
    try go_region_dies
    refine (number_w hb b off2 0 1099511627776 v1 (out ++ p1) y 0 1099511627776 _ (by first | exact hS1 | exact hS1.drew) (by exact hy_1) rfl rfl (by decide) (by first | omega | (simp only [List.length_append]; omega))).mono ?_
    rintro e2 w2 ⟨hsd2, h2⟩
    have hst2 : WStep hb w1 w2 := by first | exact hsd2 | exact hsd2.ofDrew
    clear hsd2
    cases hr2 : (num 0 1099511627776).wr y with
    | none =>
      have hn : caps.wr (x, y) = none := by rw [HJ.out, hr1.out, hr2] <;> rfl
      rw [hr2] at h2
      subst h2
      exact ⟨rfl, (hT1.trans hst2), by rw [hn]; rfl⟩
    | some p2 =>
      rw [hr2] at h2
      obtain ⟨rfl, v2, hS2⟩ := h2
      first | (rename_i hK; refine hK _ _ ?_; refine wpAny_done (by kernel_rfl) ?_ _; clear hK) | go_wp2
      go_end0
      have hn : caps.wr (x, y) = some (p1 ++ (p2)) := by rw [HJ.out, hr1.out, hr2] <;> rfl
      exact ⟨(hT1.trans hst2), by rw [hn]; exact ⟨rfl, v2, by simpa [List.append_assoc] using hS2⟩⟩
theorem caps_len {x : Int × Int} {p : List UInt8} (h : caps.wr x = some p) : p.length ≤ 20 := join_len (fun _ h => num_len h) (fun _ h => num_len h) p h
set_option maxRecDepth 100000 in
set_option maxHeartbeats 800000 in
theorem epoch_w (hb b off : Nat) (v : Value) (out : List UInt8) (x y : Int) (w : World) (hS : WSt hb v out w) (hx : w.cell? ⟨b, off, none⟩ = some (.int .i64 x)) (hy : w.cell? ⟨b, off + 1, none⟩ = some (.int .i64 y)) (hb' : b < hb) (hl : out.length ≤ 999900) :
    Calls Try.prog 75 #[WH hb, .pointer (some ⟨b, off, none⟩)] w (WPost hb out w (epoch.wr (x, y))) := by
  have hj : epoch.wr (x, y) = join ((num 1 1099511627776).wr x) ((num 0 15).wr y) := rfl
  have HJ : Hid _ := hj
  clear hj
  have A1 := ahead_num_w ⟨hb, 0, none⟩
  have A2 := ahead_sig_w ⟨hb, 0, none⟩
  unfold WH
  try unfold Str at *
  go_enter Try.func75, Try.ntmps75
  go_wp2_with fail
  try go_region_dies
  refine (number_w hb b off 1 1099511627776 v out x 1 1099511627776 _ (by first | exact hS | exact hS.drew) (by exact hx) rfl rfl (by decide) (by first | omega | (simp only [List.length_append]; omega))).mono ?_
  rintro e1 w1 ⟨hsd1, h1⟩
  have hst1 : WStep hb w w1 := by first | exact hsd1 | exact hsd1.ofDrew
  clear hsd1
  cases hr1 : (num 1 1099511627776).wr x with
  | none =>
    have hn : epoch.wr (x, y) = none := by rw [HJ.out, hr1] <;> rfl
    rw [hr1] at h1
    subst h1
    exact ⟨rfl, hst1, by rw [hn]; rfl⟩
  | some p1 =>
    rw [hr1] at h1
    obtain ⟨rfl, v1, hS1⟩ := h1
    first | (rename_i hK; refine hK _ _ ?_; refine wpAny_done (by kernel_rfl) ?_ _; clear hK) | skip
    have hp1 := num_len hr1
    have hx_1 : w1.cell? ⟨b, off, none⟩ = some (.int .i64 x) := (hst1.cell hb').trans hx
    have hy_1 : w1.cell? ⟨b, off + 1, none⟩ = some (.int .i64 y) := (hst1.cell hb').trans hy
    have hT1 := hst1
    have HR1 : Hid _ := hr1
    clear hst1 hr1
    have hr1 : Hid _ := HR1
    go_wp2_with fail
    try go_region_dies
    refine (number_w hb b (off + 1) 0 15 v1 (out ++ p1) y 0 15 _ (by first | exact hS1 | exact hS1.drew) (by exact hy_1) rfl rfl (by decide) (by first | omega | (simp only [List.length_append]; omega))).mono ?_
    rintro e2 w2 ⟨hsd2, h2⟩
    have hst2 : WStep hb w1 w2 := by first | exact hsd2 | exact hsd2.ofDrew
    clear hsd2
    cases hr2 : (num 0 15).wr y with
    | none =>
      have hn : epoch.wr (x, y) = none := by rw [HJ.out, hr1.out, hr2] <;> rfl
      rw [hr2] at h2
      subst h2
      exact ⟨rfl, (hT1.trans hst2), by rw [hn]; rfl⟩
    | some p2 =>
      rw [hr2] at h2
      obtain ⟨rfl, v2, hS2⟩ := h2
      first | (rename_i hK; refine hK _ _ ?_; refine wpAny_done (by kernel_rfl) ?_ _; clear hK) | go_wp2
      go_end0
      have hn : epoch.wr (x, y) = some (p1 ++ (p2)) := by rw [HJ.out, hr1.out, hr2] <;> rfl
      exact ⟨(hT1.trans hst2), by rw [hn]; exact ⟨rfl, v2, by simpa [List.append_assoc] using hS2⟩⟩
theorem epoch_len {x : Int × Int} {p : List UInt8} (h : epoch.wr x = some p) : p.length ≤ 20 := join_len (fun _ h => num_len h) (fun _ h => num_len h) p h
set_option maxRecDepth 100000 in
set_option maxHeartbeats 800000 in
theorem rights_w (hb b off : Nat) (v : Value) (out : List UInt8) (x y : Int) (w : World) (hS : WSt hb v out w) (hx : w.cell? ⟨b, off, none⟩ = some (.int .i64 x)) (hy : w.cell? ⟨b, off + 1, none⟩ = some (.int .i64 y)) (hb' : b < hb) (hl : out.length ≤ 999900) :
    Calls Try.prog 76 #[WH hb, .pointer (some ⟨b, off, none⟩)] w (WPost hb out w (rights.wr (x, y))) := by
  have hj : rights.wr (x, y) = join ((num 0 1099511627776).wr x) ((num 0 1099511627776).wr y) := rfl
  have HJ : Hid _ := hj
  clear hj
  have A1 := ahead_num_w ⟨hb, 0, none⟩
  have A2 := ahead_sig_w ⟨hb, 0, none⟩
  unfold WH
  try unfold Str at *
  go_enter Try.func76, Try.ntmps76
  go_wp2_with fail
  try go_region_dies
  refine (number_w hb b off 0 1099511627776 v out x 0 1099511627776 _ (by first | exact hS | exact hS.drew) (by exact hx) rfl rfl (by decide) (by first | omega | (simp only [List.length_append]; omega))).mono ?_
  rintro e1 w1 ⟨hsd1, h1⟩
  have hst1 : WStep hb w w1 := by first | exact hsd1 | exact hsd1.ofDrew
  clear hsd1
  cases hr1 : (num 0 1099511627776).wr x with
  | none =>
    have hn : rights.wr (x, y) = none := by rw [HJ.out, hr1] <;> rfl
    rw [hr1] at h1
    subst h1
    exact ⟨rfl, hst1, by rw [hn]; rfl⟩
  | some p1 =>
    rw [hr1] at h1
    obtain ⟨rfl, v1, hS1⟩ := h1
    first | (rename_i hK; refine hK _ _ ?_; refine wpAny_done (by kernel_rfl) ?_ _; clear hK) | skip
    have hp1 := num_len hr1
    have hx_1 : w1.cell? ⟨b, off, none⟩ = some (.int .i64 x) := (hst1.cell hb').trans hx
    have hy_1 : w1.cell? ⟨b, off + 1, none⟩ = some (.int .i64 y) := (hst1.cell hb').trans hy
    have hT1 := hst1
    have HR1 : Hid _ := hr1
    clear hst1 hr1
    have hr1 : Hid _ := HR1
    go_wp2_with fail
    try go_region_dies
    refine (number_w hb b (off + 1) 0 1099511627776 v1 (out ++ p1) y 0 1099511627776 _ (by first | exact hS1 | exact hS1.drew) (by exact hy_1) rfl rfl (by decide) (by first | omega | (simp only [List.length_append]; omega))).mono ?_
    rintro e2 w2 ⟨hsd2, h2⟩
    have hst2 : WStep hb w1 w2 := by first | exact hsd2 | exact hsd2.ofDrew
    clear hsd2
    cases hr2 : (num 0 1099511627776).wr y with
    | none =>
      have hn : rights.wr (x, y) = none := by rw [HJ.out, hr1.out, hr2] <;> rfl
      rw [hr2] at h2
      subst h2
      exact ⟨rfl, (hT1.trans hst2), by rw [hn]; rfl⟩
    | some p2 =>
      rw [hr2] at h2
      obtain ⟨rfl, v2, hS2⟩ := h2
      first | (rename_i hK; refine hK _ _ ?_; refine wpAny_done (by kernel_rfl) ?_ _; clear hK) | go_wp2
      go_end0
      have hn : rights.wr (x, y) = some (p1 ++ (p2)) := by rw [HJ.out, hr1.out, hr2] <;> rfl
      exact ⟨(hT1.trans hst2), by rw [hn]; exact ⟨rfl, v2, by simpa [List.append_assoc] using hS2⟩⟩
theorem rights_len {x : Int × Int} {p : List UInt8} (h : rights.wr x = some p) : p.length ≤ 20 := join_len (fun _ h => num_len h) (fun _ h => num_len h) p h
set_option maxRecDepth 100000 in
set_option maxHeartbeats 800000 in
theorem call_w (hb b off : Nat) (v : Value) (out : List UInt8) (x y : Int) (w : World) (hS : WSt hb v out w) (hx : w.cell? ⟨b, off, none⟩ = some (.int .i64 x)) (hy : w.cell? ⟨b, off + 1, none⟩ = some (.int .i64 y)) (hb' : b < hb) (hl : out.length ≤ 999900) :
    Calls Try.prog 70 #[WH hb, .pointer (some ⟨b, off, none⟩)] w (WPost hb out w (call.wr (x, y))) := by
  have hj : call.wr (x, y) = join ((num 0 63).wr x) ((num 1 1099511627776).wr y) := rfl
  have HJ : Hid _ := hj
  clear hj
  have A1 := ahead_num_w ⟨hb, 0, none⟩
  have A2 := ahead_sig_w ⟨hb, 0, none⟩
  unfold WH
  try unfold Str at *
  go_enter Try.func70, Try.ntmps70
  go_wp2_with fail
  try go_region_dies
  refine (number_w hb b off 0 63 v out x 0 63 _ (by first | exact hS | exact hS.drew) (by exact hx) rfl rfl (by decide) (by first | omega | (simp only [List.length_append]; omega))).mono ?_
  rintro e1 w1 ⟨hsd1, h1⟩
  have hst1 : WStep hb w w1 := by first | exact hsd1 | exact hsd1.ofDrew
  clear hsd1
  cases hr1 : (num 0 63).wr x with
  | none =>
    have hn : call.wr (x, y) = none := by rw [HJ.out, hr1] <;> rfl
    rw [hr1] at h1
    subst h1
    exact ⟨rfl, hst1, by rw [hn]; rfl⟩
  | some p1 =>
    rw [hr1] at h1
    obtain ⟨rfl, v1, hS1⟩ := h1
    first | (rename_i hK; refine hK _ _ ?_; refine wpAny_done (by kernel_rfl) ?_ _; clear hK) | skip
    have hp1 := num_len hr1
    have hx_1 : w1.cell? ⟨b, off, none⟩ = some (.int .i64 x) := (hst1.cell hb').trans hx
    have hy_1 : w1.cell? ⟨b, off + 1, none⟩ = some (.int .i64 y) := (hst1.cell hb').trans hy
    have hT1 := hst1
    have HR1 : Hid _ := hr1
    clear hst1 hr1
    have hr1 : Hid _ := HR1
    go_wp2_with fail
    try go_region_dies
    refine (number_w hb b (off + 1) 1 1099511627776 v1 (out ++ p1) y 1 1099511627776 _ (by first | exact hS1 | exact hS1.drew) (by exact hy_1) rfl rfl (by decide) (by first | omega | (simp only [List.length_append]; omega))).mono ?_
    rintro e2 w2 ⟨hsd2, h2⟩
    have hst2 : WStep hb w1 w2 := by first | exact hsd2 | exact hsd2.ofDrew
    clear hsd2
    cases hr2 : (num 1 1099511627776).wr y with
    | none =>
      have hn : call.wr (x, y) = none := by rw [HJ.out, hr1.out, hr2] <;> rfl
      rw [hr2] at h2
      subst h2
      exact ⟨rfl, (hT1.trans hst2), by rw [hn]; rfl⟩
    | some p2 =>
      rw [hr2] at h2
      obtain ⟨rfl, v2, hS2⟩ := h2
      first | (rename_i hK; refine hK _ _ ?_; refine wpAny_done (by kernel_rfl) ?_ _; clear hK) | go_wp2
      go_end0
      have hn : call.wr (x, y) = some (p1 ++ (p2)) := by rw [HJ.out, hr1.out, hr2] <;> rfl
      exact ⟨(hT1.trans hst2), by rw [hn]; exact ⟨rfl, v2, by simpa [List.append_assoc] using hS2⟩⟩
theorem call_len {x : Int × Int} {p : List UInt8} (h : call.wr x = some p) : p.length ≤ 20 := join_len (fun _ h => num_len h) (fun _ h => num_len h) p h
set_option maxRecDepth 100000 in
set_option maxHeartbeats 800000 in
theorem held_w (hb b off : Nat) (v : Value) (out : List UInt8) (x : Int) (w : World) (hS : WSt hb v out w) (hx : w.cell? ⟨b, off, none⟩ = some (.int .i64 x)) (_hb' : b < hb) (hl : out.length ≤ 999900) :
    Calls Try.prog 77 #[WH hb, .pointer (some ⟨b, off, none⟩)] w (WPost hb out w (held.wr x)) := by
  have hj : held.wr x = (num 0 1099511627776).wr x := rfl
  have HJ : Hid _ := hj
  clear hj
  have A1 := ahead_num_w ⟨hb, 0, none⟩
  have A2 := ahead_sig_w ⟨hb, 0, none⟩
  unfold WH
  try unfold Str at *
  go_enter Try.func77, Try.ntmps77
  go_wp2_with fail
  try go_region_dies
  refine (number_w hb b off 0 1099511627776 v out x 0 1099511627776 _ (by first | exact hS | exact hS.drew) (by exact hx) rfl rfl (by decide) (by first | omega | (simp only [List.length_append]; omega))).mono ?_
  rintro e1 w1 ⟨hsd1, h1⟩
  have hst1 : WStep hb w w1 := by first | exact hsd1 | exact hsd1.ofDrew
  clear hsd1
  cases hr1 : (num 0 1099511627776).wr x with
  | none =>
    have hn : held.wr x = none := by rw [HJ.out, hr1] <;> rfl
    rw [hr1] at h1
    subst h1
    exact ⟨rfl, hst1, by rw [hn]; rfl⟩
  | some p1 =>
    rw [hr1] at h1
    obtain ⟨rfl, v1, hS1⟩ := h1
    first | (rename_i hK; refine hK _ _ ?_; refine wpAny_done (by kernel_rfl) ?_ _; clear hK) | go_wp2
    go_end0
    have hn : held.wr x = some (p1) := by rw [HJ.out, hr1] <;> rfl
    exact ⟨hst1, by rw [hn]; exact ⟨rfl, v1, by simpa [List.append_assoc] using hS1⟩⟩
theorem held_len {x : Int} {p : List UInt8} (h : held.wr x = some p) : p.length ≤ 10 := num_len h
set_option maxRecDepth 100000 in
set_option maxHeartbeats 800000 in
theorem errno_w (hb b off : Nat) (v : Value) (out : List UInt8) (x : Int) (w : World) (hS : WSt hb v out w) (hx : w.cell? ⟨b, off, none⟩ = some (.int .i64 x)) (_hb' : b < hb) (hl : out.length ≤ 999900) :
    Calls Try.prog 73 #[WH hb, .pointer (some ⟨b, off, none⟩)] w (WPost hb out w (errno.wr x)) := by
  have hj : errno.wr x = (num 0 255).wr x := rfl
  have HJ : Hid _ := hj
  clear hj
  have A1 := ahead_num_w ⟨hb, 0, none⟩
  have A2 := ahead_sig_w ⟨hb, 0, none⟩
  unfold WH
  try unfold Str at *
  go_enter Try.func73, Try.ntmps73
  go_wp2_with fail
  try go_region_dies
  refine (number_w hb b off 0 255 v out x 0 255 _ (by first | exact hS | exact hS.drew) (by exact hx) rfl rfl (by decide) (by first | omega | (simp only [List.length_append]; omega))).mono ?_
  rintro e1 w1 ⟨hsd1, h1⟩
  have hst1 : WStep hb w w1 := by first | exact hsd1 | exact hsd1.ofDrew
  clear hsd1
  cases hr1 : (num 0 255).wr x with
  | none =>
    have hn : errno.wr x = none := by rw [HJ.out, hr1] <;> rfl
    rw [hr1] at h1
    subst h1
    exact ⟨rfl, hst1, by rw [hn]; rfl⟩
  | some p1 =>
    rw [hr1] at h1
    obtain ⟨rfl, v1, hS1⟩ := h1
    first | (rename_i hK; refine hK _ _ ?_; refine wpAny_done (by kernel_rfl) ?_ _; clear hK) | go_wp2
    go_end0
    have hn : errno.wr x = some (p1) := by rw [HJ.out, hr1] <;> rfl
    exact ⟨hst1, by rw [hn]; exact ⟨rfl, v1, by simpa [List.append_assoc] using hS1⟩⟩
theorem errno_len {x : Int} {p : List UInt8} (h : errno.wr x = some p) : p.length ≤ 10 := num_len h
end Go.Proofs.Ytfgnlfemckdfnaa
