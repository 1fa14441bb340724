import Derived.Test.YtneiomimjgfbpaaWComp3
namespace Go.Proofs.Ytneiomimjgfbpaa
open Go.RowKit Go.PlainAid
theorem ahead_dat_w (a : Addr) (w : World) : (nilAhead 294 135 (.pointer (some a)) "sluice/wire.data").run Try.prog w = .ok (some false) w := by kernel_rfl
theorem dataC_wr (q : Int) (s : List UInt8) : (dataC q).wr s = join ((num (lowOf q) (highOf q)).wr (s.length : Int)) (some s) := by
  simp only [dataC, Codec.map, Codec.bind, some', if_true, join]
  cases (num (lowOf q) (highOf q)).wr (s.length : Int) with
  | none => rfl
  | some p => simp only [Int.toNat_natCast, if_true]
theorem segment_wr (f t q a : Int) (s : List UInt8) : segment.wr ⟨f, t, q, a, s⟩ = join ((num 0 15).wr f) (join ((num 0 15).wr t) (join ((num 0 maxN).wr q) (join ((num 0 maxN).wr a) ((dataC q).wr s)))) := rfl
set_option maxRecDepth 100000 in
set_option maxHeartbeats 1600000 in
theorem segment_w (hb b off : Nat) (v : Value) (out : List UInt8) (f t q a : Int) (ao : Option Addr) (m c : Nat) (s : List UInt8) (w : World) (hS : WSt hb v out w)
    (hf : w.cell? ⟨b, off, none⟩ = some (.int .i64 f)) (ht : w.cell? ⟨b, off + 1, none⟩ = some (.int .i64 t)) (hq : w.cell? ⟨b, off + 2, none⟩ = some (.int .i64 q)) (ha : w.cell? ⟨b, off + 3, none⟩ = some (.int .i64 a))
    (hd : w.cell? ⟨b, off + 4, none⟩ = some (.slice ao m c)) (hm : s.length = m) (hnil : ao = none → m = 0 ∧ c = 0) (hsrc : From w ao s) (hsb : ∀ b1 o1, ao = some ⟨b1, o1, none⟩ → b1 < hb) (hs : m ≤ 140000000000000) (hb' : b < hb) (hl : out.length ≤ 900000) :
    Calls Try.prog 39 #[WH hb, .pointer (some ⟨b, off, none⟩)] w (WPost hb out w (segment.wr ⟨f, t, q, a, s⟩)) := by
  have A3 := ahead_dat_w ⟨hb, 0, none⟩
  have hj : segment.wr ⟨f, t, q, a, s⟩ = join ((num 0 15).wr f) (join ((num 0 15).wr t) (join ((num 0 1099511627776).wr q) (join ((num 0 1099511627776).wr a) (join ((num (lowOf q) (highOf q)).wr (s.length : Int)) (some s))))) := by rw [segment_wr, dataC_wr]; rfl
  have HJ : Hid _ := hj
  clear hj
  have A1 := ahead_num_w ⟨hb, 0, none⟩
  have A2 := ahead_sig_w ⟨hb, 0, none⟩
  unfold WH
  try unfold Str at *
  go_enter Try.func39, Try.ntmps39
  go_wp2_with fail
  try go_region_dies
  refine (number_w hb b off 0 15 v out f 0 15 _ (by first | exact hS | exact hS.drew) (by exact hf) rfl rfl (by decide) (by first | omega | (simp only [List.length_append]; omega))).mono ?_
  rintro e1 w1 ⟨hsd1, h1⟩
  have hst1 : WStep hb w w1 := by first | exact hsd1 | exact hsd1.ofDrew
  clear hsd1
  cases hr1 : (num 0 15).wr f with
  | none =>
    have hn : segment.wr ⟨f, t, q, a, s⟩ = none := by rw [HJ.out, hr1] <;> rfl
    rw [hr1] at h1
    subst h1
    exact ⟨rfl, hst1, by rw [hn]; rfl⟩
  | some p1 =>
    rw [hr1] at h1
    obtain ⟨rfl, v1, hS1⟩ := h1
    first | (rename_i hK; refine hK _ _ ?_; refine wpAny_done (by kernel_rfl) ?_ _; clear hK) | skip
    have hp1 := num_len hr1
    have hf_1 : w1.cell? ⟨b, off, none⟩ = some (.int .i64 f) := (hst1.cell hb').trans hf
    have ht_1 : w1.cell? ⟨b, off + 1, none⟩ = some (.int .i64 t) := (hst1.cell hb').trans ht
    have hq_1 : w1.cell? ⟨b, off + 2, none⟩ = some (.int .i64 q) := (hst1.cell hb').trans hq
    have ha_1 : w1.cell? ⟨b, off + 3, none⟩ = some (.int .i64 a) := (hst1.cell hb').trans ha
    have hd_1 : w1.cell? ⟨b, off + 4, none⟩ = some (.slice ao m c) := (hst1.cell hb').trans hd
    have hT1 := hst1
    have HR1 : Hid _ := hr1
    clear hst1 hr1
    have hr1 : Hid _ := HR1
    go_wp2_with fail
    try go_region_dies
    refine (number_w hb b (off + 1) 0 15 v1 (out ++ p1) t 0 15 _ (by first | exact hS1 | exact hS1.drew) (by exact ht_1) rfl rfl (by decide) (by first | omega | (simp only [List.length_append]; omega))).mono ?_
    rintro e2 w2 ⟨hsd2, h2⟩
    have hst2 : WStep hb w1 w2 := by first | exact hsd2 | exact hsd2.ofDrew
    clear hsd2
    cases hr2 : (num 0 15).wr t with
    | none =>
      have hn : segment.wr ⟨f, t, q, a, s⟩ = none := by rw [HJ.out, hr1.out, hr2] <;> rfl
      rw [hr2] at h2
      subst h2
      exact ⟨rfl, (hT1.trans hst2), by rw [hn]; rfl⟩
    | some p2 =>
      rw [hr2] at h2
      obtain ⟨rfl, v2, hS2⟩ := h2
      first | (rename_i hK; refine hK _ _ ?_; refine wpAny_done (by kernel_rfl) ?_ _; clear hK) | skip
      have hp2 := num_len hr2
      have hf_2 : w2.cell? ⟨b, off, none⟩ = some (.int .i64 f) := (hst2.cell hb').trans hf_1
      have ht_2 : w2.cell? ⟨b, off + 1, none⟩ = some (.int .i64 t) := (hst2.cell hb').trans ht_1
      have hq_2 : w2.cell? ⟨b, off + 2, none⟩ = some (.int .i64 q) := (hst2.cell hb').trans hq_1
      have ha_2 : w2.cell? ⟨b, off + 3, none⟩ = some (.int .i64 a) := (hst2.cell hb').trans ha_1
      have hd_2 : w2.cell? ⟨b, off + 4, none⟩ = some (.slice ao m c) := (hst2.cell hb').trans hd_1
      have hT2 := hT1.trans hst2
      have HR2 : Hid _ := hr2
      clear hst2 hr2
      have hr2 : Hid _ := HR2
      go_wp2_with fail
      try go_region_dies
      refine (number_w hb b (off + 2) 0 1099511627776 v2 ((out ++ p1) ++ p2) q 0 1099511627776 _ (by first | exact hS2 | exact hS2.drew) (by exact hq_2) rfl rfl (by decide) (by first | omega | (simp only [List.length_append]; omega))).mono ?_
      rintro e3 w3 ⟨hsd3, h3⟩
      have hst3 : WStep hb w2 w3 := by first | exact hsd3 | exact hsd3.ofDrew
      clear hsd3
      cases hr3 : (num 0 1099511627776).wr q with
      | none =>
        have hn : segment.wr ⟨f, t, q, a, s⟩ = none := by rw [HJ.out, hr1.out, hr2.out, hr3] <;> rfl
        rw [hr3] at h3
        subst h3
        exact ⟨rfl, (hT2.trans hst3), by rw [hn]; rfl⟩
      | some p3 =>
        rw [hr3] at h3
        obtain ⟨rfl, v3, hS3⟩ := h3
        first | (rename_i hK; refine hK _ _ ?_; refine wpAny_done (by kernel_rfl) ?_ _; clear hK) | skip
        have hp3 := num_len hr3
        have hf_3 : w3.cell? ⟨b, off, none⟩ = some (.int .i64 f) := (hst3.cell hb').trans hf_2
        have ht_3 : w3.cell? ⟨b, off + 1, none⟩ = some (.int .i64 t) := (hst3.cell hb').trans ht_2
        have hq_3 : w3.cell? ⟨b, off + 2, none⟩ = some (.int .i64 q) := (hst3.cell hb').trans hq_2
        have ha_3 : w3.cell? ⟨b, off + 3, none⟩ = some (.int .i64 a) := (hst3.cell hb').trans ha_2
        have hd_3 : w3.cell? ⟨b, off + 4, none⟩ = some (.slice ao m c) := (hst3.cell hb').trans hd_2
        have hT3 := hT2.trans hst3
        have HR3 : Hid _ := hr3
        clear hst3 hr3
        have hr3 : Hid _ := HR3
        go_wp2_with fail
        try go_region_dies
        refine (number_w hb b (off + 3) 0 1099511627776 v3 (((out ++ p1) ++ p2) ++ p3) a 0 1099511627776 _ (by first | exact hS3 | exact hS3.drew) (by exact ha_3) rfl rfl (by decide) (by first | omega | (simp only [List.length_append]; omega))).mono ?_
        rintro e4 w4 ⟨hsd4, h4⟩
        have hst4 : WStep hb w3 w4 := by first | exact hsd4 | exact hsd4.ofDrew
        clear hsd4
        cases hr4 : (num 0 1099511627776).wr a with
        | none =>
          have hn : segment.wr ⟨f, t, q, a, s⟩ = none := by rw [HJ.out, hr1.out, hr2.out, hr3.out, hr4] <;> rfl
          rw [hr4] at h4
          subst h4
          exact ⟨rfl, (hT3.trans hst4), by rw [hn]; rfl⟩
        | some p4 =>
          rw [hr4] at h4
          obtain ⟨rfl, v4, hS4⟩ := h4
          first | (rename_i hK; refine hK _ _ ?_; refine wpAny_done (by kernel_rfl) ?_ _; clear hK) | skip
          have hp4 := num_len hr4
          have hf_4 : w4.cell? ⟨b, off, none⟩ = some (.int .i64 f) := (hst4.cell hb').trans hf_3
          have ht_4 : w4.cell? ⟨b, off + 1, none⟩ = some (.int .i64 t) := (hst4.cell hb').trans ht_3
          have hq_4 : w4.cell? ⟨b, off + 2, none⟩ = some (.int .i64 q) := (hst4.cell hb').trans hq_3
          have ha_4 : w4.cell? ⟨b, off + 3, none⟩ = some (.int .i64 a) := (hst4.cell hb').trans ha_3
          have hd_4 : w4.cell? ⟨b, off + 4, none⟩ = some (.slice ao m c) := (hst4.cell hb').trans hd_3
          have hT4 := hT3.trans hst4
          have HR4 : Hid _ := hr4
          clear hst4 hr4
          have hr4 : Hid _ := HR4
          by_cases hq0 : q = 0
          · have el : lowOf q = 0 := by unfold lowOf; rw [if_pos hq0]
            have eh : highOf q = 0 := by unfold highOf; rw [if_pos hq0]
            subst hq0
            rw [el, eh] at HJ
            clear el eh
            have hsr4 : From w4 ao s := hsrc.keep fun b1 o1 e => hT4.below.block b1 (hsb b1 o1 e)
            have hlt := hS4.lt
            have hnew : (w4.alloc (.cells #[.int .i64 (m : Int)] 3)).heap[w4.heap.size]? = some (.cells #[.int .i64 (m : Int)] 3 (0, 0)) := heap_alloc_new w4 _
            have hcn : (w4.alloc (.cells #[.int .i64 (m : Int)] 3)).cell? ⟨w4.heap.size, 0, none⟩ = some (.int .i64 (m : Int)) := by rw [cell_of_row _ _ 0 _ 3 (0, 0) hnew]; rfl
            have hsa : WStep hb w4 (w4.alloc (.cells #[.int .i64 (m : Int)] 3)) := WStep.alloc (by omega) _
            go_wp2_with fail
            refine (number_w hb w4.heap.size 0 0 0 v4 ((((out ++ p1) ++ p2) ++ p3) ++ p4) m 0 0 _ (hS4.alloc _) hcn rfl rfl (by decide) (by simp only [List.length_append]; omega)).mono ?_
            rintro e5 w5 ⟨hst5, h5⟩
            revert h5
            rw [← hm]
            intro h5
            generalize hr5 : (num 0 0).wr (s.length : Int) = r5 at h5
            cases r5 with
            | none =>
              have hn : segment.wr ⟨f, t, 0, a, s⟩ = none := by rw [HJ.out, hr1.out, hr2.out, hr3.out, hr4.out, hr5] <;> rfl
              subst h5
              exact ⟨rfl, hT4.trans (hsa.trans hst5), by rw [hn]; rfl⟩
            | some p5 =>
              obtain ⟨rfl, v5, hS5⟩ := h5
              have hp5 := num_len hr5
              have hn : segment.wr ⟨f, t, 0, a, s⟩ = some (p1 ++ (p2 ++ (p3 ++ (p4 ++ (p5 ++ s))))) := by rw [HJ.out, hr1.out, hr2.out, hr3.out, hr4.out, hr5] <;> rfl
              have HN : Hid _ := hn
              clear hn
              have c1 : w5.cell? ⟨w4.heap.size, 0, none⟩ = some (.int .i64 (m : Int)) := hst5.cellO hnew (by decide) (by omega)
              have hd5 : w5.cell? ⟨b, off + 4, none⟩ = some (.slice ao m c) := (hst5.cell hb').trans ((hsa.cell hb').trans hd_4)
              have hsr5 : From w5 ao s := hsr4.keep fun b1 o1 e => (hsa.trans hst5).below.block b1 (hsb b1 o1 e)
              have hs5 := hT4.trans (hsa.trans hst5)
              clear hnew hcn hsa hst5 hr5
              generalize w4.heap.size = k at *
              go_wp2_with fail
              try go_region_dies
              all_goals
                refine (data_w hb b (off + 4) m ao m c v5 _ s _ (by first | exact hS5 | exact hS5.drew) (by exact hd5) hm hnil (by exact hsr5) (by simp only [List.length_append]; omega) hs).mono ?_
                rintro e6 w6 ⟨hsd6, rfl, v6, hS6⟩
                have hst6 : WStep hb w5 w6 := by first | exact hsd6 | exact hsd6.ofDrew
                first | (rename_i hK; refine hK _ _ ?_; refine wpAny_done (by kernel_rfl) ?_ _; clear hK) | go_wp2
                go_end0
                exact ⟨hs5.trans hst6, by rw [HN.out]; exact ⟨rfl, v6, by simpa [List.append_assoc] using hS6⟩⟩
          · have el : lowOf q = 1 := by unfold lowOf; rw [if_neg hq0]
            have eh : highOf q = 4000 := by unfold highOf; rw [if_neg hq0]
            rw [el, eh] at HJ
            clear el eh
            have hsr4 : From w4 ao s := hsrc.keep fun b1 o1 e => hT4.below.block b1 (hsb b1 o1 e)
            have hlt := hS4.lt
            have hnew : (w4.alloc (.cells #[.int .i64 (m : Int)] 3)).heap[w4.heap.size]? = some (.cells #[.int .i64 (m : Int)] 3 (0, 0)) := heap_alloc_new w4 _
            have hcn : (w4.alloc (.cells #[.int .i64 (m : Int)] 3)).cell? ⟨w4.heap.size, 0, none⟩ = some (.int .i64 (m : Int)) := by rw [cell_of_row _ _ 0 _ 3 (0, 0) hnew]; rfl
            have hsa : WStep hb w4 (w4.alloc (.cells #[.int .i64 (m : Int)] 3)) := WStep.alloc (by omega) _
            go_wp2_with fail
            refine (number_w hb w4.heap.size 0 1 4000 v4 ((((out ++ p1) ++ p2) ++ p3) ++ p4) m 1 4000 _ (hS4.alloc _) hcn rfl rfl (by decide) (by simp only [List.length_append]; omega)).mono ?_
            rintro e5 w5 ⟨hst5, h5⟩
            revert h5
            rw [← hm]
            intro h5
            generalize hr5 : (num 1 4000).wr (s.length : Int) = r5 at h5
            cases r5 with
            | none =>
              have hn : segment.wr ⟨f, t, q, a, s⟩ = none := by rw [HJ.out, hr1.out, hr2.out, hr3.out, hr4.out, hr5] <;> rfl
              subst h5
              exact ⟨rfl, hT4.trans (hsa.trans hst5), by rw [hn]; rfl⟩
            | some p5 =>
              obtain ⟨rfl, v5, hS5⟩ := h5
              have hp5 := num_len hr5
              have hn : segment.wr ⟨f, t, q, a, s⟩ = some (p1 ++ (p2 ++ (p3 ++ (p4 ++ (p5 ++ s))))) := by rw [HJ.out, hr1.out, hr2.out, hr3.out, hr4.out, hr5] <;> rfl
              have HN : Hid _ := hn
              clear hn
              have c1 : w5.cell? ⟨w4.heap.size, 0, none⟩ = some (.int .i64 (m : Int)) := hst5.cellO hnew (by decide) (by omega)
              have hd5 : w5.cell? ⟨b, off + 4, none⟩ = some (.slice ao m c) := (hst5.cell hb').trans ((hsa.cell hb').trans hd_4)
              have hsr5 : From w5 ao s := hsr4.keep fun b1 o1 e => (hsa.trans hst5).below.block b1 (hsb b1 o1 e)
              have hs5 := hT4.trans (hsa.trans hst5)
              clear hnew hcn hsa hst5 hr5
              generalize w4.heap.size = k at *
              go_wp2_with fail
              try go_region_dies
              all_goals
                refine (data_w hb b (off + 4) m ao m c v5 _ s _ (by first | exact hS5 | exact hS5.drew) (by exact hd5) hm hnil (by exact hsr5) (by simp only [List.length_append]; omega) hs).mono ?_
                rintro e6 w6 ⟨hsd6, rfl, v6, hS6⟩
                have hst6 : WStep hb w5 w6 := by first | exact hsd6 | exact hsd6.ofDrew
                first | (rename_i hK; refine hK _ _ ?_; refine wpAny_done (by kernel_rfl) ?_ _; clear hK) | go_wp2
                go_end0
                exact ⟨hs5.trans hst6, by rw [HN.out]; exact ⟨rfl, v6, by simpa [List.append_assoc] using hS6⟩⟩
end Go.Proofs.Ytneiomimjgfbpaa
