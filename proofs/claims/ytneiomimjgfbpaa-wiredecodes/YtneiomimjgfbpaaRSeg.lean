import Derived.Test.YtneiomimjgfbpaaRComp3
namespace Go.Proofs.Ytneiomimjgfbpaa
open Go.RowKit Go.PlainAid

theorem ahead_dat_r (a : Addr) (w : World) : (nilAhead 294 113 (.pointer (some a)) "sluice/wire.data").run Try.prog w = .ok (some false) w := by kernel_rfl
/-- The five cells of a segment. -/
def segCells (f t q a : Int) (d : Value) : Array Value := #[.int .i64 f, .int .i64 t, .int .i64 q, .int .i64 a, d]

theorem dataC_rd (q : Int) (l : List UInt8) : (dataC q).rd l = match (num (lowOf q) (highOf q)).rd l with
    | .error k => .error k
    | .ok (n, k) => match (some' n.toNat).rd (l.drop k) with
      | .error j => .error (k + j)
      | .ok (s, j) => .ok (s, k + j) := by
  simp only [dataC, Codec.map, Codec.bind]
  cases (num (lowOf q) (highOf q)).rd l with
  | error k => rfl
  | ok v =>
    obtain ⟨n, k⟩ := v
    simp only
    cases (some' n.toNat).rd (l.drop k) with
    | error j => rfl
    | ok v => rfl
set_option maxRecDepth 100000 in
set_option maxHeartbeats 3200000 in
theorem segment_r (hb b off n cap : Nat) (bs : List UInt8) (p mb : Nat) (w : World) (hS : RSt hb (some ⟨b, off, none⟩) n cap bs p w)
    (hB : Blk w mb (segCells 0 0 0 0 (.slice none 0 0)) 46) (hne : mb ≠ hb) (hne2 : b ≠ mb) (hbw : b < w.heap.size) :
    Calls Try.prog 39 #[RH hb, .pointer (some ⟨mb, 0, none⟩)] w (RPostV hb mb (some ⟨b, off, none⟩) n cap bs p w (segment.rd (bs.drop p)) fun s e w' => e = tup ∧ ∃ ao c, Blk w' mb (segCells s.src s.dst s.seq s.ack (.slice ao s.data.length c)) 46 ∧ w'.ownsRow w.heap.size 5 1 (.slice ao s.data.length c) s.data.length (s.data.map B)) := by
  have A1 := ahead_num_r ⟨hb, 0, none⟩
  have A2 := ahead_dat_r ⟨hb, 0, none⟩
  unfold RH
  go_enter Try.func39, Try.ntmps39
  go_wp2_with fail
  try go_region_dies
  refine (number_r hb b off n cap bs (p) mb 0 0 15 (segCells 0 0 0 0 (.slice none 0 0)) 46 (.int .i64 0) 0 15 _ (by first | exact hS | exact hS.drew) (by exact hB) (by rfl) hne hne2 rfl rfl (by decide) (by decide)).mono ?_
  intro e1 w1 h1
  unfold RPostV at h1
  cases hr1 : (num 0 15).rd (bs.drop (p)) with
  | error j1 =>
    have hn : segment.rd (bs.drop p) = .error (j1) := by simp only [segment, pair, Codec.bind, Codec.map, hr1]
    rw [hr1] at h1
    obtain ⟨rfl, hS1, hsd1⟩ := h1
    have hst1 : RStep hb mb w w1 := by first | exact hsd1 | exact hsd1.ofDrew
    refine ⟨rfl, ?_⟩
    unfold RPostV
    rw [hn]
    exact ⟨rfl, by simpa only [Nat.add_assoc] using hS1, hst1⟩
  | ok v1 =>
    obtain ⟨x1, k1⟩ := v1
    rw [hr1] at h1
    obtain ⟨⟨rfl, hB1⟩, hS1, hsd1⟩ := h1
    have hT1 : RStep hb mb w w1 := (by first | exact hsd1 | exact hsd1.ofDrew)
    unfold tup
    first | (rename_i hK; refine hK _ _ ?_; refine wpAny_done (by kernel_rfl) ?_ _; clear hK) | skip
    have HR1 : Hid _ := hr1
    clear hr1 hsd1
    go_wp2_with fail
    try go_region_dies
    refine (number_r hb b off n cap bs (p + k1) mb 1 0 15 _ 46 (.int .i64 0) 0 15 _ (by first | exact hS1 | exact hS1.drew) (by exact hB1) (by rfl) hne hne2 rfl rfl (by decide) (by decide)).mono ?_
    intro e2 w2 h2
    unfold RPostV at h2
    cases hr2 : (num 0 15).rd (bs.drop (p + k1)) with
    | error j2 =>
      have hn : segment.rd (bs.drop p) = .error (k1 + (j2)) := by simp only [segment, pair, Codec.bind, Codec.map, List.drop_drop, HR1.out, hr2]
      rw [hr2] at h2
      obtain ⟨rfl, hS2, hsd2⟩ := h2
      have hst2 : RStep hb mb w1 w2 := by first | exact hsd2 | exact hsd2.ofDrew
      refine ⟨rfl, ?_⟩
      unfold RPostV
      rw [hn]
      exact ⟨rfl, by simpa only [Nat.add_assoc] using hS2, (hT1.trans hst2)⟩
    | ok v2 =>
      obtain ⟨x2, k2⟩ := v2
      rw [hr2] at h2
      obtain ⟨⟨rfl, hB2⟩, hS2, hsd2⟩ := h2
      have hT2 : RStep hb mb w w2 := hT1.trans (by first | exact hsd2 | exact hsd2.ofDrew)
      unfold tup
      first | (rename_i hK; refine hK _ _ ?_; refine wpAny_done (by kernel_rfl) ?_ _; clear hK) | skip
      have HR2 : Hid _ := hr2
      clear hr2 hsd2
      go_wp2_with fail
      try go_region_dies
      refine (number_r hb b off n cap bs (p + k1 + k2) mb 2 0 1099511627776 _ 46 (.int .i64 0) 0 1099511627776 _ (by first | exact hS2 | exact hS2.drew) (by exact hB2) (by rfl) hne hne2 rfl rfl (by decide) (by decide)).mono ?_
      intro e3 w3 h3
      unfold RPostV at h3
      cases hr3 : (num 0 1099511627776).rd (bs.drop (p + k1 + k2)) with
      | error j3 =>
        have hn : segment.rd (bs.drop p) = .error (k1 + (k2 + (j3))) := by simp only [segment, pair, Codec.bind, Codec.map, maxN, List.drop_drop, ← Nat.add_assoc, HR1.out, HR2.out, hr3]
        rw [hr3] at h3
        obtain ⟨rfl, hS3, hsd3⟩ := h3
        have hst3 : RStep hb mb w2 w3 := by first | exact hsd3 | exact hsd3.ofDrew
        refine ⟨rfl, ?_⟩
        unfold RPostV
        rw [hn]
        exact ⟨rfl, by simpa only [Nat.add_assoc] using hS3, (hT2.trans hst3)⟩
      | ok v3 =>
        obtain ⟨x3, k3⟩ := v3
        rw [hr3] at h3
        obtain ⟨⟨rfl, hB3⟩, hS3, hsd3⟩ := h3
        have hT3 : RStep hb mb w w3 := hT2.trans (by first | exact hsd3 | exact hsd3.ofDrew)
        unfold tup
        first | (rename_i hK; refine hK _ _ ?_; refine wpAny_done (by kernel_rfl) ?_ _; clear hK) | skip
        have HR3 : Hid _ := hr3
        clear hr3 hsd3
        go_wp2_with fail
        try go_region_dies
        refine (number_r hb b off n cap bs (p + k1 + k2 + k3) mb 3 0 1099511627776 _ 46 (.int .i64 0) 0 1099511627776 _ (by first | exact hS3 | exact hS3.drew) (by exact hB3) (by rfl) hne hne2 rfl rfl (by decide) (by decide)).mono ?_
        intro e4 w4 h4
        unfold RPostV at h4
        cases hr4 : (num 0 1099511627776).rd (bs.drop (p + k1 + k2 + k3)) with
        | error j4 =>
          have hn : segment.rd (bs.drop p) = .error (k1 + (k2 + (k3 + (j4)))) := by simp only [segment, pair, Codec.bind, Codec.map, maxN, List.drop_drop, ← Nat.add_assoc, HR1.out, HR2.out, HR3.out, hr4]
          rw [hr4] at h4
          obtain ⟨rfl, hS4, hsd4⟩ := h4
          have hst4 : RStep hb mb w3 w4 := by first | exact hsd4 | exact hsd4.ofDrew
          refine ⟨rfl, ?_⟩
          unfold RPostV
          rw [hn]
          exact ⟨rfl, by simpa only [Nat.add_assoc] using hS4, (hT3.trans hst4)⟩
        | ok v4 =>
          obtain ⟨x4, k4⟩ := v4
          rw [hr4] at h4
          obtain ⟨⟨rfl, hB4⟩, hS4, hsd4⟩ := h4
          have hT4 : RStep hb mb w w4 := hT3.trans (by first | exact hsd4 | exact hsd4.ofDrew)
          unfold tup
          first | (rename_i hK; refine hK _ _ ?_; refine wpAny_done (by kernel_rfl) ?_ _; clear hK) | skip
          have HR4 : Hid _ := hr4
          clear hr4 hsd4
          have q2 : w4.cell? ⟨mb, 2, none⟩ = some (.int .i64 x3) := by rw [hB4.cell]; rfl
          have q4 : w4.cell? ⟨mb, 4, none⟩ = some (.slice none 0 0) := by rw [hB4.cell]; rfl
          have hlt := hS4.lt
          have hml := hB4.lt
          have hz4 := hT4.size
          have hnew : Blk (w4.alloc (.cells #[.int .i64 0] 3)) w4.heap.size #[.int .i64 0] 3 := heap_alloc_new w4 _
          by_cases hq0 : x3 = 0
          · have el : lowOf x3 = 0 := by unfold lowOf; rw [if_pos hq0]
            have eh : highOf x3 = 0 := by unfold highOf; rw [if_pos hq0]
            subst hq0
            go_wp2_with fail
            refine (number_r hb b off n cap bs (p + k1 + k2 + k3 + k4) w4.heap.size 0 0 0 _ 3 _ 0 0 _ (hS4.alloc (by omega) _) hnew rfl (by omega) (by omega) rfl rfl (by decide) (by decide)).mono ?_
            intro e5 w5 h5
            unfold RPostV at h5
            cases hr5 : (num 0 0).rd (bs.drop (p + k1 + k2 + k3 + k4)) with
            | error j5 =>
              have hn : segment.rd (bs.drop p) = .error (k1 + (k2 + (k3 + (k4 + j5)))) := by simp only [segment, pair, Codec.bind, Codec.map, maxN, dataC_rd, el, eh, List.drop_drop, ← Nat.add_assoc, HR1.out, HR2.out, HR3.out, HR4.out, hr5]
              rw [hr5] at h5
              obtain ⟨rfl, hS5, hst5⟩ := h5
              refine ⟨rfl, ?_⟩
              unfold RPostV
              rw [hn]
              exact ⟨rfl, by simpa only [Nat.add_assoc] using hS5, hT4.trans (hst5.fresh rfl)⟩
            | ok v5 =>
              obtain ⟨x5, k5⟩ := v5
              have hxr := num_ok hr5
              rw [hr5] at h5
              obtain ⟨⟨rfl, hB5⟩, hS5, hst5⟩ := h5
              have hT5 : RStep hb mb w4 w5 := hst5.fresh rfl
              have hz5 := hT5.size
              have hBm : Blk w5 mb _ 46 := (hst5.block mb (by simp; omega) (by omega) (by omega)).trans ((Below.heap_alloc _ _ _ hml).trans hB4)
              obtain ⟨m, rfl⟩ : ∃ m : Nat, x5 = m := ⟨x5.toNat, by omega⟩
              have c5 : w5.cell? ⟨w4.heap.size, 0, none⟩ = some (.int .i64 (m : Int)) := by rw [hB5.cell]; rfl
              have HR5 : Hid _ := hr5
              have HE1 : Hid _ := el
              have HE2 : Hid _ := eh
              clear hr5 hst5 hnew hB5 q2 q4 el eh
              generalize w4.heap.size = kk at *
              unfold tup
              go_wp2_with fail
              try go_region_dies
              all_goals
                refine (data_r hb b off n cap bs (p + k1 + k2 + k3 + k4 + k5) mb 4 m _ 46 _ _ (by first | exact hS5 | exact hS5.drew) (by exact hBm) (by rfl) hne hne2 (by exact (show b < w5.heap.size by omega)) (by omega)).mono ?_
                intro e6 w6 h6
                unfold RPostV at h6
                cases hr6 : (some' m).rd (bs.drop (p + k1 + k2 + k3 + k4 + k5)) with
                | error j6 =>
                  have hn : segment.rd (bs.drop p) = .error (k1 + (k2 + (k3 + (k4 + (k5 + j6))))) := by simp only [segment, pair, Codec.bind, Codec.map, maxN, dataC_rd, HE1.out, HE2.out, List.drop_drop, ← Nat.add_assoc, HR1.out, HR2.out, HR3.out, HR4.out, HR5.out, Int.toNat_natCast, hr6]
                  rw [hr6] at h6
                  obtain ⟨rfl, hS6, hsd6⟩ := h6
                  have hst6 : RStep hb mb w5 w6 := by first | exact hsd6 | exact hsd6.ofDrew
                  refine ⟨rfl, ?_⟩
                  unfold RPostV
                  rw [hn]
                  exact ⟨rfl, by simpa only [Nat.add_assoc] using hS6, hT4.trans (hT5.trans hst6)⟩
                | ok v6 =>
                  obtain ⟨s, k6⟩ := v6
                  have hn : segment.rd (bs.drop p) = .ok (⟨x1, x2, 0, x4, s⟩, k1 + (k2 + (k3 + (k4 + (k5 + k6))))) := by simp only [segment, pair, Codec.bind, Codec.map, maxN, dataC_rd, HE1.out, HE2.out, List.drop_drop, ← Nat.add_assoc, HR1.out, HR2.out, HR3.out, HR4.out, HR5.out, Int.toNat_natCast, hr6]
                  have hsl : s.length = m := by
                    simp only [some'] at hr6
                    split at hr6
                    · cases hr6
                    · cases hr6; rw [List.length_take]; omega
                  rw [hr6] at h6
                  obtain ⟨⟨rfl, ao, c, hB6, hown⟩, hS6, hsd6⟩ := h6
                  have hst6 : RStep hb mb w5 w6 := by first | exact hsd6 | exact hsd6.ofDrew
                  have HN : Hid _ := hn
                  have hown6 : w6.ownsRow w.heap.size 5 1 (.slice ao m c) m (s.map B) := by
                    refine ⟨hown.1, hown.2.imp id ?_⟩
                    rintro ⟨g, c', cur, e1, e2, e3⟩
                    exact ⟨g, c', cur, e1, Nat.le_trans (show w.heap.size ≤ w5.heap.size by omega) e2, e3⟩
                  clear hn hr6 hsd6 hown
                  subst hsl
                  unfold tup
                  first | (rename_i hK; refine hK _ _ ?_; refine wpAny_done (by kernel_rfl) ?_ _; clear hK) | go_wp2
                  go_end0
                  unfold RPostV
                  rw [HN.out]
                  exact ⟨⟨rfl, ao, c, by exact hB6, hown6⟩, by simpa only [Nat.add_assoc] using hS6, hT4.trans (hT5.trans hst6)⟩
          · have el : lowOf x3 = 1 := by unfold lowOf; rw [if_neg hq0]
            have eh : highOf x3 = 4000 := by unfold highOf; rw [if_neg hq0]
            have hqb : (x3 == 0) = false := by rw [beq_eq_false_iff_ne]; exact hq0
            go_wp2_with fail
            refine (number_r hb b off n cap bs (p + k1 + k2 + k3 + k4) w4.heap.size 0 1 4000 _ 3 _ 1 4000 _ (hS4.alloc (by omega) _) hnew rfl (by omega) (by omega) rfl rfl (by decide) (by decide)).mono ?_
            intro e5 w5 h5
            unfold RPostV at h5
            cases hr5 : (num 1 4000).rd (bs.drop (p + k1 + k2 + k3 + k4)) with
            | error j5 =>
              have hn : segment.rd (bs.drop p) = .error (k1 + (k2 + (k3 + (k4 + j5)))) := by simp only [segment, pair, Codec.bind, Codec.map, maxN, dataC_rd, el, eh, List.drop_drop, ← Nat.add_assoc, HR1.out, HR2.out, HR3.out, HR4.out, hr5]
              rw [hr5] at h5
              obtain ⟨rfl, hS5, hst5⟩ := h5
              refine ⟨rfl, ?_⟩
              unfold RPostV
              rw [hn]
              exact ⟨rfl, by simpa only [Nat.add_assoc] using hS5, hT4.trans (hst5.fresh rfl)⟩
            | ok v5 =>
              obtain ⟨x5, k5⟩ := v5
              have hxr := num_ok hr5
              rw [hr5] at h5
              obtain ⟨⟨rfl, hB5⟩, hS5, hst5⟩ := h5
              have hT5 : RStep hb mb w4 w5 := hst5.fresh rfl
              have hz5 := hT5.size
              have hBm : Blk w5 mb _ 46 := (hst5.block mb (by simp; omega) (by omega) (by omega)).trans ((Below.heap_alloc _ _ _ hml).trans hB4)
              obtain ⟨m, rfl⟩ : ∃ m : Nat, x5 = m := ⟨x5.toNat, by omega⟩
              have c5 : w5.cell? ⟨w4.heap.size, 0, none⟩ = some (.int .i64 (m : Int)) := by rw [hB5.cell]; rfl
              have HR5 : Hid _ := hr5
              have HE1 : Hid _ := el
              have HE2 : Hid _ := eh
              clear hr5 hst5 hnew hB5 q2 q4 el eh
              generalize w4.heap.size = kk at *
              unfold tup
              go_wp2_with fail
              try go_region_dies
              all_goals
                refine (data_r hb b off n cap bs (p + k1 + k2 + k3 + k4 + k5) mb 4 m _ 46 _ _ (by first | exact hS5 | exact hS5.drew) (by exact hBm) (by rfl) hne hne2 (by exact (show b < w5.heap.size by omega)) (by omega)).mono ?_
                intro e6 w6 h6
                unfold RPostV at h6
                cases hr6 : (some' m).rd (bs.drop (p + k1 + k2 + k3 + k4 + k5)) with
                | error j6 =>
                  have hn : segment.rd (bs.drop p) = .error (k1 + (k2 + (k3 + (k4 + (k5 + j6))))) := by simp only [segment, pair, Codec.bind, Codec.map, maxN, dataC_rd, HE1.out, HE2.out, List.drop_drop, ← Nat.add_assoc, HR1.out, HR2.out, HR3.out, HR4.out, HR5.out, Int.toNat_natCast, hr6]
                  rw [hr6] at h6
                  obtain ⟨rfl, hS6, hsd6⟩ := h6
                  have hst6 : RStep hb mb w5 w6 := by first | exact hsd6 | exact hsd6.ofDrew
                  refine ⟨rfl, ?_⟩
                  unfold RPostV
                  rw [hn]
                  exact ⟨rfl, by simpa only [Nat.add_assoc] using hS6, hT4.trans (hT5.trans hst6)⟩
                | ok v6 =>
                  obtain ⟨s, k6⟩ := v6
                  have hn : segment.rd (bs.drop p) = .ok (⟨x1, x2, x3, x4, s⟩, k1 + (k2 + (k3 + (k4 + (k5 + k6))))) := by simp only [segment, pair, Codec.bind, Codec.map, maxN, dataC_rd, HE1.out, HE2.out, List.drop_drop, ← Nat.add_assoc, HR1.out, HR2.out, HR3.out, HR4.out, HR5.out, Int.toNat_natCast, hr6]
                  have hsl : s.length = m := by
                    simp only [some'] at hr6
                    split at hr6
                    · cases hr6
                    · cases hr6; rw [List.length_take]; omega
                  rw [hr6] at h6
                  obtain ⟨⟨rfl, ao, c, hB6, hown⟩, hS6, hsd6⟩ := h6
                  have hst6 : RStep hb mb w5 w6 := by first | exact hsd6 | exact hsd6.ofDrew
                  have HN : Hid _ := hn
                  have hown6 : w6.ownsRow w.heap.size 5 1 (.slice ao m c) m (s.map B) := by
                    refine ⟨hown.1, hown.2.imp id ?_⟩
                    rintro ⟨g, c', cur, e1, e2, e3⟩
                    exact ⟨g, c', cur, e1, Nat.le_trans (show w.heap.size ≤ w5.heap.size by omega) e2, e3⟩
                  clear hn hr6 hsd6 hown
                  subst hsl
                  unfold tup
                  first | (rename_i hK; refine hK _ _ ?_; refine wpAny_done (by kernel_rfl) ?_ _; clear hK) | go_wp2
                  go_end0
                  unfold RPostV
                  rw [HN.out]
                  exact ⟨⟨rfl, ao, c, by exact hB6, hown6⟩, by simpa only [Nat.add_assoc] using hS6, hT4.trans (hT5.trans hst6)⟩
end Go.Proofs.Ytneiomimjgfbpaa
