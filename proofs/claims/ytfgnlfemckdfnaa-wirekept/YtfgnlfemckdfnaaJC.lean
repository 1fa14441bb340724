import Derived.Test.YtfgnlfemckdfnaaWComp3
namespace Go.Proofs.Ytfgnlfemckdfnaa
open Go.RowKit Go.PlainAid
theorem From.keep0 {w w' : World} {ao : Option Addr} {bs : List UInt8} (h : From w ao bs) (hk : ∀ b off, ao = some ⟨b, off, none⟩ → 0 < bs.length → w'.heap[b]? = w.heap[b]?) : From w' ao bs := fun h0 => h.keep (fun b off e => hk b off e h0) h0
theorem ahead_dat_w (a : Addr) (w : World) : (nilAhead 294 140 (.pointer (some a)) "sluice/wire.data").run Try.prog w = .ok (some false) w := by kernel_rfl
theorem dataC_wr (q : Int) (s : List UInt8) : (dataC q).wr s = join ((num (lowOf q) (highOf q)).wr (s.length : Int)) (some s) := by
  simp only [dataC, Codec.map, Codec.bind, some', if_true, join]
  cases (num (lowOf q) (highOf q)).wr (s.length : Int) with
  | none => rfl
  | some p => simp only [Int.toNat_natCast, if_true]
theorem segment_wr (f t q a : Int) (s : List UInt8) : segment.wr ⟨f, t, q, a, s⟩ = join ((num 0 15).wr f) (join ((num 0 15).wr t) (join ((num 0 maxN).wr q) (join ((num 0 maxN).wr a) ((dataC q).wr s)))) := rfl
set_option maxRecDepth 100000 in
set_option maxHeartbeats 1600000 in
theorem segment_w (hb b off : Nat) (v : Value) (out : List UInt8) (f t q a : Int) (ao : Option Addr) (m c : Nat) (s : List UInt8) (w : World) (hS : WSt hb v out w)
    (hf : w.cell? ⟨b, off, none⟩ = some (.int .i64 f)) (ht : w.cell? ⟨b, off + 1, none⟩ = some (.int .i64 t)) (hq : w.cell? ⟨b, off + 2, none⟩ = some (.int .i64 q)) (ha : w.cell? ⟨b, off + 3, none⟩ = some (.int .i64 a))
    (hd : w.cell? ⟨b, off + 4, none⟩ = some (.slice ao m c)) (hm : s.length = m) (hnil : ao = none → m = 0 ∧ c = 0) (hsrc : From w ao s) (hsb : ∀ b1 o1, ao = some ⟨b1, o1, none⟩ → 0 < s.length → b1 < hb) (hs : m ≤ 140000000000000) (hb' : b < hb) (hl : out.length ≤ 900000) :
    Calls Try.prog 38 #[WH hb, .pointer (some ⟨b, off, none⟩)] w (WPost hb out w (segment.wr ⟨f, t, q, a, s⟩)) := by
  have A3 := ahead_dat_w ⟨hb, 0, none⟩
  have hj : segment.wr ⟨f, t, q, a, s⟩ = join ((num 0 15).wr f) (join ((num 0 15).wr t) (join ((num 0 1099511627776).wr q) (join ((num 0 1099511627776).wr a) (join ((num (lowOf q) (highOf q)).wr (s.length : Int)) (some s))))) := by rw [segment_wr, dataC_wr]; rfl
  have HJ : Hid _ := hj
  clear hj
  have A1 := ahead_num_w ⟨hb, 0, none⟩
  have A2 := ahead_sig_w ⟨hb, 0, none⟩
  unfold WH
  try unfold Str at *
  go_enter Try.func38, Try.ntmps38
  go_wp2_with fail
  try go_region_dies
  refine (number_w hb b off 0 15 v out f 0 15 _ (by first | exact hS | exact hS.drew) (by exact hf) rfl rfl (by decide) (by first | omega | (simp only [List.length_append]; omega))).mono ?_
  rintro e1 w1 ⟨hsd1, h1⟩
  have hst1 : WStep hb w w1 := by first | exact hsd1 | exact hsd1.ofDrew
  clear hsd1
  cases hr1 : (num 0 15).wr f with
  | none =>
    have hn : segment.wr ⟨f, t, q, a, s⟩ = none := by rw [HJ.out, hr1] <;> rfl
    rw [hr1] at h1
    subst h1
    exact ⟨rfl, hst1, by rw [hn]; rfl⟩
  | some p1 =>
    rw [hr1] at h1
    obtain ⟨rfl, v1, hS1⟩ := h1
    first | (rename_i hK; refine hK _ _ ?_; refine wpAny_done (by kernel_rfl) ?_ _; clear hK) | skip
    have hp1 := num_len hr1
    have hf_1 : w1.cell? ⟨b, off, none⟩ = some (.int .i64 f) := (hst1.cell hb').trans hf
    have ht_1 : w1.cell? ⟨b, off + 1, none⟩ = some (.int .i64 t) := (hst1.cell hb').trans ht
    have hq_1 : w1.cell? ⟨b, off + 2, none⟩ = some (.int .i64 q) := (hst1.cell hb').trans hq
    have ha_1 : w1.cell? ⟨b, off + 3, none⟩ = some (.int .i64 a) := (hst1.cell hb').trans ha
    have hd_1 : w1.cell? ⟨b, off + 4, none⟩ = some (.slice ao m c) := (hst1.cell hb').trans hd
    have hT1 := hst1
    have HR1 : Hid _ := hr1
    clear hst1 hr1
    have hr1 : Hid _ := HR1
    go_wp2_with fail
    try go_region_dies
    refine (number_w hb b (off + 1) 0 15 v1 (out ++ p1) t 0 15 _ (by first | exact hS1 | exact hS1.drew) (by exact ht_1) rfl rfl (by decide) (by first | omega | (simp only [List.length_append]; omega))).mono ?_
    rintro e2 w2 ⟨hsd2, h2⟩
    have hst2 : WStep hb w1 w2 := by first | exact hsd2 | exact hsd2.ofDrew
    clear hsd2
    cases hr2 : (num 0 15).wr t with
    | none =>
      have hn : segment.wr ⟨f, t, q, a, s⟩ = none := by rw [HJ.out, hr1.out, hr2] <;> rfl
      rw [hr2] at h2
      subst h2
      exact ⟨rfl, (hT1.trans hst2), by rw [hn]; rfl⟩
    | some p2 =>
      rw [hr2] at h2
      obtain ⟨rfl, v2, hS2⟩ := h2
      first | (rename_i hK; refine hK _ _ ?_; refine wpAny_done (by kernel_rfl) ?_ _; clear hK) | skip
      have hp2 := num_len hr2
      have hf_2 : w2.cell? ⟨b, off, none⟩ = some (.int .i64 f) := (hst2.cell hb').trans hf_1
      have ht_2 : w2.cell? ⟨b, off + 1, none⟩ = some (.int .i64 t) := (hst2.cell hb').trans ht_1
      have hq_2 : w2.cell? ⟨b, off + 2, none⟩ = some (.int .i64 q) := (hst2.cell hb').trans hq_1
      have ha_2 : w2.cell? ⟨b, off + 3, none⟩ = some (.int .i64 a) := (hst2.cell hb').trans ha_1
      have hd_2 : w2.cell? ⟨b, off + 4, none⟩ = some (.slice ao m c) := (hst2.cell hb').trans hd_1
      have hT2 := hT1.trans hst2
      have HR2 : Hid _ := hr2
      clear hst2 hr2
      have hr2 : Hid _ := HR2
      go_wp2_with fail
      try go_region_dies
      refine (number_w hb b (off + 2) 0 1099511627776 v2 ((out ++ p1) ++ p2) q 0 1099511627776 _ (by first | exact hS2 | exact hS2.drew) (by exact hq_2) rfl rfl (by decide) (by first | omega | (simp only [List.length_append]; omega))).mono ?_
      rintro e3 w3 ⟨hsd3, h3⟩
      have hst3 : WStep hb w2 w3 := by first | exact hsd3 | exact hsd3.ofDrew
      clear hsd3
      cases hr3 : (num 0 1099511627776).wr q with
      | none =>
        have hn : segment.wr ⟨f, t, q, a, s⟩ = none := by rw [HJ.out, hr1.out, hr2.out, hr3] <;> rfl
        rw [hr3] at h3
        subst h3
        exact ⟨rfl, (hT2.trans hst3), by rw [hn]; rfl⟩
      | some p3 =>
        rw [hr3] at h3
        obtain ⟨rfl, v3, hS3⟩ := h3
        first | (rename_i hK; refine hK _ _ ?_; refine wpAny_done (by kernel_rfl) ?_ _; clear hK) | skip
        have hp3 := num_len hr3
        have hf_3 : w3.cell? ⟨b, off, none⟩ = some (.int .i64 f) := (hst3.cell hb').trans hf_2
        have ht_3 : w3.cell? ⟨b, off + 1, none⟩ = some (.int .i64 t) := (hst3.cell hb').trans ht_2
        have hq_3 : w3.cell? ⟨b, off + 2, none⟩ = some (.int .i64 q) := (hst3.cell hb').trans hq_2
        have ha_3 : w3.cell? ⟨b, off + 3, none⟩ = some (.int .i64 a) := (hst3.cell hb').trans ha_2
        have hd_3 : w3.cell? ⟨b, off + 4, none⟩ = some (.slice ao m c) := (hst3.cell hb').trans hd_2
        have hT3 := hT2.trans hst3
        have HR3 : Hid _ := hr3
        clear hst3 hr3
        have hr3 : Hid _ := HR3
        go_wp2_with fail
        try go_region_dies
        refine (number_w hb b (off + 3) 0 1099511627776 v3 (((out ++ p1) ++ p2) ++ p3) a 0 1099511627776 _ (by first | exact hS3 | exact hS3.drew) (by exact ha_3) rfl rfl (by decide) (by first | omega | (simp only [List.length_append]; omega))).mono ?_
        rintro e4 w4 ⟨hsd4, h4⟩
        have hst4 : WStep hb w3 w4 := by first | exact hsd4 | exact hsd4.ofDrew
        clear hsd4
        cases hr4 : (num 0 1099511627776).wr a with
        | none =>
          have hn : segment.wr ⟨f, t, q, a, s⟩ = none := by rw [HJ.out, hr1.out, hr2.out, hr3.out, hr4] <;> rfl
          rw [hr4] at h4
          subst h4
          exact ⟨rfl, (hT3.trans hst4), by rw [hn]; rfl⟩
        | some p4 =>
          rw [hr4] at h4
          obtain ⟨rfl, v4, hS4⟩ := h4
          first | (rename_i hK; refine hK _ _ ?_; refine wpAny_done (by kernel_rfl) ?_ _; clear hK) | skip
          have hp4 := num_len hr4
          have hf_4 : w4.cell? ⟨b, off, none⟩ = some (.int .i64 f) := (hst4.cell hb').trans hf_3
          have ht_4 : w4.cell? ⟨b, off + 1, none⟩ = some (.int .i64 t) := (hst4.cell hb').trans ht_3
          have hq_4 : w4.cell? ⟨b, off + 2, none⟩ = some (.int .i64 q) := (hst4.cell hb').trans hq_3
          have ha_4 : w4.cell? ⟨b, off + 3, none⟩ = some (.int .i64 a) := (hst4.cell hb').trans ha_3
          have hd_4 : w4.cell? ⟨b, off + 4, none⟩ = some (.slice ao m c) := (hst4.cell hb').trans hd_3
          have hT4 := hT3.trans hst4
          have HR4 : Hid _ := hr4
          clear hst4 hr4
          have hr4 : Hid _ := HR4
          by_cases hq0 : q = 0
          · have el : lowOf q = 0 := by unfold lowOf; rw [if_pos hq0]
            have eh : highOf q = 0 := by unfold highOf; rw [if_pos hq0]
            subst hq0
            rw [el, eh] at HJ
            clear el eh
            have hsr4 : From w4 ao s := hsrc.keep0 fun b1 o1 e h0 => hT4.below.block b1 (hsb b1 o1 e h0)
            have hlt := hS4.lt
            have hnew : (w4.alloc (.cells #[.int .i64 (m : Int)] 3)).heap[w4.heap.size]? = some (.cells #[.int .i64 (m : Int)] 3 (0, 0)) := heap_alloc_new w4 _
            have hcn : (w4.alloc (.cells #[.int .i64 (m : Int)] 3)).cell? ⟨w4.heap.size, 0, none⟩ = some (.int .i64 (m : Int)) := by rw [cell_of_row _ _ 0 _ 3 (0, 0) hnew]; rfl
            have hsa : WStep hb w4 (w4.alloc (.cells #[.int .i64 (m : Int)] 3)) := WStep.alloc (by omega) _
            go_wp2_with fail
            refine (number_w hb w4.heap.size 0 0 0 v4 ((((out ++ p1) ++ p2) ++ p3) ++ p4) m 0 0 _ (hS4.alloc _) hcn rfl rfl (by decide) (by simp only [List.length_append]; omega)).mono ?_
            rintro e5 w5 ⟨hst5, h5⟩
            revert h5
            rw [← hm]
            intro h5
            generalize hr5 : (num 0 0).wr (s.length : Int) = r5 at h5
            cases r5 with
            | none =>
              have hn : segment.wr ⟨f, t, 0, a, s⟩ = none := by rw [HJ.out, hr1.out, hr2.out, hr3.out, hr4.out, hr5] <;> rfl
              subst h5
              exact ⟨rfl, hT4.trans (hsa.trans hst5), by rw [hn]; rfl⟩
            | some p5 =>
              obtain ⟨rfl, v5, hS5⟩ := h5
              have hp5 := num_len hr5
              have hn : segment.wr ⟨f, t, 0, a, s⟩ = some (p1 ++ (p2 ++ (p3 ++ (p4 ++ (p5 ++ s))))) := by rw [HJ.out, hr1.out, hr2.out, hr3.out, hr4.out, hr5] <;> rfl
              have HN : Hid _ := hn
              clear hn
              have c1 : w5.cell? ⟨w4.heap.size, 0, none⟩ = some (.int .i64 (m : Int)) := hst5.cellO hnew (by decide) (by omega)
              have hd5 : w5.cell? ⟨b, off + 4, none⟩ = some (.slice ao m c) := (hst5.cell hb').trans ((hsa.cell hb').trans hd_4)
              have hsr5 : From w5 ao s := hsr4.keep0 fun b1 o1 e h0 => (hsa.trans hst5).below.block b1 (hsb b1 o1 e h0)
              have hs5 := hT4.trans (hsa.trans hst5)
              clear hnew hcn hsa hst5 hr5
              generalize w4.heap.size = k at *
              go_wp2_with fail
              try go_region_dies
              all_goals
                refine (data_w hb b (off + 4) m ao m c v5 _ s _ (by first | exact hS5 | exact hS5.drew) (by exact hd5) hm hnil (by exact hsr5) (by simp only [List.length_append]; omega) hs).mono ?_
                rintro e6 w6 ⟨hsd6, rfl, v6, hS6⟩
                have hst6 : WStep hb w5 w6 := by first | exact hsd6 | exact hsd6.ofDrew
                first | (rename_i hK; refine hK _ _ ?_; refine wpAny_done (by kernel_rfl) ?_ _; clear hK) | go_wp2
                go_end0
                exact ⟨hs5.trans hst6, by rw [HN.out]; exact ⟨rfl, v6, by simpa [List.append_assoc] using hS6⟩⟩
          · have el : lowOf q = 1 := by unfold lowOf; rw [if_neg hq0]
            have eh : highOf q = 4000 := by unfold highOf; rw [if_neg hq0]
            rw [el, eh] at HJ
            clear el eh
            have hsr4 : From w4 ao s := hsrc.keep0 fun b1 o1 e h0 => hT4.below.block b1 (hsb b1 o1 e h0)
            have hlt := hS4.lt
            have hnew : (w4.alloc (.cells #[.int .i64 (m : Int)] 3)).heap[w4.heap.size]? = some (.cells #[.int .i64 (m : Int)] 3 (0, 0)) := heap_alloc_new w4 _
            have hcn : (w4.alloc (.cells #[.int .i64 (m : Int)] 3)).cell? ⟨w4.heap.size, 0, none⟩ = some (.int .i64 (m : Int)) := by rw [cell_of_row _ _ 0 _ 3 (0, 0) hnew]; rfl
            have hsa : WStep hb w4 (w4.alloc (.cells #[.int .i64 (m : Int)] 3)) := WStep.alloc (by omega) _
            go_wp2_with fail
            refine (number_w hb w4.heap.size 0 1 4000 v4 ((((out ++ p1) ++ p2) ++ p3) ++ p4) m 1 4000 _ (hS4.alloc _) hcn rfl rfl (by decide) (by simp only [List.length_append]; omega)).mono ?_
            rintro e5 w5 ⟨hst5, h5⟩
            revert h5
            rw [← hm]
            intro h5
            generalize hr5 : (num 1 4000).wr (s.length : Int) = r5 at h5
            cases r5 with
            | none =>
              have hn : segment.wr ⟨f, t, q, a, s⟩ = none := by rw [HJ.out, hr1.out, hr2.out, hr3.out, hr4.out, hr5] <;> rfl
              subst h5
              exact ⟨rfl, hT4.trans (hsa.trans hst5), by rw [hn]; rfl⟩
            | some p5 =>
              obtain ⟨rfl, v5, hS5⟩ := h5
              have hp5 := num_len hr5
              have hn : segment.wr ⟨f, t, q, a, s⟩ = some (p1 ++ (p2 ++ (p3 ++ (p4 ++ (p5 ++ s))))) := by rw [HJ.out, hr1.out, hr2.out, hr3.out, hr4.out, hr5] <;> rfl
              have HN : Hid _ := hn
              clear hn
              have c1 : w5.cell? ⟨w4.heap.size, 0, none⟩ = some (.int .i64 (m : Int)) := hst5.cellO hnew (by decide) (by omega)
              have hd5 : w5.cell? ⟨b, off + 4, none⟩ = some (.slice ao m c) := (hst5.cell hb').trans ((hsa.cell hb').trans hd_4)
              have hsr5 : From w5 ao s := hsr4.keep0 fun b1 o1 e h0 => (hsa.trans hst5).below.block b1 (hsb b1 o1 e h0)
              have hs5 := hT4.trans (hsa.trans hst5)
              clear hnew hcn hsa hst5 hr5
              generalize w4.heap.size = k at *
              go_wp2_with fail
              try go_region_dies
              all_goals
                refine (data_w hb b (off + 4) m ao m c v5 _ s _ (by first | exact hS5 | exact hS5.drew) (by exact hd5) hm hnil (by exact hsr5) (by simp only [List.length_append]; omega) hs).mono ?_
                rintro e6 w6 ⟨hsd6, rfl, v6, hS6⟩
                have hst6 : WStep hb w5 w6 := by first | exact hsd6 | exact hsd6.ofDrew
                first | (rename_i hK; refine hK _ _ ?_; refine wpAny_done (by kernel_rfl) ?_ _; clear hK) | go_wp2
                go_end0
                exact ⟨hs5.trans hst6, by rw [HN.out]; exact ⟨rfl, v6, by simpa [List.append_assoc] using hS6⟩⟩
end Go.Proofs.Ytfgnlfemckdfnaa
namespace Go.Proofs.Ytfgnlfemckdfnaa
open Go.RowKit Go.PlainAid
def viewCells (x : View) : List Value := [Str x.name, .int .i64 x.cap, .int .i64 x.recaps, .int .i64 x.version, .int .i64 x.down, .int .i64 x.up, .int .i64 x.held]
def VFrom (w : World) (ao : Option Addr) (l : List View) : Prop := ∀ i x, l[i]? = some x → ∃ vb vo, ao = some ⟨vb, vo, none⟩ ∧ ∀ j c, (viewCells x)[j]? = some c → w.cell? ⟨vb, vo + i * 7 + j, none⟩ = some c
theorem VFrom.keep {w w' : World} {ao : Option Addr} {l : List View} (h : VFrom w ao l) (hk : ∀ b off, ao = some ⟨b, off, none⟩ → 0 < l.length → w'.heap[b]? = w.heap[b]?) : VFrom w' ao l := by
  intro i x hx
  obtain ⟨vb, vo, rfl, hc⟩ := h i x hx
  exact ⟨vb, vo, rfl, fun j c hj => (World.cell?_of_block (w := w) (hk vb vo rfl (by have := (List.getElem?_eq_some_iff.1 hx).1; omega))).trans (hc j c hj)⟩
theorem views_wr (l : List View) : views.wr l = join ((num 0 64).wr (l.length : Int)) ((viewList l.length []).wr l) := by
  simp only [views, Codec.map, Codec.bind, if_true, join, Int.toNat_natCast]
  rfl
theorem viewList_wr (n : Nat) (a : List UInt8) (x : View) (r : List View) : (viewList (n + 1) a).wr (x :: r) = join ((view a).wr x) ((viewList n x.name).wr r) := rfl
theorem viewList_nil (a : List UInt8) : (viewList 0 a).wr [] = some [] := rfl
theorem join_assoc (a b c : Option (List UInt8)) : join (join a b) c = join a (join b c) := by
  cases a <;> cases b <;> cases c <;> simp [join]
set_option maxRecDepth 100000 in
set_option maxHeartbeats 1600000 in
theorem views_w (hb b off : Nat) (v : Value) (out : List UInt8) (ao : Option Addr) (m c : Nat) (l : List View) (w : World) (hS : WSt hb v out w)
    (hd : w.cell? ⟨b, off, none⟩ = some (.slice ao m c)) (hm : l.length = m) (hsrc : VFrom w ao l) (hsb : ∀ b1 o1, ao = some ⟨b1, o1, none⟩ → 0 < l.length → b1 < hb) (hs : m ≤ 140000000000000) (hlen : ∀ x ∈ l, x.name.length ≤ 140737488355328) (hb' : b < hb) (hl : out.length ≤ 900000) :
    Calls Try.prog 78 #[WH hb, .pointer (some ⟨b, off, none⟩)] w (WPost hb out w (views.wr l)) := by
  unfold WH
  have hlt := hS.lt
  have hnew : (w.alloc (.cells #[.int .i64 (m : Int)] 3)).heap[w.heap.size]? = some (.cells #[.int .i64 (m : Int)] 3 (0, 0)) := heap_alloc_new w _
  have hcn : (w.alloc (.cells #[.int .i64 (m : Int)] 3)).cell? ⟨w.heap.size, 0, none⟩ = some (.int .i64 (m : Int)) := by rw [cell_of_row _ _ 0 _ 3 (0, 0) hnew]; rfl
  have hsa : WStep hb w (w.alloc (.cells #[.int .i64 (m : Int)] 3)) := WStep.alloc (by omega) _
  go_enter Try.func78, Try.ntmps78
  go_wp2_with fail
  refine (number_w hb w.heap.size 0 0 64 v out m 0 64 _ (hS.alloc _) hcn rfl rfl (by decide) (by omega)).mono ?_
  rintro e1 w1 ⟨hst1, h1⟩
  revert h1
  rw [← hm]
  intro h1
  generalize hr1 : (num 0 64).wr (l.length : Int) = r1 at h1
  cases r1 with
  | none =>
    have hn : views.wr l = none := by rw [views_wr, hr1] <;> rfl
    subst h1
    exact ⟨rfl, hsa.trans hst1, by rw [hn]; rfl⟩
  | some p1 =>
    obtain ⟨rfl, v1, hS1⟩ := h1
    have hp1 := num_len hr1
    have hm64 : m ≤ 64 := by
      simp only [num] at hr1
      split at hr1
      · rename_i hx
        simp only [Bool.and_eq_true, decide_eq_true_eq] at hx
        omega
      · cases hr1
    have hn : views.wr l = join (some p1) ((viewList l.length []).wr l) := by rw [views_wr, hr1] <;> rfl
    have HN : Hid _ := hn
    clear hn
    have c1 : w1.cell? ⟨w.heap.size, 0, none⟩ = some (.int .i64 (m : Int)) := hst1.cellO hnew (by decide) (by omega)
    have hd1 : w1.cell? ⟨b, off, none⟩ = some (.slice ao m c) := (hst1.cell hb').trans ((hsa.cell hb').trans hd)
    have hs1 := hsa.trans hst1
    have hsr1 : VFrom w1 ao l := hsrc.keep fun b1 o1 e h0 => hs1.below.block b1 (hsb b1 o1 e h0)
    have hbn : ((m : Int) != (m : Int)) = false := by simp
    clear hnew hcn hsa hst1 hr1
    generalize w.heap.size = k at *
    go_wp2
    go_quiet (fail)
    go_wp2
    have hS1q := hS1.drewN nq
    have hs1q := hs1.drewN nq
    clear c1 hd1 hsr1 hbn hS1 hs1
    generalize w1.drewN nq = w1q at *
    go_loopw [5, 28] (fun av i wr => ∃ (k : Nat) (vr : Value) (pre a : List UInt8), i = .int .i64 k ∧ k ≤ m ∧ av = .string ⟨a.toArray⟩ ∧ pre.length ≤ 112 * k + 10 ∧ views.wr l = join (some pre) ((viewList (m - k) a).wr (l.drop k)) ∧ WSt hb vr (out ++ pre) wr ∧ WStep hb w wr) (fun _ i _ => m - (intOf i).toNat)
    case atStart => exact ⟨0, v1, p1, [], rfl, by omega, rfl, by omega, by simpa [hm] using HN.out, hS1q, hs1q⟩
    case round =>
      obtain ⟨k, vr, pre, a, rfl, hk, rfl, hpre, hinv, hSr, hstr⟩ := hrel
      clear hS1q hs1q
      have HI : Hid _ := hinv
      clear hinv HN
      by_cases hlt2 : k < m
      · have hkl : k < l.length := by omega
        obtain ⟨x, hx⟩ : ∃ x, l[k]? = some x := ⟨l[k]'hkl, List.getElem?_eq_getElem hkl⟩
        have hdrop : l.drop k = x :: l.drop (k + 1) := by
          rw [List.drop_eq_getElem_cons hkl]
          congr 1
          rw [List.getElem?_eq_getElem hkl] at hx
          exact Option.some.inj hx
        have hxl := hlen x (List.mem_of_getElem? hx)
        obtain ⟨vb, vo, rfl, hcs⟩ := hsrc k x hx
        have hvb := hsb vb vo rfl (by have := (List.getElem?_eq_some_iff.1 hx).1; omega)
        have hI2 : views.wr l = join (some pre) (join ((view a).wr x) ((viewList (m - (k + 1)) x.name).wr (l.drop (k + 1)))) := by
          rw [HI.out, hdrop, show m - k = (m - (k + 1)) + 1 from by omega, viewList_wr]
        have HI2 : Hid _ := hI2
        have hdr : wr.cell? ⟨b, off, none⟩ = some (.slice (some ⟨vb, vo, none⟩) m c) := (hstr.cell hb').trans hd
        have q0 : wr.cell? ⟨vb, vo + k * 7, none⟩ = some (Str x.name) := (hstr.cell hvb).trans (hcs 0 _ rfl)
        have q1 : wr.cell? ⟨vb, vo + k * 7 + 1, none⟩ = some (.int .i64 x.cap) := (hstr.cell hvb).trans (hcs 1 _ rfl)
        have q2 : wr.cell? ⟨vb, vo + k * 7 + 2, none⟩ = some (.int .i64 x.recaps) := (hstr.cell hvb).trans (hcs 2 _ rfl)
        have q3 : wr.cell? ⟨vb, vo + k * 7 + 3, none⟩ = some (.int .i64 x.version) := (hstr.cell hvb).trans (hcs 3 _ rfl)
        have q4 : wr.cell? ⟨vb, vo + k * 7 + 4, none⟩ = some (.int .i64 x.down) := (hstr.cell hvb).trans (hcs 4 _ rfl)
        have q5 : wr.cell? ⟨vb, vo + k * 7 + 4 + 1, none⟩ = some (.int .i64 x.up) := (hstr.cell hvb).trans (hcs 5 _ rfl)
        have q6 : wr.cell? ⟨vb, vo + k * 7 + 6, none⟩ = some (.int .i64 x.held) := (hstr.cell hvb).trans (hcs 6 _ rfl)
        have hvw := view_w hb vb (vo + k * 7) vr (out ++ pre) x.name a x.cap x.recaps x.version x.down x.up x.held wr hSr q0 q1 q2 q3 q4 q5 q6 hvb hxl (by simp only [List.length_append]; omega)
        have Q0 : Hid _ := q0
        unfold WH Str at hvw
        clear hI2 hdrop hcs q0 q1 q2 q3 q4 q5 q6 hx HI hsrc hd hS
        go_wp2_with fail
        refine hvw.mono ?_
        rintro e2 w2 ⟨hst2, h2⟩
        cases hr2 : (view a).wr x with
        | none =>
          have hn : views.wr l = none := by rw [HI2.out, hr2] <;> rfl
          rw [show (view a).wr ⟨x.name, x.cap, x.recaps, x.version, x.down, x.up, x.held⟩ = none from hr2] at h2
          subst h2
          exact ⟨rfl, hstr.trans hst2, by rw [hn]; rfl⟩
        | some p2 =>
          rw [show (view a).wr ⟨x.name, x.cap, x.recaps, x.version, x.down, x.up, x.held⟩ = some p2 from hr2] at h2
          obtain ⟨rfl, v2, hS2⟩ := h2
          have hp2 := view_len hr2
          have hn : views.wr l = join (some (pre ++ p2)) ((viewList (m - (k + 1)) x.name).wr (l.drop (k + 1))) := by
            rw [HI2.out, hr2, ← join_assoc]; rfl
          have HN2 : Hid _ := hn
          have q0' : w2.cell? ⟨vb, vo + k * 7, none⟩ = some (.string ⟨x.name.toArray⟩) := (hst2.cell hvb).trans Q0.out
          clear hn hr2 hvw Q0 HI2
          go_wp2
          go_roundw
          case rel => exact ⟨k + 1, v2, pre ++ p2, x.name, by go_num, by omega, rfl, by simp only [List.length_append]; omega, HN2.out, by rw [← List.append_assoc]; exact hS2, hstr.trans hst2⟩
          case measure => simp [intOf]; omega
      · have hn : views.wr l = some pre := by
          rw [HI.out, show m - k = 0 from by omega, List.drop_eq_nil_of_le (by omega), viewList_nil]
          simp [join]
        have HN2 : Hid _ := hn
        clear hn HI hsrc
        go_wp2
        go_end0
        exact ⟨hstr, by rw [HN2.out]; exact ⟨rfl, vr, hSr⟩⟩
end Go.Proofs.Ytfgnlfemckdfnaa
namespace Go.Proofs.Ytfgnlfemckdfnaa
open Go.RowKit Go.PlainAid
def hasOf (k : Int) : Int := if k = 1 then 3 else if k = 2 then 13 else if k = 3 then 52 else if k = 4 then 244 else if k = 5 ∨ k = 6 then 116 else if k = 7 then 308 else if k = 8 ∨ k = 9 then 84 else 512
set_option maxHeartbeats 800000 in
theorem fieldsOf_any (k : Int) (h1 : 1 ≤ k) (h2 : k ≤ 10) (w : World) : Calls Try.prog 68 #[.int .i64 k] w fun e w' => e = .returned (.int .u64 (hasOf k)) ∧ w' = w := by
  rcases (show k = 1 ∨ k = 2 ∨ k = 3 ∨ k = 4 ∨ k = 5 ∨ k = 6 ∨ k = 7 ∨ k = 8 ∨ k = 9 ∨ k = 10 from by omega) with rfl | rfl | rfl | rfl | rfl | rfl | rfl | rfl | rfl | rfl
  all_goals
    go_enter Try.func68, Try.ntmps68
    go_wp2
    go_ret
    exact ⟨rfl, rfl⟩
set_option maxHeartbeats 800000 in
theorem with_any (f x : Int) (w : World) : Calls Try.prog 69 #[.int .u64 f, .int .u64 x] w fun e w' => e = .returned (.bool (bits .and .u64 f x != 0)) ∧ w' = w := by
  go_enter Try.func69, Try.ntmps69
  go_wp2
  go_ret
  exact ⟨rfl, rfl⟩
def WPostR (hb : Nat) (out : List UInt8) (w : World) (r : Option (List UInt8)) (x : Value) (e : Ending) (w' : World) : Prop :=
  WStep hb w w' ∧ match r with
    | none => e = refused
    | some bs => e = .returned x ∧ ∃ v', WSt hb v' (out ++ bs) w'
theorem fo {k : Int} {w : World} {Q : Ending → World → Prop} (h : Q (.returned (.int .u64 (hasOf k))) w) (h1 : 1 ≤ k := by decide) (h2 : k ≤ 10 := by decide) : Calls Try.prog 68 #[.int .i64 k] w Q := (fieldsOf_any k h1 h2 w).mono fun e wz ⟨he, hw⟩ => by rw [he, hw]; exact h
theorem wi {f x : Int} {w : World} {Q : Ending → World → Prop} (h : Q (.returned (.bool (bits .and .u64 f x != 0))) w) : Calls Try.prog 69 #[.int .u64 f, .int .u64 x] w Q := (with_any f x w).mono fun e wz ⟨he, hw⟩ => by rw [he, hw]; exact h
end Go.Proofs.Ytfgnlfemckdfnaa
