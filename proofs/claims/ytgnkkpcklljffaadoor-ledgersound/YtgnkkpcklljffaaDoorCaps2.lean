import Derived.Test.YtgnkkpcklljffaaDoorCaps
namespace Go.Proofs.YtgnkkpcklljffaaDoor
open Go.RowKit Go.PlainAid
set_option linter.unusedVariables false
set_option linter.unusedSimpArgs false
set_option maxRecDepth 100000 in
set_option maxHeartbeats 1600000 in
theorem set_any {S : Sens} {L hb : Nat} {s : LS} (w : World) (hS : Sen S L w) (h : Blk w hb s.cs 62) (ho : s.Ok) (hL : L ≤ hb) (a : Int) :
    Calls Tryd.prog 38 #[.pointer (some ⟨hb, 0, none⟩), .int .i64 a] w fun r w' => r = .returned (.int .i64 (s.scode a)) ∧ Blk w' hb (s.snext a).cs 62 ∧ Stq hb w w' := by
  have hLw : L ≤ w.heap.size := Nat.le_of_lt (Nat.lt_of_le_of_lt hL h.lt)
  have hi := set_in w hS h ho a
  have hc := s.scode_is a
  generalize s.scode a = ec at *
  generalize (s.snext a).cs = C at *
  have HS : Hid _ := hS
  clear hS h
  go_enter Tryd.func38, Tryd.ntmps38
  go_wp2_with fail
  refine hi.mono ?_
  rintro e1 w1 ⟨rfl, hB1, hT1⟩
  have htold := told_any w1 (HS.out.below (hT1.below hLw hL)) ec hc
  have HB : Hid _ := hB1
  have HT : Hid _ := hT1
  clear hB1 hT1 hc hi
  go_wp2_with fail
  refine htold.mono ?_
  rintro e2 w2 ⟨rfl, rfl⟩
  go_wp2_with fail
  go_ret
  exact ⟨rfl, HB.out, HT.out⟩
set_option maxRecDepth 100000 in
set_option maxHeartbeats 1600000 in
theorem recap_in {S : Sens} {L hb : Nat} {s : LS} (w : World) (hS : Sen S L w) (h : Blk w hb s.cs 62) (ho : s.Ok) (a b : Int) :
    Calls Tryd.prog 45 #[.pointer (some ⟨hb, 0, none⟩), .int .i64 a, .int .i64 b] w fun r w' => r = .returned (errV S (s.rcode a b)) ∧ Blk w' hb (s.rnext a b).cs 62 ∧ Stq hb w w' := by
  have v0 := hS.v0
  have v1 := hS.v1
  have hnw := news_any w h a b
  unfold LS.rnext
  by_cases hn : s.news a b = true
  · have hna := LS.news_amt hn
    obtain ⟨d, u, x, c, n⟩ := s
    obtain ⟨h1, h2, h3, h4, h5, h6⟩ := ho
    simp only at h1 h2 h3 h4 h5 h6 hna
    have c1 : w.cell? ⟨hb, 1, none⟩ = some (.int .i64 u) := h.cell 1
    have c3 : w.cell? ⟨hb, 3, none⟩ = some (.int .i64 c) := h.cell 3
    have c4 : w.cell? ⟨hb, 4, none⟩ = some (.int .i64 n) := h.cell 4
    have z1 := h.frozen 1
    have z3 := h.frozen 3
    have z4 := h.frozen 4
    have e1 : IntKind.i64.wrap (u + a) = u + a := by rw [IntKind.wrap_i64]; omega
    have e2 : IntKind.i64.wrap (u + a - c) = u + a - c := by rw [IntKind.wrap_i64]; omega
    rw [hn] at hnw
    by_cases hc : u + a - c < 0
    · rw [show (LS.mk d u x c n).rcode a b = 61 from by unfold LS.rcode; rw [if_pos hn, if_pos hc], if_neg (by decide)]
      show Calls Tryd.prog 45 _ w fun r w' => r = .returned (.iface 97 (.pointer (some S.a1))) ∧ _
      have HB : Hid _ := h
      clear h hS hn
      go_enter Tryd.func45, Tryd.ntmps45
      go_wp2_with fail
      refine hnw.mono ?_
      rintro e w' ⟨rfl, rfl⟩
      go_wp2_with fail
      go_quiet (fail)
      go_wp2_with fail
      go_ret
      exact ⟨rfl, HB.out, (Stq.refl _ _).drewN _⟩
    · rw [show (LS.mk d u x c n).rcode a b = 0 from by unfold LS.rcode; rw [if_pos hn, if_neg hc], if_pos rfl]
      show Calls Tryd.prog 45 _ w fun r w' => r = .returned .nilIface ∧ _
      have HB : Hid _ := h
      clear h hS hn
      go_enter Tryd.func45, Tryd.ntmps45
      go_wp2_with fail
      refine hnw.mono ?_
      rintro e w' ⟨rfl, rfl⟩
      go_wp2_with fail
      go_quiet (fail)
      go_wp2_with fail
      go_ret
      refine ⟨rfl, ?_, ?_⟩
      · exact ((Blk.set (show Blk (w'.drewN nq) hb _ 62 from HB.out) 1 _).set 3 _).set 4 _
      · exact ((((Stq.refl hb w').drewN _).trans (Stq.set hb 1 _ _)).trans (Stq.set hb 3 _ _)).trans (Stq.set hb 4 _ _)
  · have hn2 : s.news a b = false := by simpa using hn
    rw [show s.rcode a b = 1 from by unfold LS.rcode; rw [if_neg hn], if_neg (by decide)]
    rw [hn2] at hnw
    show Calls Tryd.prog 45 _ w fun r w' => r = .returned (.iface 97 (.pointer (some S.a0))) ∧ _
    have HB : Hid _ := h
    clear h hS hn hn2
    go_enter Tryd.func45, Tryd.ntmps45
    go_wp2_with fail
    refine hnw.mono ?_
    rintro e w' ⟨rfl, rfl⟩
    go_wp2_with fail
    go_ret
    exact ⟨rfl, HB.out, Stq.refl _ _⟩
set_option maxRecDepth 100000 in
set_option maxHeartbeats 1600000 in
theorem recap_any {S : Sens} {L hb : Nat} {s : LS} (w : World) (hS : Sen S L w) (h : Blk w hb s.cs 62) (ho : s.Ok) (hL : L ≤ hb) (a b : Int) :
    Calls Tryd.prog 39 #[.pointer (some ⟨hb, 0, none⟩), .int .i64 a, .int .i64 b] w fun r w' => r = .returned (.int .i64 (s.rcode a b)) ∧ Blk w' hb (s.rnext a b).cs 62 ∧ Stq hb w w' := by
  have hLw : L ≤ w.heap.size := Nat.le_of_lt (Nat.lt_of_le_of_lt hL h.lt)
  have hi := recap_in w hS h ho a b
  have hc := s.rcode_is a b
  generalize s.rcode a b = ec at *
  generalize (s.rnext a b).cs = C at *
  have HS : Hid _ := hS
  clear hS h
  go_enter Tryd.func39, Tryd.ntmps39
  go_wp2_with fail
  refine hi.mono ?_
  rintro e1 w1 ⟨rfl, hB1, hT1⟩
  have htold := told_any w1 (HS.out.below (hT1.below hLw hL)) ec hc
  have HB : Hid _ := hB1
  have HT : Hid _ := hT1
  clear hB1 hT1 hc hi
  go_wp2_with fail
  refine htold.mono ?_
  rintro e2 w2 ⟨rfl, rfl⟩
  go_wp2_with fail
  go_ret
  exact ⟨rfl, HB.out, HT.out⟩
set_option maxRecDepth 100000 in
set_option maxHeartbeats 1600000 in
theorem hear_any {hb : Nat} {s : LS} (w : World) (h : Blk w hb s.cs 62) (ho : s.Ok) (a b : Int) :
    Calls Tryd.prog 26 #[.pointer (some ⟨hb, 0, none⟩), .int .i64 a, .int .i64 b] w fun r w' => r = .returned (.bool (s.hcode a b)) ∧ Blk w' hb (s.hnext a b).cs 62 ∧ Stq hb w w' := by
  have hnw := news_any w h a b
  have hal := all_any w h ho
  have z3 := h.frozen 3
  have z4 := h.frozen 4
  have c3 : w.cell? ⟨hb, 3, none⟩ = some (.int .i64 s.c) := h.cell 3
  have c4 : w.cell? ⟨hb, 4, none⟩ = some (.int .i64 s.n) := h.cell 4
  unfold LS.hnext
  cases hn : s.news a b with
  | true =>
    rw [hn] at hnw
    by_cases hc : s.all ≤ a
    · rw [show s.hcode a b = true from by unfold LS.hcode; rw [hn]; simpa using hc, if_pos rfl]
      have HB : Hid _ := h
      obtain ⟨d, u, x, c, n⟩ := s
      generalize hm : (LS.mk d u x c n).all = m at *
      clear hn h hm
      simp only at c3 c4
      go_enter Tryd.func26, Tryd.ntmps26
      go_wp2_with fail
      refine hnw.mono ?_
      rintro e w' ⟨rfl, rfl⟩
      go_wp2_with fail
      refine hal.mono ?_
      rintro e w2 ⟨rfl, q, rfl⟩
      go_wp2_with fail
      go_ret
      refine ⟨rfl, ?_, ?_⟩
      · exact (Blk.set (show Blk (w'.drewN q) hb _ 62 from HB.out) 3 _).set 4 _
      · exact (((Stq.refl hb w').drewN _).trans (Stq.set hb 3 _ _)).trans (Stq.set hb 4 _ _)
    · rw [show s.hcode a b = false from by unfold LS.hcode; rw [hn]; simpa using hc, if_neg (by decide)]
      have HB : Hid _ := h
      obtain ⟨d, u, x, c, n⟩ := s
      generalize hm : (LS.mk d u x c n).all = m at *
      clear hn h hm c3 c4
      go_enter Tryd.func26, Tryd.ntmps26
      go_wp2_with fail
      refine hnw.mono ?_
      rintro e w' ⟨rfl, rfl⟩
      go_wp2_with fail
      refine hal.mono ?_
      rintro e w2 ⟨rfl, q, rfl⟩
      go_wp2_with fail
      go_ret
      exact ⟨rfl, HB.out, (Stq.refl hb w').drewN _⟩
  | false =>
    rw [hn] at hnw
    rw [show s.hcode a b = false from by unfold LS.hcode; rw [hn]; rfl, if_neg (by decide)]
    have HB : Hid _ := h
    clear hn h hal c3 c4
    go_enter Tryd.func26, Tryd.ntmps26
    go_wp2_with fail
    refine hnw.mono ?_
    rintro e w' ⟨rfl, rfl⟩
    go_wp2_with fail
    go_ret
    exact ⟨rfl, HB.out, Stq.refl hb w'⟩
def RC (d u : Int) : Array Value := #[.int .i64 d, .int .i64 u]
set_option maxRecDepth 100000 in
set_option maxHeartbeats 1600000 in
theorem rights_any {hb : Nat} {s : LS} (w : World) (h : Blk w hb s.cs 62) :
    Calls Tryd.prog 16 #[.pointer (some ⟨hb, 0, none⟩)] w fun r w' => r = .returned (.agg #[.int .i64 s.d, .int .i64 s.u]) ∧ Below w.heap.size w w' := by
  have hgr : Below w.heap.size w (w.alloc (.cells #[.int .i64 0, .int .i64 0] 29)) := by go_grown
  have hB1 : Blk (w.alloc (.cells #[.int .i64 0, .int .i64 0] 29)) hb s.cs 62 := h.below hgr h.lt
  have c0 : (w.alloc (.cells #[.int .i64 0, .int .i64 0] 29)).cell? ⟨hb, 0, none⟩ = some (.int .i64 s.d) := hB1.cell 0
  have c1 : (w.alloc (.cells #[.int .i64 0, .int .i64 0] 29)).cell? ⟨hb, 1, none⟩ = some (.int .i64 s.u) := hB1.cell 1
  generalize s.d = d at *
  generalize s.u = u at *
  clear hB1 h
  have HG : Hid _ := hgr
  clear hgr
  go_enter Tryd.func16, Tryd.ntmps16
  go_wp2
  have hB : (w.alloc (.cells #[.int .i64 d, .int .i64 u] 29)).heap[w.heap.size]? = some (.cells #[.int .i64 d, .int .i64 u] 29 (0, 0)) := heap_alloc_new w _
  exact bodyPost_ret (results_cell_row Tryd.results16 _ _ (w.heap.size) 29 _ (0, 0) _ rfl hB Tryd.underlying29 rfl (by kernel_rfl)) rfl ⟨rfl, by go_grown⟩
set_option maxRecDepth 100000 in
set_option maxHeartbeats 1600000 in
theorem allOut_any {hb : Nat} {s : LS} (w : World) (h : Blk w hb s.cs 62) :
    Calls Tryd.prog 21 #[.pointer (some ⟨hb, 0, none⟩)] w fun r w' => r = .returned (.agg #[.int .i64 s.d, .int .i64 s.u]) ∧ Blk w' hb s.bare.cs 62 ∧ Stq hb w w' := by
  have hgr : Below w.heap.size w (w.alloc (.cells #[.int .i64 0, .int .i64 0] 29)) := by go_grown
  have hB1 : Blk (w.alloc (.cells #[.int .i64 0, .int .i64 0] 29)) hb s.cs 62 := h.below hgr h.lt
  have c0 : (w.alloc (.cells #[.int .i64 0, .int .i64 0] 29)).cell? ⟨hb, 0, none⟩ = some (.int .i64 s.d) := hB1.cell 0
  have c1 : (w.alloc (.cells #[.int .i64 0, .int .i64 0] 29)).cell? ⟨hb, 1, none⟩ = some (.int .i64 s.u) := hB1.cell 1
  have hgr2 : Below w.heap.size w ((w.alloc (.cells #[.int .i64 0, .int .i64 0] 29)).alloc (.cells #[.int .i64 s.d, .int .i64 s.u] 29)) := by go_grown
  have hB2 : Blk ((w.alloc (.cells #[.int .i64 0, .int .i64 0] 29)).alloc (.cells #[.int .i64 s.d, .int .i64 s.u] 29)) hb s.cs 62 := h.below hgr2 h.lt
  have d0 : ((w.alloc (.cells #[.int .i64 0, .int .i64 0] 29)).alloc (.cells #[.int .i64 s.d, .int .i64 s.u] 29)).cell? ⟨hb, 0, none⟩ = some (.int .i64 s.d) := hB2.cell 0
  have z0 := hB2.frozen 0
  have hs0 := h.set 0 (.int .i64 0)
  have hgr3 : Below w.heap.size (w.setCell ⟨hb, 0, none⟩ (.int .i64 0)) (((w.setCell ⟨hb, 0, none⟩ (.int .i64 0)).alloc (.cells #[.int .i64 0, .int .i64 0] 29)).alloc (.cells #[.int .i64 s.d, .int .i64 s.u] 29)) := (((Below.refl _ _).alloc (by simp [World.setCell]) _).alloc (by simp [World.setCell]) _)
  have hB3 := hs0.below hgr3 h.lt
  have d1 : (((w.setCell ⟨hb, 0, none⟩ (.int .i64 0)).alloc (.cells #[.int .i64 0, .int .i64 0] 29)).alloc (.cells #[.int .i64 s.d, .int .i64 s.u] 29)).cell? ⟨hb, 1, none⟩ = some (.int .i64 s.u) := hB3.cell 1
  have z1 := hB3.frozen 1
  have hlt := h.lt
  obtain ⟨d, u, x, c, n⟩ := s
  simp only at *
  have HB : Hid _ := hB3
  have HG : Hid _ := hgr3
  clear hB1 hB2 hgr hgr2 hB3 hgr3 hs0
  have HH : Hid _ := h
  clear h
  go_enter Tryd.func21, Tryd.ntmps21
  go_wp2
  have hV := (Blk.set (show Blk w hb (LS.mk d u x c n).cs 62 from HH.out) 0 (.int .i64 0)).set 1 (.int .i64 0)
  have hq : Stq hb w ((w.setCell ⟨hb, 0, none⟩ (.int .i64 0)).setCell ⟨hb, 1, none⟩ (.int .i64 0)) := (Stq.set hb 0 _ w).trans (Stq.set hb 1 _ _)
  have hsz : ((w.setCell ⟨hb, 0, none⟩ (.int .i64 0)).setCell ⟨hb, 1, none⟩ (.int .i64 0)).heap.size = w.heap.size := by simp [World.setCell]
  generalize (w.setCell ⟨hb, 0, none⟩ (.int .i64 0)).setCell ⟨hb, 1, none⟩ (.int .i64 0) = V at *
  have hb2 : Below V.heap.size V ((V.alloc (.cells #[.int .i64 d, .int .i64 u] 29)).alloc (.cells #[.int .i64 d, .int .i64 u] 29)) := by go_grown
  have hB : ((V.alloc (.cells #[.int .i64 d, .int .i64 u] 29)).alloc (.cells #[.int .i64 d, .int .i64 u] 29)).heap[w.heap.size]? = some (.cells #[.int .i64 d, .int .i64 u] 29 (0, 0)) := by
    rw [← hsz]
    exact (Below.heap_alloc _ _ _ (by simp)).trans (heap_alloc_new V _)
  exact bodyPost_ret (results_cell_row Tryd.results21 _ _ (w.heap.size) 29 _ (0, 0) _ rfl hB Tryd.underlying29 rfl (by kernel_rfl)) rfl ⟨rfl, Blk.below hV hb2 (Blk.lt hV), hq.trans (Stq.ofBelow hb2)⟩
end Go.Proofs.YtgnkkpcklljffaaDoor
