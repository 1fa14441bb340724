import Derived.Test.YtkdndfdofhnagaaDoorPlays
namespace Go.Proofs.YtkdndfdofhnagaaDoor
open Go.RowKit Go.PlainAid
set_option linter.unusedVariables false
set_option linter.unusedSimpArgs false
theorem Sen.up {S : Sens} {L L' : Nat} {w : World} (h : Sen S L w) (hl : L ≤ L') : Sen S L' w := ⟨h.v0, h.v1, h.v2, h.n01, h.n02, h.n12, h.b0, h.b1, h.b2, by have := h.l; omega⟩
def ls0 : LS := ⟨0, 0, 0, 1000, 0⟩
def zs0 : ZS := ⟨.slice none 0 0, .slice none 0 0, .slice none 0 0, .slice none 0 0, [], [], [], [], []⟩
def ps0 (me room : Int) : PS := ⟨⟨⟨me, room, 0, []⟩, ls0, ls0⟩, .slice none 0 0, zs0, 0⟩
def nilP : Value := .pointer none
def pC (hb rb : Nat) (a b c d : Value) : Array Value := #[.pointer (some ⟨hb, 0, none⟩), .pointer (some ⟨rb, 0, none⟩), a, b, c, d, .slice none 0 0, .slice none 0 0, .int .i64 0, .slice none 0 0, .slice none 0 0]
theorem ls0_ok : ls0.Ok := ⟨by decide, by decide, by decide, by decide, by decide, by decide⟩
theorem gd0 (me room : Int) (h : ncode me room = 0) : Gd 0 (ps0 me room) := by
  have h1 : 0 ≤ me ∧ me < 16 := by
    by_cases h1 : 0 ≤ me ∧ me < 16
    · exact h1
    · have : (decide (0 ≤ me) && decide (me < 16)) = false := by simp only [Bool.and_eq_false_iff, decide_eq_false_iff_not]; omega
      simp [ncode, this] at h
  have h2 : 0 ≤ room ∧ room ≤ 16 := by
    by_cases h2 : 0 ≤ room ∧ room ≤ 16
    · exact h2
    · have : (decide (0 ≤ room) && decide (room ≤ 16)) = false := by simp only [Bool.and_eq_false_iff, decide_eq_false_iff_not]; omega
      simp [ncode, this, h1] at h
  refine ⟨⟨rfl, fun i x m hx => by simp [ps0, zs0] at hx, by simp [ps0, zs0], fun x hx => by simp [ps0, zs0, ZS.dats] at hx, rfl⟩, rfl, Int.le_refl _, Int.le_refl _, by simp [ps0, zs0], ⟨⟨h1.1, h1.2, h2.2, by simp [ps0]; omega, Int.le_refl _, by simp [ps0], fun x hx => by simp [ps0] at hx⟩, ls0_ok, ls0_ok⟩, Int.le_refl _⟩
theorem shelf0 (L : Nat) (w : World) : Shelf L zs0 w := ⟨tail_nil _ _ _, tail_nil _ _ _, tail_nil _ _ _, tail_nil _ _ _, fun x hx => by simp [zs0, ZS.dats] at hx, by
  unfold ZS.vals
  have : ∀ k, (Value.slice none 0 0).ownBlock ≠ some k := fun k e => by cases e
  simp only [zs0, ZS.dats, List.map_nil, List.append_nil, List.pairwise_cons, List.mem_cons, List.not_mem_nil, or_false]
  refine ⟨fun a _ k e => absurd e (this k), fun a _ k e => absurd e (this k), fun a _ k e => absurd e (this k), fun a h => False.elim h, List.Pairwise.nil⟩⟩
set_option maxRecDepth 100000 in
set_option maxHeartbeats 3200000 in
theorem made_yes {S : Sens} {L : Nat} (w : World) (hS : Sen S L w) (hL : L ≤ w.heap.size) (me room : Int) (hc : ncode me room = 0) :
    Calls Tryd.prog 9 #[.int .i64 me, .int .i64 room] w fun r w' => ∃ a, r = .returned (.tuple #[.pointer (some ⟨a.pb, 0, none⟩), .bool true]) ∧ PInv S w.heap.size a (ps0 me room) (ps0 me room).c w' ∧ Below w.heap.size w w' := by
  have HS : Hid _ := hS.up hL
  have HN1 : Hid _ := bnew_any me room w hc
  have HN2 : Hid _ := (fun W => rnew7_any me room W hc)
  have hk : okAmt 1000 = true := by decide
  have HL1 : Hid _ := (fun W => new_any 1000 W hk)
  have HL2 : Hid _ := (fun W => rnew_any 1000 W hk)
  have hnm := num_any
  clear hS hL hc hk
  go_enter Tryd.func9, Tryd.ntmps9
  go_wp2_with fail
  refine Calls.mono HN1.out ?_
  rintro e w1 ⟨rfl, hB1, hb1, hz1⟩
  have HZ1 : Hid _ := hz1
  have HB1 : Hid _ := hB1
  have Hb1 : Hid _ := hb1
  clear hz1 hB1 hb1
  go_wp2_with fail
  refine Calls.mono (HN2.out w1) ?_
  rintro e w2 ⟨rfl, rfl⟩
  go_wp2_with (first | (go_at_call 16; refine (hnm _ _).mono ?_; rintro e w' ⟨rfl, hw'⟩; replace hw' := hw'.symm; subst hw'))
  have hP3 : Blk ((w1.alloc (.cells (rbC ⟨me, room, 0, []⟩ (.slice none 0 0)) 86)).alloc (.cells (pC (w.heap.size + 1) w1.heap.size nilP nilP nilP nilP) 61)) (w1.heap.size + 1) (pC (w.heap.size + 1) w1.heap.size nilP nilP nilP nilP) 61 := by
    have := heap_alloc_new (w1.alloc (.cells (rbC ⟨me, room, 0, []⟩ (.slice none 0 0)) 86)) (.cells (pC (w.heap.size + 1) w1.heap.size nilP nilP nilP nilP) 61)
    rw [World.size_alloc] at this
    exact this
  have hg3 : Below w1.heap.size w1 ((w1.alloc (.cells (rbC ⟨me, room, 0, []⟩ (.slice none 0 0)) 86)).alloc (.cells (pC (w.heap.size + 1) w1.heap.size nilP nilP nilP nilP) 61)) := by go_grown
  have hR3 : Blk ((w1.alloc (.cells (rbC ⟨me, room, 0, []⟩ (.slice none 0 0)) 86)).alloc (.cells (pC (w.heap.size + 1) w1.heap.size nilP nilP nilP nilP) 61)) w1.heap.size (rbC ⟨me, room, 0, []⟩ (.slice none 0 0)) 86 := (Below.heap_alloc _ _ _ (by simp)).trans (heap_alloc_new w1 _)
  have hz3 : ((w1.alloc (.cells (rbC ⟨me, room, 0, []⟩ (.slice none 0 0)) 86)).alloc (.cells (pC (w.heap.size + 1) w1.heap.size nilP nilP nilP nilP) 61)).heap.size = w1.heap.size + 2 := by simp
  have eW : (w1.alloc (.cells (rbC ⟨me, room, 0, []⟩ (.slice none 0 0)) 86)).alloc (.cells #[.pointer (some ⟨w.heap.size + 1, 0, none⟩), .pointer (some ⟨w1.heap.size, 0, none⟩), .pointer none, .pointer none, .pointer none, .pointer none, .slice none 0 0, .slice none 0 0, .int .i64 0, .slice none 0 0, .slice none 0 0] 61) = (w1.alloc (.cells (rbC ⟨me, room, 0, []⟩ (.slice none 0 0)) 86)).alloc (.cells (pC (w.heap.size + 1) w1.heap.size nilP nilP nilP nilP) 61) := rfl
  try rw [eW]
  clear eW
  have HP0 : Hid _ := hP3
  have HG3 : Hid _ := hg3
  have HR3 : Hid _ := hR3
  have HZ3 : Hid _ := hz3
  clear hP3 hg3 hR3 hz3
  generalize (w1.alloc (.cells (rbC ⟨me, room, 0, []⟩ (.slice none 0 0)) 86)).alloc (.cells (pC (w.heap.size + 1) w1.heap.size nilP nilP nilP nilP) 61) = W3 at *
  refine wp_loop_rounds 3 ?_
  rw [rounds_succ]
  go_wp2_with fail
  refine Calls.mono (HL1.out W3) ?_
  rintro e wl0 ⟨rfl, rfl⟩
  have hgl0 : Below W3.heap.size W3 (W3.alloc (.cells (LS.mk 0 0 0 1000 0).cs 71)) := (Below.refl _ _).alloc (Nat.le_refl _) _
  have hBl0 : Blk (W3.alloc (.cells (LS.mk 0 0 0 1000 0).cs 71)) W3.heap.size ls0.cs 71 := heap_alloc_new W3 _
  have hzl0 : (W3.alloc (.cells (LS.mk 0 0 0 1000 0).cs 71)).heap.size = W3.heap.size + 1 := World.size_alloc _ _
  have HGL0 : Hid _ := hgl0
  have HBL0 : Hid _ := hBl0
  have HZL0 : Hid _ := hzl0
  clear hgl0 hBl0 hzl0
  generalize W3.alloc (.cells (LS.mk 0 0 0 1000 0).cs 71) = WL0 at *
  go_wp2_with fail
  refine Calls.mono (HL2.out WL0) ?_
  rintro e wq0 ⟨rfl, rfl⟩
  have hgq0 : Below WL0.heap.size WL0 (WL0.alloc (.cells (LS.mk 0 0 0 1000 0).cs 89)) := (Below.refl _ _).alloc (Nat.le_refl _) _
  have hBq0 : Blk (WL0.alloc (.cells (LS.mk 0 0 0 1000 0).cs 89)) WL0.heap.size ls0.cs 89 := heap_alloc_new WL0 _
  have hzq0 : (WL0.alloc (.cells (LS.mk 0 0 0 1000 0).cs 89)).heap.size = WL0.heap.size + 1 := World.size_alloc _ _
  have HGQ0 : Hid _ := hgq0
  have HBQ0 : Hid _ := hBq0
  have HZQ0 : Hid _ := hzq0
  clear hgq0 hBq0 hzq0
  generalize WL0.alloc (.cells (LS.mk 0 0 0 1000 0).cs 89) = WQ0 at *
  have hPq0 : Blk WQ0 (w1.heap.size + 1) (pC (w.heap.size + 1) w1.heap.size nilP nilP nilP nilP) 61 := Blk.below (Blk.below HP0.out HGL0.out (Blk.lt HP0.out)) HGQ0.out (Blk.lt (Blk.below HP0.out HGL0.out (Blk.lt HP0.out)))
  have x01 : WQ0.cell? ⟨w1.heap.size + 1, 2, none⟩ = some (.pointer none) := hPq0.cell 2
  have z01 := hPq0.frozen 2
  have hPa0 := hPq0.set 2 (.pointer (some ⟨W3.heap.size, 0, none⟩))
  have x02 : (WQ0.setCell ⟨w1.heap.size + 1, 2, none⟩ (.pointer (some ⟨W3.heap.size, 0, none⟩))).cell? ⟨w1.heap.size + 1, 4, none⟩ = some (.pointer none) := hPa0.cell 4
  have z02 := hPa0.frozen 4
  have HP1 : Hid _ := (show Blk _ (w1.heap.size + 1) (pC (w.heap.size + 1) w1.heap.size (.pointer (some ⟨W3.heap.size, 0, none⟩)) nilP (.pointer (some ⟨WL0.heap.size, 0, none⟩)) nilP) 61 from hPa0.set 4 (.pointer (some ⟨WL0.heap.size, 0, none⟩)))
  have HST0 : Hid _ := (Stq.set (w1.heap.size + 1) 2 (.pointer (some ⟨W3.heap.size, 0, none⟩)) WQ0).trans (Stq.set (w1.heap.size + 1) 4 (.pointer (some ⟨WL0.heap.size, 0, none⟩)) _)
  have hsz0 : ((WQ0.setCell ⟨w1.heap.size + 1, 2, none⟩ (.pointer (some ⟨W3.heap.size, 0, none⟩))).setCell ⟨w1.heap.size + 1, 4, none⟩ (.pointer (some ⟨WL0.heap.size, 0, none⟩))).heap.size = WQ0.heap.size := by simp [World.setCell]
  have HSZ0 : Hid _ := hsz0
  clear hPq0 hPa0 hsz0
  go_wp2_with (first | (go_at_call 16; refine (hnm _ _).mono ?_; rintro e w' ⟨rfl, hw'⟩; replace hw' := hw'.symm; subst hw'))
  generalize (WQ0.setCell ⟨w1.heap.size + 1, 2, none⟩ (.pointer (some ⟨W3.heap.size, 0, none⟩))).setCell ⟨w1.heap.size + 1, 4, none⟩ (.pointer (some ⟨WL0.heap.size, 0, none⟩)) = WR0 at *
  clear x01 z01 x02 z02
  try rw [rounds_succ]
  go_wp2_with fail
  refine Calls.mono (HL1.out WR0) ?_
  rintro e wl1 ⟨rfl, rfl⟩
  have hgl1 : Below WR0.heap.size WR0 (WR0.alloc (.cells (LS.mk 0 0 0 1000 0).cs 71)) := (Below.refl _ _).alloc (Nat.le_refl _) _
  have hBl1 : Blk (WR0.alloc (.cells (LS.mk 0 0 0 1000 0).cs 71)) WR0.heap.size ls0.cs 71 := heap_alloc_new WR0 _
  have hzl1 : (WR0.alloc (.cells (LS.mk 0 0 0 1000 0).cs 71)).heap.size = WR0.heap.size + 1 := World.size_alloc _ _
  have HGL1 : Hid _ := hgl1
  have HBL1 : Hid _ := hBl1
  have HZL1 : Hid _ := hzl1
  clear hgl1 hBl1 hzl1
  generalize WR0.alloc (.cells (LS.mk 0 0 0 1000 0).cs 71) = WL1 at *
  go_wp2_with fail
  refine Calls.mono (HL2.out WL1) ?_
  rintro e wq1 ⟨rfl, rfl⟩
  have hgq1 : Below WL1.heap.size WL1 (WL1.alloc (.cells (LS.mk 0 0 0 1000 0).cs 89)) := (Below.refl _ _).alloc (Nat.le_refl _) _
  have hBq1 : Blk (WL1.alloc (.cells (LS.mk 0 0 0 1000 0).cs 89)) WL1.heap.size ls0.cs 89 := heap_alloc_new WL1 _
  have hzq1 : (WL1.alloc (.cells (LS.mk 0 0 0 1000 0).cs 89)).heap.size = WL1.heap.size + 1 := World.size_alloc _ _
  have HGQ1 : Hid _ := hgq1
  have HBQ1 : Hid _ := hBq1
  have HZQ1 : Hid _ := hzq1
  clear hgq1 hBq1 hzq1
  generalize WL1.alloc (.cells (LS.mk 0 0 0 1000 0).cs 89) = WQ1 at *
  have hPq1 : Blk WQ1 (w1.heap.size + 1) (pC (w.heap.size + 1) w1.heap.size (.pointer (some ⟨W3.heap.size, 0, none⟩)) nilP (.pointer (some ⟨WL0.heap.size, 0, none⟩)) nilP) 61 := Blk.below (Blk.below HP1.out HGL1.out (Blk.lt HP1.out)) HGQ1.out (Blk.lt (Blk.below HP1.out HGL1.out (Blk.lt HP1.out)))
  have x11 : WQ1.cell? ⟨w1.heap.size + 1, 3, none⟩ = some (.pointer none) := hPq1.cell 3
  have z11 := hPq1.frozen 3
  have hPa1 := hPq1.set 3 (.pointer (some ⟨WR0.heap.size, 0, none⟩))
  have x12 : (WQ1.setCell ⟨w1.heap.size + 1, 3, none⟩ (.pointer (some ⟨WR0.heap.size, 0, none⟩))).cell? ⟨w1.heap.size + 1, 5, none⟩ = some (.pointer none) := hPa1.cell 5
  have z12 := hPa1.frozen 5
  have HP2 : Hid _ := (show Blk _ (w1.heap.size + 1) (pC (w.heap.size + 1) w1.heap.size (.pointer (some ⟨W3.heap.size, 0, none⟩)) (.pointer (some ⟨WR0.heap.size, 0, none⟩)) (.pointer (some ⟨WL0.heap.size, 0, none⟩)) (.pointer (some ⟨WL1.heap.size, 0, none⟩))) 61 from hPa1.set 5 (.pointer (some ⟨WL1.heap.size, 0, none⟩)))
  have HST1 : Hid _ := (Stq.set (w1.heap.size + 1) 3 (.pointer (some ⟨WR0.heap.size, 0, none⟩)) WQ1).trans (Stq.set (w1.heap.size + 1) 5 (.pointer (some ⟨WL1.heap.size, 0, none⟩)) _)
  have hsz1 : ((WQ1.setCell ⟨w1.heap.size + 1, 3, none⟩ (.pointer (some ⟨WR0.heap.size, 0, none⟩))).setCell ⟨w1.heap.size + 1, 5, none⟩ (.pointer (some ⟨WL1.heap.size, 0, none⟩))).heap.size = WQ1.heap.size := by simp [World.setCell]
  have HSZ1 : Hid _ := hsz1
  clear hPq1 hPa1 hsz1
  go_wp2_with (first | (go_at_call 16; refine (hnm _ _).mono ?_; rintro e w' ⟨rfl, hw'⟩; replace hw' := hw'.symm; subst hw'))
  generalize (WQ1.setCell ⟨w1.heap.size + 1, 3, none⟩ (.pointer (some ⟨WR0.heap.size, 0, none⟩))).setCell ⟨w1.heap.size + 1, 5, none⟩ (.pointer (some ⟨WL1.heap.size, 0, none⟩)) = WR1 at *
  clear x11 z11 x12 z12
  try rw [rounds_succ]
  go_wp2_with fail
  go_ret2
  refine ⟨⟨w1.heap.size + 1, w.heap.size + 1, w.heap.size, W3.heap.size, WR0.heap.size, w1.heap.size, WL0.heap.size, WL1.heap.size⟩, rfl, ?_⟩
  have z1 := HZ1.out
  have z3 := HZ3.out
  have zl0 := HZL0.out
  have zq0 := HZQ0.out
  have sz0 := HSZ0.out
  have zl1 := HZL1.out
  have zq1 := HZQ1.out
  have sz1 := HSZ1.out
  -- what the world of one stage tells of a block below it
  have t3 : ∀ k, k < w1.heap.size → W3.heap[k]? = w1.heap[k]? := fun k hk => HG3.out.block k hk
  have t4 : ∀ k, k < W3.heap.size → k ≠ w1.heap.size + 1 → WR0.heap[k]? = W3.heap[k]? := fun k hk hn => (HST0.out.block k (by omega) hn).trans ((HGQ0.out.block k (by omega)).trans (HGL0.out.block k hk))
  have t5 : ∀ k, k < WR0.heap.size → k ≠ w1.heap.size + 1 → WR1.heap[k]? = WR0.heap[k]? := fun k hk hn => (HST1.out.block k (by omega) hn).trans ((HGQ1.out.block k (by omega)).trans (HGL1.out.block k hk))
  have all : ∀ k, k < w1.heap.size → WR1.heap[k]? = w1.heap[k]? := fun k hk => (t5 k (by omega) (by omega)).trans ((t4 k (by omega) (by omega)).trans (t3 k hk))
  have hbel : Below w.heap.size w WR1 := by
    have b1 := Hb1.out
    have g3 := HG3.out
    have gl0 := HGL0.out
    have gq0 := HGQ0.out
    have st0 := HST0.out
    have gl1 := HGL1.out
    have gq1 := HGQ1.out
    have st1 := HST1.out
    refine ⟨?_, ?_, ?_, by omega, fun k hk => (all k (by omega)).trans (b1.block k hk)⟩
    · rw [st1.os, gq1.os, gl1.os, st0.os, gq0.os, gl0.os, g3.os, b1.os]
    · rw [st1.tape, gq1.tape, gl1.tape, st0.tape, gq0.tape, gl0.tape, g3.tape, b1.tape]
    · rw [st1.output, gq1.output, gl1.output, st0.output, gq0.output, gl0.output, g3.output, b1.output]
  have hB := HB1.out
  have hR : Blk WR1 w1.heap.size (rbC ⟨me, room, 0, []⟩ (.slice none 0 0)) 86 := ((t5 _ (by omega) (by omega)).trans (t4 _ (by omega) (by omega))).trans HR3.out
  have hl0 : Blk WR1 W3.heap.size ls0.cs 71 := (t5 _ (by omega) (by omega)).trans ((HST0.out.block _ (by omega) (by omega)).trans ((HGQ0.out.block _ (by omega)).trans HBL0.out))
  have hq0 : Blk WR1 WL0.heap.size ls0.cs 89 := (t5 _ (by omega) (by omega)).trans ((HST0.out.block _ (by omega) (by omega)).trans HBQ0.out)
  have hl1 : Blk WR1 WR0.heap.size ls0.cs 71 := (HST1.out.block _ (by omega) (by omega)).trans ((HGQ1.out.block _ (by omega)).trans HBL1.out)
  have hq1 : Blk WR1 WL1.heap.size ls0.cs 89 := (HST1.out.block _ (by omega) (by omega)).trans HBQ1.out
  refine ⟨⟨⟨HS.out.below hbel, ⟨(all (w.heap.size + 1) (by omega)).trans hB.blk, hB.map.same (all w.heap.size (by omega))⟩, ⟨hR, World.ownsRow_nil _ _ _ _⟩, hl0, hl1, hq0, hq1, ?_, ?_, ?_⟩, shelf0 _ _, HP2.out, ?_⟩, hbel⟩
  · show W3.heap.size ≠ WR0.heap.size
    omega
  · show WL0.heap.size ≠ WL1.heap.size
    omega
  · refine ⟨?_, ?_, ?_, ?_, ?_, ?_, ?_⟩ <;> dsimp only <;> omega
  · show w.heap.size ≤ w1.heap.size + 1
    omega
set_option maxRecDepth 100000 in
set_option maxHeartbeats 1600000 in
theorem made_no (w : World) (me room : Int) (hc : ncode me room ≠ 0) : Calls Tryd.prog 9 #[.int .i64 me, .int .i64 room] w fun r w' => r = .returned (.tuple #[.pointer none, .bool true]) ∧ w' = w := by
  have HN1 : Hid _ := bnew_no me room w hc
  have HN2 : Hid _ := rnew7_no me room w hc
  have hnm := num_any
  generalize ncode me room = cd at *
  clear hc
  go_enter Tryd.func9, Tryd.ntmps9
  go_wp2_with fail
  refine Calls.mono HN1.out ?_
  rintro e w1 ⟨rfl, hw1⟩
  subst hw1
  go_wp2_with fail
  refine Calls.mono HN2.out ?_
  rintro e w2 ⟨rfl, hw2⟩
  subst hw2
  go_wp2_with (first | (go_at_call 16; refine (hnm _ _).mono ?_; rintro e w' ⟨rfl, rfl⟩))
  go_ret2
  exact ⟨rfl, rfl⟩
end Go.Proofs.YtkdndfdofhnagaaDoor
