import Derived.Test.YtehjdkdoalmaeaaLetterB
import Derived.Test.YtehjdkdoalmaeaaLetter1
namespace Go.Proofs.Ytehjdkdoalmaeaa
open Go.RowKit Go.PlainAid
set_option linter.unusedVariables false
set_option linter.unusedSimpArgs false
set_option maxRecDepth 100000 in
set_option maxHeartbeats 6400000 in
theorem letter_full2 {L pb hbn hbr room n : Nat} {s : PS} (w : World) (h : PInv L pb hbn hbr room s w) (hF : PFull s) (hc : PCnt n s) (hn : n ≤ 3000) (hLw : L ≤ w.heap.size) (xo : Option Addr) (xc : Nat) (bs : List UInt8) (hf : s.fl = [⟨.slice xo bs.length xc, bs⟩]) (hx : bs.length ≤ 1048576) (f t e : Int) (ao2 : Option Addr) (c2 : Nat) (h2 : From w ao2 bs)
    (hq1 : ¬ ((s.turns + 1) % 3 = 0)) (hq2 : ¬ ((bs.length : Int) ≤ 4194304 - s.size)) :
    Calls Try.prog 34 #[.pointer (some ⟨pb, 0, none⟩), .agg (letC f t (.slice xo bs.length xc)), .int .i64 e, .agg (letC f t (.slice ao2 bs.length c2)), .int .i64 e] w fun r w' => r = .returned (.bool true) ∧ ∃ s', LPost L pb hbn hbr room n s s' w w' := by
  show Calls Try.prog 34 #[.pointer (some ⟨pb, 0, none⟩), .agg #[.int .i64 f, .int .i64 t, .slice xo bs.length xc], .int .i64 e, .agg #[.int .i64 f, .int .i64 t, .slice ao2 bs.length c2], .int .i64 e] w _
  have hgr : Below w.heap.size w ((w.alloc (.cells #[.int .i64 f, .int .i64 t, .slice xo bs.length xc] 31)).alloc (.cells #[.int .i64 f, .int .i64 t, .slice ao2 bs.length c2] 31)) := by go_grown
  have hBl : Blk ((w.alloc (.cells #[.int .i64 f, .int .i64 t, .slice xo bs.length xc] 31)).alloc (.cells #[.int .i64 f, .int .i64 t, .slice ao2 bs.length c2] 31)) w.heap.size (letC f t (.slice xo bs.length xc)) 31 := (Below.heap_alloc _ _ _ (by simp)).trans (heap_alloc_new w _)
  have hBr : Blk ((w.alloc (.cells #[.int .i64 f, .int .i64 t, .slice xo bs.length xc] 31)).alloc (.cells #[.int .i64 f, .int .i64 t, .slice ao2 bs.length c2] 31)) (w.heap.size + 1) (letC f t (.slice ao2 bs.length c2)) 31 := by
    have := heap_alloc_new (w.alloc (.cells #[.int .i64 f, .int .i64 t, .slice xo bs.length xc] 31)) (.cells #[.int .i64 f, .int .i64 t, .slice ao2 bs.length c2] 31)
    rw [World.size_alloc] at this
    exact this
  have hPA := h.below hgr
  have hfx : From w xo bs := by
    have := h.float ⟨.slice xo bs.length xc, bs⟩ (by rw [hf]; simp)
    obtain ⟨_, _, ee, _, _, q, _⟩ := own_from this
    cases ee
    exact q
  have hal := alike_any f t f t xo ao2 bs.length bs.length xc c2 bs bs _ rfl rfl ((hfx.alloc (.cells #[.int .i64 f, .int .i64 t, .slice xo bs.length xc] 31)).alloc (.cells #[.int .i64 f, .int .i64 t, .slice ao2 bs.length c2] 31)) ((h2.alloc (.cells #[.int .i64 f, .int .i64 t, .slice xo bs.length xc] 31)).alloc (.cells #[.int .i64 f, .int .i64 t, .slice ao2 bs.length c2] 31))
  rw [show alikeB f t bs f t bs = true from by simp [alikeB]] at hal
  have HG : Hid _ := hgr
  have HL : Hid _ := hBl
  have HR : Hid _ := hBr
  have HP : Hid _ := hPA
  have H0 : Hid _ := h
  clear hgr hBl hBr hPA hfx h2 h
  go_enter Try.func34, Try.ntmps34
  go_wp2_with (first | (go_at_call 9; refine (num_any _ _).mono ?_; rintro e9 w9 ⟨rfl, rfl⟩) | fail)
  refine hal.mono ?_
  rintro e14 w1 ⟨rfl, hb1⟩
  have hgr1 : Below w.heap.size w w1 := HG.out.trans (hb1.mono HG.out.size)
  have hP1 := HP.out.below hb1
  have hBl1 : Blk w1 w.heap.size (letC f t (.slice xo bs.length xc)) 31 := (hb1.block _ (by simp; omega)).trans HL.out
  have hBr1 : Blk w1 (w.heap.size + 1) (letC f t (.slice ao2 bs.length c2)) 31 := (hb1.block _ (by simp)).trans HR.out
  have hL1 : LSt L pb hbn hbr room s s (letC f t (.slice xo bs.length xc)) (letC f t (.slice ao2 bs.length c2)) w w1 := ⟨hP1, PStp.ofBelow hgr1, hBl1, hBr1, fun q => by have := H0.out.lt _ q; omega, fun q => by have := H0.out.lt _ q; omega⟩
  have hpl := H0.out.pblt
  clear HG HL HR HP hal hb1 hP1 hBl1 hBr1 hgr1 H0
  have c8 : w1.cell? ⟨pb, 8, none⟩ = some (.int .i64 s.turns) := hL1.cell 8
  have z8 : w1.frozen? ⟨pb, 8, none⟩ = false := hL1.frozen 8
  have hL2 := hL1.setTurns (s.turns + 1)
  have ht0 := hc.t0
  have ht1 := hc.t1
  have HL : Hid _ := hL2
  clear hL1 hL2
  go_wp2_with fail
  have hL2 := HL.out
  clear HL c8 z8
  generalize (w1.setCell ⟨pb, 8, none⟩ (.int .i64 (s.turns + 1))) = W2 at *
  obtain ⟨s2, hs2⟩ : ∃ s2, s2 = ({ s with turns := s.turns + 1 } : PS) := ⟨_, rfl⟩
  rw [← hs2] at hL2
  have c8 : W2.cell? ⟨pb, 8, none⟩ = some (.int .i64 (s.turns + 1)) := by have := hL2.cell 8; rw [hs2] at this; exact this
  have c9 : W2.cell? ⟨pb, 9, none⟩ = some (.int .i64 s.size) := by have := hL2.cell 9; rw [hs2] at this; exact this
  have b2 : W2.cell? ⟨w.heap.size, 2, none⟩ = some (.slice xo bs.length xc) := hL2.bl.cell 2
  have hz0 := hc.z0
  have hz1 := hc.z1
  have hd : ((s.turns + 1).tmod 3 != 0) = true := by
    rw [Int.tmod_eq_emod_of_nonneg (by omega)]
    simpa using hq1
  have hw9 : IntKind.i64.wrap (4194304 - s.size) = 4194304 - s.size := by rw [IntKind.wrap_i64]; omega
  go_quiet (fail)
  have hL3 := hL2.drewN nq
  clear hL2 c8 c9 b2 hd
  generalize W2.drewN nq = W3 at *
  have c3 : W3.cell? ⟨pb, 3, none⟩ = some (.int .i64 s.mark) := by have := hL3.cell 3; rw [hs2] at this; exact this
  have z3 : W3.frozen? ⟨pb, 3, none⟩ = false := hL3.frozen 3
  have hm0 := hc.m0
  have hm1 := hc.m1
  have hL4 := hL3.setMark (s.mark + 1)
  have HL : Hid _ := hL4
  clear hL4 hL3
  go_wp2_with fail
  have hL4 := HL.out
  clear HL c3 z3
  generalize (W3.setCell ⟨pb, 3, none⟩ (.int .i64 (s.mark + 1))) = W4 at *
  obtain ⟨s4, hs4⟩ : ∃ s4, s4 = ({ s2 with mark := s.mark + 1 } : PS) := ⟨_, rfl⟩
  rw [← hs4] at hL4
  have hf4 : s4.fl = [⟨.slice xo bs.length xc, bs⟩] := by rw [hs4, hs2]; exact hf
  have hm4 : s4.mark = s.mark + 1 := by rw [hs4]
  have hL4' : LSt L pb hbn hbr room s { s4 with fl := [⟨.slice xo bs.length xc, bs⟩] } (letC f t (.slice xo bs.length xc)) (letC f t (.slice ao2 bs.length c2)) w W4 := by rw [← hf4]; exact hL4
  clear hL4
  go_loopw [12] (fun i wr => ∃ (k : Nat) (bs' : List UInt8), k ≤ bs.length ∧ i = .int .i64 k ∧ bs'.length = bs.length ∧ Marked bs' k (s.mark + 1) ∧ LSt L pb hbn hbr room s { s4 with fl := [⟨.slice xo bs.length xc, bs'⟩] } (letC f t (.slice xo bs.length xc)) (letC f t (.slice ao2 bs.length c2)) w wr) (fun i _ => bs.length - (intOf i).toNat)
  case atStart => exact ⟨0, bs, Nat.zero_le _, rfl, rfl, Marked.zero _ _, hL4'⟩
  case round =>
    obtain ⟨k, bs', hk, rfl, hbl, hmk, hLr⟩ := hrel
    rename World => wr
    clear hL4'
    have b2 : wr.cell? ⟨w.heap.size, 2, none⟩ = some (.slice xo bs.length xc) := hLr.bl.cell 2
    by_cases hlt : k < bs.length
    · have hrow : wr.ownsRow L 5 1 (.slice xo bs.length xc) bs'.length (bs'.map B) := hLr.inv.float ⟨.slice xo bs.length xc, bs'⟩ (by simp)
      rw [hbl] at hrow
      obtain ⟨g, rfl⟩ : ∃ g, xo = some ⟨g, 0, none⟩ := by
        rcases hrow.2 with ⟨q, h0⟩ | ⟨g, cap, cur, q, _⟩
        · omega
        · cases q; exact ⟨g, rfl⟩
      have HL : Hid _ := hLr
      have HM : Hid _ := hmk
      have HR : Hid _ := hrow
      clear hLr hmk hrow
      go_wp2_with fail
      have hLr := HL.out
      have hrow : wr.ownsRow L 5 1 (.slice (some ⟨g, 0, none⟩) bs.length xc) bs.length (bs'.map B) := HR.out
      have hmk : Marked bs' k (s.mark + 1) := HM.out
      clear HL HR HM
      have y3 : wr.cell? ⟨pb, 3, none⟩ = some (.int .i64 (s.mark + 1)) := by have := hLr.cell 3; rw [← hm4]; exact this
      rename_i K hK
      try rw [show ∀ a : Act, a.put none undef = a from fun _ => rfl]
      generalize wr = W5o at *
      refine wp_region_mix (fun wr => wr.heap[pb]? = W5o.heap[pb]? ∧ wr.heap[w.heap.size]? = W5o.heap[w.heap.size]?) (fun i => i == 9) 9 (by kernel_rfl) rfl (by kernel_rfl) (by kernel_rfl) (by kernel_rfl) ?_
      have hC : ({ W5o with drawn := W5o.drawn + 1 } : World).heap[pb]? = W5o.heap[pb]? ∧ ({ W5o with drawn := W5o.drawn + 1 } : World).heap[w.heap.size]? = W5o.heap[w.heap.size]? := ⟨rfl, rfl⟩
      have hLd := hLr.drew
      have hrd : ({ W5o with drawn := W5o.drawn + 1 } : World).ownsRow L 5 1 (.slice (some ⟨g, 0, none⟩) bs.length xc) bs.length (bs'.map B) := ownsRow_same hrow fun _ _ => rfl
      generalize ({ W5o with drawn := W5o.drawn + 1 } : World) = W5 at *
      obtain ⟨u, hu⟩ : ∃ u : UInt8, ((u.toNat : Nat) : Int) = (s.mark + 1) % 256 := ⟨UInt8.ofNat ((s.mark + 1) % 256).toNat, by rw [UInt8.toNat_ofNat_of_lt' (by show ((s.mark + 1) % 256).toNat < 256; omega)]; omega⟩
      obtain ⟨cur, hcur⟩ := ownsRow_type hrd (g := g) rfl
      have hcell : ∃ x, W5.cell? ⟨g, k, none⟩ = some x := by
        obtain ⟨y, hy⟩ : ∃ y, bs'[k]? = some y := ⟨bs'[k]'(by omega), List.getElem?_eq_getElem _⟩
        have := hrd.cells (g := g) rfl k (B y) (by rw [List.getElem?_map, hy]; rfl)
        rw [addr_add, Nat.zero_add] at this
        exact ⟨_, this⟩
      obtain ⟨x0, hx0⟩ := hcell
      have hz0' : W5.frozen? ⟨g, k, none⟩ = false := by simp [World.frozen?, hcur]
      refine withFrP (N := 175) rfl ?_
      intro f0 F0 hff
      have hs0 : f0 0 = Value.pointer (some ⟨pb, 0, none⟩) := hff 0
      have hs6 : f0 6 = Value.pointer (some ⟨w.heap.size, 0, none⟩) := hff 6
      have hs12 : f0 12 = Value.int .i64 (k : Nat) := hff 12
      clear hff
      refine lyp F0 rfl hC rfl (by omega) (wanted_none rfl) (v := Value.pointer (some ⟨w.heap.size, 2, none⟩)) (fun wr hwr => by simp only [execOp, (F0.eval 6 (by omega)).trans (show _ = Value.pointer (some ⟨w.heap.size, 0, none⟩) from by simp [upd, hs0, hs6, hs12])]; first | rfl | simp [go_sem]) fun F1 => ?_
      refine lyp F1 rfl hC rfl (by omega) (wanted_none rfl) (v := Value.slice (some ⟨g, 0, none⟩) bs.length xc) (fun wr hwr => by simp only [execOp, (F1.eval 97 (by omega)).trans (show _ = Value.pointer (some ⟨w.heap.size, 2, none⟩) from by simp [upd, hs0, hs6, hs12])]; simp [go_sem, (show wr.cell? ⟨w.heap.size, 2, none⟩ = some (Value.slice (some ⟨g, 0, none⟩) bs.length xc) from (World.cell?_of_block (w := W5o) hwr.2).trans (b2))]) fun F2 => ?_
      refine lyp F2 rfl hC rfl (by omega) (wanted_none rfl) (v := Value.int .i64 (k : Nat)) (fun wr hwr => by simp only [execOp, (F2.eval 12 (by omega)).trans (show _ = Value.int .i64 (k : Nat) from by simp [upd, hs0, hs6, hs12])]; first | rfl | simp [go_sem]) fun F3 => ?_
      refine lyp F3 rfl hC rfl (by omega) (wanted_none rfl) (v := Value.pointer (some ⟨pb, 0, none⟩)) (fun wr hwr => by simp only [execOp, (F3.eval 0 (by omega)).trans (show _ = Value.pointer (some ⟨pb, 0, none⟩) from by simp [upd, hs0, hs6, hs12])]; first | rfl | simp [go_sem]) fun F4 => ?_
      refine lyp F4 rfl hC rfl (by omega) (wanted_none rfl) (v := Value.pointer (some ⟨pb, 0, none⟩)) (fun wr hwr => by simp only [execOp, (F4.eval 100 (by omega)).trans (show _ = Value.pointer (some ⟨pb, 0, none⟩) from by simp [upd, hs0, hs6, hs12])]; first | rfl | simp [go_sem]) fun F5 => ?_
      refine lyp F5 rfl hC rfl (by omega) (wanted_none rfl) (v := Value.pointer (some ⟨pb, 3, none⟩)) (fun wr hwr => by simp only [execOp, (F5.eval 101 (by omega)).trans (show _ = Value.pointer (some ⟨pb, 0, none⟩) from by simp [upd, hs0, hs6, hs12])]; first | rfl | simp [go_sem]) fun F6 => ?_
      refine lyp F6 rfl hC rfl (by omega) (wanted_none rfl) (v := Value.int .i64 (s.mark + 1)) (fun wr hwr => by simp only [execOp, (F6.eval 102 (by omega)).trans (show _ = Value.pointer (some ⟨pb, 3, none⟩) from by simp [upd, hs0, hs6, hs12])]; simp [go_sem, (show wr.cell? ⟨pb, 3, none⟩ = some (Value.int .i64 (s.mark + 1)) from (World.cell?_of_block (w := W5o) hwr.1).trans (y3))]) fun F7 => ?_
      refine lyp F7 rfl hC rfl (by omega) (wanted_none rfl) (v := Value.int .u8 ((s.mark + 1) % 256)) (fun wr hwr => by simp only [execOp, (F7.eval 103 (by omega)).trans (show _ = Value.int .i64 (s.mark + 1) from by simp [upd, hs0, hs6, hs12])]; simp [go_sem, IntKind.wrap_u8]) fun F8 => ?_
      refine lyp F8 rfl hC rfl (by omega) (wanted_none rfl) (v := Value.pointer (some ⟨g, k, none⟩)) (fun wr hwr => by simp only [execOp, (F8.eval 98 (by omega)).trans (show _ = Value.slice (some ⟨g, 0, none⟩) bs.length xc from by simp [upd, hs0, hs6, hs12]), (F8.eval 99 (by omega)).trans (show _ = Value.int .i64 (k : Nat) from by simp [upd, hs0, hs6, hs12])]; simp [go_sem, hlt]) fun F9 => ?_
      refine lst rfl hC rfl (wanted_none rfl) (w1 := W5.setCell ⟨g, k, none⟩ (.int .u8 ((s.mark + 1) % 256))) (by simp only [execOp, (F9.eval 105 (by omega)).trans (show _ = Value.pointer (some ⟨g, k, none⟩) from by simp [upd, hs0, hs6, hs12]), (F9.eval 104 (by omega)).trans (show _ = Value.int .u8 ((s.mark + 1) % 256) from by simp [upd, hs0, hs6, hs12])]; simp [go_sem, hz0', hx0]) ?_
      have hset := own_set hrd u hlt
      rw [show B u = Value.int .u8 ((s.mark + 1) % 256) from by rw [B, hu]] at hset
      have hL6 := hLd.refloat (x := ⟨.slice (some ⟨g, 0, none⟩) bs.length xc, bs'⟩) (fl := []) rfl (bs' := bs'.set k u) (W2 := W5.setCell ⟨g, k, none⟩ (.int .u8 ((s.mark + 1) % 256))) (by rw [List.length_set, hbl]; exact hset) ⟨rfl, rfl, rfl, by simp [World.setCell]⟩ (fun j _ hj => Below.heap_setCell _ _ _ _ (fun e => hj (by rw [e]; rfl)))
      have hm6 := hmk.step u hu
      refine ⟨fun h => by omega, ?_⟩
      refine hK _ _ ?_
      clear F0 F1 F2 F3 F4 F5 F6 F7 F8 F9 hs0 hs6 hs12 hC y3 b2 hLd hLr hrow hrd hcur hx0 hz0' hset hmk
      simp only [Act.put, List.setIfInBounds_toArray, List.set_cons_succ, List.set_cons_zero]
      have HL : Hid _ := hL6
      have HM : Hid _ := hm6
      clear hL6 hm6
      generalize (W5.setCell ⟨g, k, none⟩ (.int .u8 ((s.mark + 1) % 256))) = W6 at *
      go_wp2_with fail
      go_roundw
      case rel => exact ⟨k + 1, bs'.set k u, by omega, by go_num, by simp [hbl], HM.out, HL.out⟩
      case measure => simp [intOf]; omega
    · obtain rfl : k = bs.length := by omega
      have hfull := hmk.all (by omega)
      clear hmk
      obtain ⟨s5, hs5⟩ : ∃ s5, s5 = ({ s4 with fl := [⟨.slice xo bs.length xc, bs'⟩] } : PS) := ⟨_, rfl⟩
      rw [← hs5] at hLr
      have hf5 : s5.fl = [⟨.slice xo bs.length xc, bs'⟩] := by rw [hs5]
      have hks5 : s5.ks = s.ks := by rw [hs5, hs4, hs2]
      have hms5 : s5.ms = s.ms := by rw [hs5, hs4, hs2]
      have hkl5 : s5.ks.length ≤ 7 := by rw [hks5]; exact hF.few
      have hml5 : s5.ms.length = s5.ks.length := by rw [hks5, hms5]; exact hF.lens
      have HF : Hid _ := hfull
      have HL : Hid _ := hLr
      clear hfull hLr
      go_wp2_with fail
      have hLr := HL.out
      clear HL b2
      generalize wr = W6 at *
      have y2 : W6.cell? ⟨pb, 2, none⟩ = some s5.vb := hLr.cell 2
      have b2 : W6.cell? ⟨w.heap.size, 2, none⟩ = some (Value.slice xo bs.length xc) := hLr.bl.cell 2
      rename_i K hK
      try rw [show ∀ a : Act, a.put none undef = a from fun _ => rfl]
      refine wp_region_mix (fun wr => wr.heap[pb]? = W6.heap[pb]? ∧ wr.heap[w.heap.size]? = W6.heap[w.heap.size]?) (fun i => i == 7 || i == 8 || i == 11) 11 (by kernel_rfl) rfl (by kernel_rfl) (by kernel_rfl) (by kernel_rfl) ?_
      have hC : ({ W6 with drawn := W6.drawn + 1 } : World).heap[pb]? = W6.heap[pb]? ∧ ({ W6 with drawn := W6.drawn + 1 } : World).heap[w.heap.size]? = W6.heap[w.heap.size]? := ⟨rfl, rfl⟩
      have hL7 := hLr.drew
      generalize ({ W6 with drawn := W6.drawn + 1 } : World) = W7 at *
      have hLW : L ≤ W7.heap.size := Nat.le_trans hLw hL7.stp.size
      obtain ⟨g7, o7, c7, Wa7, hr, hT, ho, hg, hu⟩ := tailPut Try.underlying61 Try.info29 rfl hL7.inv.bytes (Value.slice xo bs.length xc) rfl (by omega) (by unfold maxLen; omega) hLW 61
      have hvm : s5.vb ∈ s5.vals := by simp [PS.vals, PS.part3]
      have hCa : (W7.alloc (.cells #[Value.slice xo bs.length xc] 29)).heap[pb]? = W6.heap[pb]? ∧ (W7.alloc (.cells #[Value.slice xo bs.length xc] 29)).heap[w.heap.size]? = W6.heap[w.heap.size]? := ⟨(Below.heap_alloc _ _ _ hL7.inv.pblt).trans hC.1, (Below.heap_alloc _ _ _ hL7.bl.lt).trans hC.2⟩
      have hCb : Wa7.heap[pb]? = W6.heap[pb]? ∧ Wa7.heap[w.heap.size]? = W6.heap[w.heap.size]? := ⟨(hg pb hL7.inv.pblt (fun e => (hL7.inv.notBox _ hvm pb e).1 rfl)).trans hC.1, (hg _ hL7.bl.lt (fun e => hL7.n1 (Or.inr (Or.inr (Or.inr (foot_of hvm e)))))).trans hC.2⟩
      refine withFrP (N := 175) rfl ?_
      intro f0 F0 hff
      have hs0 : f0 0 = Value.pointer (some ⟨pb, 0, none⟩) := hff 0
      have hs6 : f0 6 = Value.pointer (some ⟨w.heap.size, 0, none⟩) := hff 6
      clear hff
      refine lyp F0 rfl hC rfl (by omega) (wanted_none rfl) (v := Value.pointer (some ⟨pb, 0, none⟩)) (fun wr hwr => by simp only [execOp, (F0.eval 0 (by omega)).trans (show _ = Value.pointer (some ⟨pb, 0, none⟩) from by simp [upd, hs0, hs6])]; first | rfl | simp [go_sem]) fun F1 => ?_
      refine lyp F1 rfl hC rfl (by omega) (wanted_none rfl) (v := Value.pointer (some ⟨pb, 0, none⟩)) (fun wr hwr => by simp only [execOp, (F1.eval 0 (by omega)).trans (show _ = Value.pointer (some ⟨pb, 0, none⟩) from by simp [upd, hs0, hs6])]; first | rfl | simp [go_sem]) fun F2 => ?_
      refine lyp F2 rfl hC rfl (by omega) (wanted_none rfl) (v := Value.pointer (some ⟨pb, 0, none⟩)) (fun wr hwr => by simp only [execOp, (F2.eval 107 (by omega)).trans (show _ = Value.pointer (some ⟨pb, 0, none⟩) from by simp [upd, hs0, hs6])]; first | rfl | simp [go_sem]) fun F3 => ?_
      refine lyp F3 rfl hC rfl (by omega) (wanted_none rfl) (v := Value.pointer (some ⟨pb, 2, none⟩)) (fun wr hwr => by simp only [execOp, (F3.eval 108 (by omega)).trans (show _ = Value.pointer (some ⟨pb, 0, none⟩) from by simp [upd, hs0, hs6])]; first | rfl | simp [go_sem]) fun F4 => ?_
      refine lyp F4 rfl hC rfl (by omega) (wanted_none rfl) (v := s5.vb) (fun wr hwr => by simp only [execOp, (F4.eval 109 (by omega)).trans (show _ = Value.pointer (some ⟨pb, 2, none⟩) from by simp [upd, hs0, hs6])]; simp [go_sem, (show wr.cell? ⟨pb, 2, none⟩ = some (s5.vb) from (World.cell?_of_block (w := W6) hwr.1).trans (y2))]) fun F5 => ?_
      refine lyp F5 rfl hC rfl (by omega) (wanted_none rfl) (v := Value.pointer (some ⟨w.heap.size, 2, none⟩)) (fun wr hwr => by simp only [execOp, (F5.eval 6 (by omega)).trans (show _ = Value.pointer (some ⟨w.heap.size, 0, none⟩) from by simp [upd, hs0, hs6])]; first | rfl | simp [go_sem]) fun F6 => ?_
      refine lyp F6 rfl hC rfl (by omega) (wanted_none rfl) (v := Value.slice xo bs.length xc) (fun wr hwr => by simp only [execOp, (F6.eval 111 (by omega)).trans (show _ = Value.pointer (some ⟨w.heap.size, 2, none⟩) from by simp [upd, hs0, hs6])]; simp [go_sem, (show wr.cell? ⟨w.heap.size, 2, none⟩ = some (Value.slice xo bs.length xc) from (World.cell?_of_block (w := W6) hwr.2).trans (b2))]) fun F7 => ?_
      refine lep F7 rfl hC rfl (by omega) (wanted_none rfl) (v := Value.slice (some ⟨W7.heap.size, 0, none⟩) 1 1) (w1 := W7.alloc (.cells #[Value.slice xo bs.length xc] 29)) (by simp only [execOp, List.map_toArray, List.map_cons, List.map_nil, (F7.eval 112 (by omega)).trans (show _ = Value.slice xo bs.length xc from by simp [upd, hs0, hs6])]; simp [go_sem]) fun F8 => ?_
      refine lep F8 rfl hCa rfl (by omega) (wanted_none rfl) (v := Value.slice (some ⟨g7, o7, none⟩) (s5.ks.length + 1) c7) (w1 := Wa7) (by simp only [execOp, resolve, invoke, builtin, Sem.run_bind, Sem.run_pure, Result.andThen_ok, List.map_toArray, List.map_cons, List.map_nil, (F8.eval 110 (by omega)).trans (show _ = s5.vb from by simp [upd, hs0, hs6]), (F8.eval 113 (by omega)).trans (show _ = Value.slice (some ⟨W7.heap.size, 0, none⟩) 1 1 from by simp [upd, hs0, hs6]), hr]) fun F9 => ?_
      refine lyp F9 rfl hCb rfl (by omega) (wanted_none rfl) (v := Value.pointer (some ⟨pb, 0, none⟩)) (fun wr hwr => by simp only [execOp, (F9.eval 106 (by omega)).trans (show _ = Value.pointer (some ⟨pb, 0, none⟩) from by simp [upd, hs0, hs6])]; first | rfl | simp [go_sem]) fun F10 => ?_
      refine lyp F10 rfl hCb rfl (by omega) (wanted_none rfl) (v := Value.pointer (some ⟨pb, 2, none⟩)) (fun wr hwr => by simp only [execOp, (F10.eval 115 (by omega)).trans (show _ = Value.pointer (some ⟨pb, 0, none⟩) from by simp [upd, hs0, hs6])]; first | rfl | simp [go_sem]) fun F11 => ?_
      have zz : Wa7.frozen? ⟨pb, 2, none⟩ = false := by have hb := (hCb.1.trans hC.1.symm).trans hL7.inv.box; simp [World.frozen?, hb]
      have yy : Wa7.cell? ⟨pb, 2, none⟩ = some s5.vb := (World.cell?_of_block (hCb.1.trans hC.1.symm)).trans (hL7.cell 2)
      refine lst rfl hCb rfl (wanted_none rfl) (w1 := Wa7.setCell ⟨pb, 2, none⟩ (Value.slice (some ⟨g7, o7, none⟩) (s5.ks.length + 1) c7)) (by simp only [execOp, (F11.eval 116 (by omega)).trans (show _ = Value.pointer (some ⟨pb, 2, none⟩) from by simp [upd, hs0, hs6]), (F11.eval 114 (by omega)).trans (show _ = Value.slice (some ⟨g7, o7, none⟩) (s5.ks.length + 1) c7 from by simp [upd, hs0, hs6])]; simp [go_sem, zz, yy]) ?_
      have hL8 := hL7.putBytes hf5 (u' := Value.slice (some ⟨g7, o7, none⟩) (s5.ks.length + 1) c7) (by simpa using hT) ho hg (fun j hj => by have e : g7 = j := Option.some.inj hj; rw [← e]; exact hu)
      refine ⟨fun h => by omega, ?_⟩
      refine hK _ _ ?_
      clear F0 F1 F2 F3 F4 F5 F6 F7 F8 F9 F10 F11 hs0 hs6 hC hCa hCb hr hT ho hg hu y2 b2 zz yy hLr hL7 hvm hLW
      simp only [Act.put, List.setIfInBounds_toArray, List.set_cons_succ, List.set_cons_zero]
      generalize (Wa7.setCell ⟨pb, 2, none⟩ (Value.slice (some ⟨g7, o7, none⟩) (s5.ks.length + 1) c7)) = W8 at *
      obtain ⟨s8, hs8⟩ : ∃ s8, s8 = ({ s5 with vb := Value.slice (some ⟨g7, o7, none⟩) (s5.ks.length + 1) c7, ks := s5.ks ++ [⟨.slice xo bs.length xc, bs'⟩], fl := [] } : PS) := ⟨_, rfl⟩
      rw [← hs8] at hL8
      have hml8 : s8.ms.length = s5.ks.length := by rw [hs8]; exact hml5
      have hm8 : s8.mark = s.mark + 1 := by rw [hs8, hs5]; exact hm4
      have HL : Hid _ := hL8
      clear hL8
      go_wp2_with fail
      have hL8 := HL.out
      clear HL
      have y3 : W8.cell? ⟨pb, 3, none⟩ = some (.int .i64 (s.mark + 1)) := by have := hL8.cell 3; rw [← hm8]; exact this
      have y4 : W8.cell? ⟨pb, 4, none⟩ = some s8.vm := hL8.cell 4
      have b2 : W8.cell? ⟨w.heap.size, 2, none⟩ = some (Value.slice xo bs.length xc) := hL8.bl.cell 2
      rename_i K hK
      try rw [show ∀ a : Act, a.put none undef = a from fun _ => rfl]
      refine wp_region_mix (fun wr => wr.heap[pb]? = W8.heap[pb]? ∧ wr.heap[w.heap.size]? = W8.heap[w.heap.size]?) (fun i => i == 9 || i == 10 || i == 13) 13 (by kernel_rfl) rfl (by kernel_rfl) (by kernel_rfl) (by kernel_rfl) ?_
      have hC : ({ W8 with drawn := W8.drawn + 1 } : World).heap[pb]? = W8.heap[pb]? ∧ ({ W8 with drawn := W8.drawn + 1 } : World).heap[w.heap.size]? = W8.heap[w.heap.size]? := ⟨rfl, rfl⟩
      have hL9 := hL8.drew
      generalize ({ W8 with drawn := W8.drawn + 1 } : World) = W9 at *
      have hLW : L ≤ W9.heap.size := Nat.le_trans hLw hL9.stp.size
      obtain ⟨g9, o9, c9, Wa9, hr, hT, ho, hg, hu⟩ := tailPut Try.underlying62 Try.info3 rfl hL9.inv.marks (Value.int .i64 (s.mark + 1)) rfl (by omega) (by unfold maxLen; omega) hLW 62
      have hvm : s8.vm ∈ s8.vals := by simp [PS.vals, PS.part3]
      have hCa : (W9.alloc (.cells #[Value.int .i64 (s.mark + 1)] 3)).heap[pb]? = W8.heap[pb]? ∧ (W9.alloc (.cells #[Value.int .i64 (s.mark + 1)] 3)).heap[w.heap.size]? = W8.heap[w.heap.size]? := ⟨(Below.heap_alloc _ _ _ hL9.inv.pblt).trans hC.1, (Below.heap_alloc _ _ _ hL9.bl.lt).trans hC.2⟩
      have hCb : Wa9.heap[pb]? = W8.heap[pb]? ∧ Wa9.heap[w.heap.size]? = W8.heap[w.heap.size]? := ⟨(hg pb hL9.inv.pblt (fun e => (hL9.inv.notBox _ hvm pb e).1 rfl)).trans hC.1, (hg _ hL9.bl.lt (fun e => hL9.n1 (Or.inr (Or.inr (Or.inr (foot_of hvm e)))))).trans hC.2⟩
      refine withFrP (N := 175) rfl ?_
      intro f0 F0 hff
      have hs0 : f0 0 = Value.pointer (some ⟨pb, 0, none⟩) := hff 0
      have hs6 : f0 6 = Value.pointer (some ⟨w.heap.size, 0, none⟩) := hff 6
      clear hff
      refine lyp F0 rfl hC rfl (by omega) (wanted_none rfl) (v := Value.pointer (some ⟨pb, 0, none⟩)) (fun wr hwr => by simp only [execOp, (F0.eval 0 (by omega)).trans (show _ = Value.pointer (some ⟨pb, 0, none⟩) from by simp [upd, hs0, hs6])]; first | rfl | simp [go_sem]) fun F1 => ?_
      refine lyp F1 rfl hC rfl (by omega) (wanted_none rfl) (v := Value.pointer (some ⟨pb, 0, none⟩)) (fun wr hwr => by simp only [execOp, (F1.eval 0 (by omega)).trans (show _ = Value.pointer (some ⟨pb, 0, none⟩) from by simp [upd, hs0, hs6])]; first | rfl | simp [go_sem]) fun F2 => ?_
      refine lyp F2 rfl hC rfl (by omega) (wanted_none rfl) (v := Value.pointer (some ⟨pb, 0, none⟩)) (fun wr hwr => by simp only [execOp, (F2.eval 118 (by omega)).trans (show _ = Value.pointer (some ⟨pb, 0, none⟩) from by simp [upd, hs0, hs6])]; first | rfl | simp [go_sem]) fun F3 => ?_
      refine lyp F3 rfl hC rfl (by omega) (wanted_none rfl) (v := Value.pointer (some ⟨pb, 4, none⟩)) (fun wr hwr => by simp only [execOp, (F3.eval 119 (by omega)).trans (show _ = Value.pointer (some ⟨pb, 0, none⟩) from by simp [upd, hs0, hs6])]; first | rfl | simp [go_sem]) fun F4 => ?_
      refine lyp F4 rfl hC rfl (by omega) (wanted_none rfl) (v := s8.vm) (fun wr hwr => by simp only [execOp, (F4.eval 120 (by omega)).trans (show _ = Value.pointer (some ⟨pb, 4, none⟩) from by simp [upd, hs0, hs6])]; simp [go_sem, (show wr.cell? ⟨pb, 4, none⟩ = some (s8.vm) from (World.cell?_of_block (w := W8) hwr.1).trans (y4))]) fun F5 => ?_
      refine lyp F5 rfl hC rfl (by omega) (wanted_none rfl) (v := Value.pointer (some ⟨pb, 0, none⟩)) (fun wr hwr => by simp only [execOp, (F5.eval 0 (by omega)).trans (show _ = Value.pointer (some ⟨pb, 0, none⟩) from by simp [upd, hs0, hs6])]; first | rfl | simp [go_sem]) fun F6 => ?_
      refine lyp F6 rfl hC rfl (by omega) (wanted_none rfl) (v := Value.pointer (some ⟨pb, 0, none⟩)) (fun wr hwr => by simp only [execOp, (F6.eval 122 (by omega)).trans (show _ = Value.pointer (some ⟨pb, 0, none⟩) from by simp [upd, hs0, hs6])]; first | rfl | simp [go_sem]) fun F7 => ?_
      refine lyp F7 rfl hC rfl (by omega) (wanted_none rfl) (v := Value.pointer (some ⟨pb, 3, none⟩)) (fun wr hwr => by simp only [execOp, (F7.eval 123 (by omega)).trans (show _ = Value.pointer (some ⟨pb, 0, none⟩) from by simp [upd, hs0, hs6])]; first | rfl | simp [go_sem]) fun F8 => ?_
      refine lyp F8 rfl hC rfl (by omega) (wanted_none rfl) (v := Value.int .i64 (s.mark + 1)) (fun wr hwr => by simp only [execOp, (F8.eval 124 (by omega)).trans (show _ = Value.pointer (some ⟨pb, 3, none⟩) from by simp [upd, hs0, hs6])]; simp [go_sem, (show wr.cell? ⟨pb, 3, none⟩ = some (Value.int .i64 (s.mark + 1)) from (World.cell?_of_block (w := W8) hwr.1).trans (y3))]) fun F9 => ?_
      refine lep F9 rfl hC rfl (by omega) (wanted_none rfl) (v := Value.slice (some ⟨W9.heap.size, 0, none⟩) 1 1) (w1 := W9.alloc (.cells #[Value.int .i64 (s.mark + 1)] 3)) (by simp only [execOp, List.map_toArray, List.map_cons, List.map_nil, (F9.eval 125 (by omega)).trans (show _ = Value.int .i64 (s.mark + 1) from by simp [upd, hs0, hs6])]; simp [go_sem]) fun F10 => ?_
      refine lep F10 rfl hCa rfl (by omega) (wanted_none rfl) (v := Value.slice (some ⟨g9, o9, none⟩) (s8.ms.length + 1) c9) (w1 := Wa9) (by simp only [execOp, resolve, invoke, builtin, Sem.run_bind, Sem.run_pure, Result.andThen_ok, List.map_toArray, List.map_cons, List.map_nil, (F10.eval 121 (by omega)).trans (show _ = s8.vm from by simp [upd, hs0, hs6]), (F10.eval 126 (by omega)).trans (show _ = Value.slice (some ⟨W9.heap.size, 0, none⟩) 1 1 from by simp [upd, hs0, hs6]), hr]) fun F11 => ?_
      refine lyp F11 rfl hCb rfl (by omega) (wanted_none rfl) (v := Value.pointer (some ⟨pb, 0, none⟩)) (fun wr hwr => by simp only [execOp, (F11.eval 117 (by omega)).trans (show _ = Value.pointer (some ⟨pb, 0, none⟩) from by simp [upd, hs0, hs6])]; first | rfl | simp [go_sem]) fun F12 => ?_
      refine lyp F12 rfl hCb rfl (by omega) (wanted_none rfl) (v := Value.pointer (some ⟨pb, 4, none⟩)) (fun wr hwr => by simp only [execOp, (F12.eval 128 (by omega)).trans (show _ = Value.pointer (some ⟨pb, 0, none⟩) from by simp [upd, hs0, hs6])]; first | rfl | simp [go_sem]) fun F13 => ?_
      have zz : Wa9.frozen? ⟨pb, 4, none⟩ = false := by have hb := (hCb.1.trans hC.1.symm).trans hL9.inv.box; simp [World.frozen?, hb]
      have yy : Wa9.cell? ⟨pb, 4, none⟩ = some s8.vm := (World.cell?_of_block (hCb.1.trans hC.1.symm)).trans (hL9.cell 4)
      refine lst rfl hCb rfl (wanted_none rfl) (w1 := Wa9.setCell ⟨pb, 4, none⟩ (Value.slice (some ⟨g9, o9, none⟩) (s8.ms.length + 1) c9)) (by simp only [execOp, (F13.eval 129 (by omega)).trans (show _ = Value.pointer (some ⟨pb, 4, none⟩) from by simp [upd, hs0, hs6]), (F13.eval 127 (by omega)).trans (show _ = Value.slice (some ⟨g9, o9, none⟩) (s8.ms.length + 1) c9 from by simp [upd, hs0, hs6])]; simp [go_sem, zz, yy]) ?_
      have hL10 := hL9.putMarks (u' := Value.slice (some ⟨g9, o9, none⟩) (s8.ms.length + 1) c9) (ms' := s8.ms ++ [s.mark + 1]) (by simpa using hT) ho hg (fun j hj => by have e : g9 = j := Option.some.inj hj; rw [← e]; exact hu)
      refine ⟨fun h => by omega, ?_⟩
      refine hK _ _ ?_
      clear F0 F1 F2 F3 F4 F5 F6 F7 F8 F9 F10 F11 F12 F13 hs0 hs6 hC hCa hCb hr hT ho hg hu y4 y3 b2 zz yy hL8 hL9 hvm hLW
      simp only [Act.put, List.setIfInBounds_toArray, List.set_cons_succ, List.set_cons_zero]
      generalize (Wa9.setCell ⟨pb, 4, none⟩ (Value.slice (some ⟨g9, o9, none⟩) (s8.ms.length + 1) c9)) = W10 at *
      obtain ⟨s10, hs10⟩ : ∃ s10, s10 = ({ s8 with vm := Value.slice (some ⟨g9, o9, none⟩) (s8.ms.length + 1) c9, ms := s8.ms ++ [s.mark + 1] } : PS) := ⟨_, rfl⟩
      rw [← hs10] at hL10
      have y2 : W10.cell? ⟨pb, 2, none⟩ = some (Value.slice (some ⟨g7, o7, none⟩) (s5.ks.length + 1) c7) := by have := hL10.cell 2; rw [hs10, hs8] at this; exact this
      have y4 : W10.cell? ⟨pb, 4, none⟩ = some (Value.slice (some ⟨g9, o9, none⟩) (s8.ms.length + 1) c9) := by have := hL10.cell 4; rw [hs10] at this; exact this
      have b2 : W10.cell? ⟨w.heap.size, 2, none⟩ = some (Value.slice xo bs.length xc) := hL10.bl.cell 2
      have z2 : W10.frozen? ⟨pb, 2, none⟩ = false := hL10.frozen 2
      have z4 : W10.frozen? ⟨pb, 4, none⟩ = false := hL10.frozen 4
      have hks10 : s10.ks = s.ks ++ [⟨.slice xo bs.length xc, bs'⟩] := by rw [hs10, hs8, ← hks5]
      have hms10 : s10.ms = s.ms ++ [s.mark + 1] := by rw [hs10, hs8, ← hms5]
      have hvb10 : s10.vb = Value.slice (some ⟨g7, o7, none⟩) (s5.ks.length + 1) c7 := by rw [hs10, hs8]
      have hvm10 : s10.vm = Value.slice (some ⟨g9, o9, none⟩) (s8.ms.length + 1) c9 := by rw [hs10]
      by_cases hbig : 6 < s5.ks.length + 1
      · have hbig' : 6 < (s5.ks.length : Int) + 1 := by omega
        obtain ⟨y, ks', hky⟩ : ∃ y ks', s.ks = y :: ks' := by
          cases hq : s.ks with
          | nil => rw [hks5, hq] at hbig; simp at hbig
          | cons y ks' => exact ⟨y, ks', rfl⟩
        obtain ⟨m, ms', hmy⟩ : ∃ m ms', s.ms = m :: ms' := by
          cases hq : s.ms with
          | nil => have := hF.lens; rw [hq, hky] at this; simp at this
          | cons y ks' => exact ⟨y, ks', rfl⟩
        have hTb := hL10.inv.bytes
        rw [hvb10, hks10, hky] at hTb
        have hTb' : Tail W10 L 29 (.slice (some ⟨g7, o7, none⟩) (s5.ks.length + 1) c7) (s5.ks.length + 1) (y.d :: (ks' ++ [(⟨.slice xo bs.length xc, bs'⟩ : Dat)]).map Dat.d) := by
          have e : s5.ks.length + 1 = (y :: ks' ++ [(⟨.slice xo bs.length xc, bs'⟩ : Dat)]).length := by rw [hks5, hky]; simp
          rw [e]; rw [e] at hTb; exact hTb
        have hcb := tail_cut hTb'
        have hTm := hL10.inv.marks
        rw [hvm10, hms10, hmy] at hTm
        have hTm' : Tail W10 L 3 (.slice (some ⟨g9, o9, none⟩) (s8.ms.length + 1) c9) (s8.ms.length + 1) (Value.int .i64 m :: (ms' ++ [s.mark + 1]).map (fun x => Value.int .i64 x)) := by
          have e : s8.ms.length + 1 = (m :: ms' ++ [s.mark + 1]).length := by rw [hml8, ← hml5, hms5, hmy]; simp
          rw [e]; rw [e] at hTm; exact hTm
        have hcm := tail_cut hTm'
        have hlb : s5.ks.length = (ks' ++ [(⟨.slice xo bs.length xc, bs'⟩ : Dat)]).length := by rw [hks5, hky]; simp
        have hlm : s8.ms.length = (ms' ++ [s.mark + 1]).length := by rw [hml8, ← hml5, hms5, hmy]; simp
        obtain ⟨_, hcap7⟩ : True ∧ s5.ks.length + 1 ≤ c7 := ⟨trivial, by obtain ⟨_, _, ee, hle, _⟩ := tail_form hTb'; cases ee; exact hle⟩
        obtain ⟨_, hcap9⟩ : True ∧ s8.ms.length + 1 ≤ c9 := ⟨trivial, by obtain ⟨_, _, ee, hle, _⟩ := tail_form hTm'; cases ee; exact hle⟩
        have hL11 := hL10.cutBytes (y := y) (ks' := ks' ++ [⟨.slice xo bs.length xc, bs'⟩]) (by rw [hks10, hky]; rfl) (u' := .slice (some ⟨g7, o7 + 1, none⟩) s5.ks.length (c7 - 1)) (by rw [← hlb]; exact hcb) (by rw [hvb10]; rfl)
        have hcm' : Tail (W10.setCell ⟨pb, 2, none⟩ (.slice (some ⟨g7, o7 + 1, none⟩) s5.ks.length (c7 - 1))) L 3 (.slice (some ⟨g9, o9 + 1, none⟩) s8.ms.length (c9 - 1)) s8.ms.length ((ms' ++ [s.mark + 1]).map (fun x => Value.int .i64 x)) := tail_same hcm fun j hj => Below.heap_setCell _ _ _ _ (fun e => (hL10.inv.notBox s10.vm (by simp [PS.vals, PS.part3]) j (by rw [hvm10]; exact hj)).1 e)
        have hL12 := hL11.putMarks (u' := .slice (some ⟨g9, o9 + 1, none⟩) s8.ms.length (c9 - 1)) (ms' := ms' ++ [s.mark + 1]) (by rw [← hlm]; exact hcm') ⟨rfl, rfl, rfl, Nat.le_refl _⟩ (fun _ _ _ => rfl) (fun j hj => Or.inl (by show s10.vm.ownBlock = _; rw [hvm10]; exact hj))
        obtain ⟨s12, hs12⟩ : ∃ s12, s12 = ({ ({ s10 with vb := .slice (some ⟨g7, o7 + 1, none⟩) s5.ks.length (c7 - 1), ks := ks' ++ [⟨.slice xo bs.length xc, bs'⟩] } : PS) with vm := .slice (some ⟨g9, o9 + 1, none⟩) s8.ms.length (c9 - 1), ms := ms' ++ [s.mark + 1] } : PS) := ⟨_, rfl⟩
        rw [← hs12] at hL12
        have hks12 : s12.ks = ks' ++ [⟨.slice xo bs.length xc, bs'⟩] := by rw [hs12]
        have hF12 : PFull s12 := by
          have hfl := full_tail (y := y) (q := m) (ks := ks') (ms := ms') (by rw [← hky, ← hmy]; exact hF.full)
          have hll : ms'.length = ks'.length := by have := hF.lens; rw [hky, hmy] at this; simpa using this
          rw [hs12, hs10, hs8, hs5, hs4, hs2]
          refine ⟨by simp [hll], full_add hll hfl HF.out, ?_, fun z hz => ?_, hF.same⟩
          · have := hF.few
            rw [hky] at this
            simp at this ⊢
            omega
          · rcases List.mem_append.1 hz with q | q
            · exact hF.short z (by rw [hky]; simp [q])
            · simp only [List.mem_singleton] at q
              subst q
              show bs'.length ≤ 9000000
              omega
        have hc12 : PCnt (n + 1) s12 := by
          rw [hs12, hs10, hs8, hs5, hs4, hs2]
          exact ⟨by show 0 ≤ s.turns + 1; omega, by show s.turns + 1 ≤ ((n + 1 : Nat) : Int); omega, by show 0 ≤ s.mark + 1; omega, by show s.mark + 1 ≤ ((n + 1 : Nat) : Int); omega, hz0, hz1, Nat.le_succ_of_le hc.ls, hc.small⟩
        have hfv12 : s12.fl = [] ∧ s12.lv = s.lv ∧ s12.lr = s.lr := by rw [hs12, hs10, hs8, hs5, hs4, hs2]; exact ⟨rfl, rfl, rfl⟩
        have HL : Hid _ := hL12
        have hbm : 6 < s8.ms.length + 1 := by omega
        have hbm' : 6 < (s8.ms.length : Int) + 1 := by omega
        clear hL10 hL11 hL12 hcm hcm' hcb hTb hTb' hTm hTm' hs12 hlb hlm hky hmy hml8 hml5 hks5 hms5 hks10 hms10 hvb10 hvm10 hs10 hs8 hs5 hs4 hs2 hf4 hf5 hm4 hm8 hkl5
        go_wp2_with fail
        have hL12 := HL.out
        clear HL y2 y4 z2 z4 b2
        generalize ((W10.setCell ⟨pb, 2, none⟩ (.slice (some ⟨g7, o7 + 1, none⟩) s5.ks.length (c7 - 1))).setCell ⟨pb, 4, none⟩ (.slice (some ⟨g9, o9 + 1, none⟩) s8.ms.length (c9 - 1))) = W12 at *
        have hr12 : W12.ownsRow L 5 1 (.slice xo bs.length xc) bs.length (bs'.map B) := by
          have := hL12.inv.kept ⟨.slice xo bs.length xc, bs'⟩ (by rw [hks12]; simp)
          rw [← hbl]; rw [← hbl] at this; exact this
        go_loopw [13, 14] (fun (d : Value) (i : Value) (wr : World) => ∃ k : Nat, k ≤ 83 ∧ i = .int .i64 k ∧ GRel L pb hbn hbr room s s12 (letC f t (.slice xo bs.length xc)) (letC f t (.slice ao2 bs.length c2)) w (.slice xo bs.length xc) bs.length d k wr) (fun _ i _ => 83 - (intOf i).toNat)
        case atStart => exact ⟨0, by omega, rfl, bs', hr12, Or.inl rfl, hL12⟩
        case round =>
          obtain ⟨k, hk, rfl, ys, hrow, hbk, hLk⟩ := hrel
          rename World => wk
          clear hL12 hr12
          have hLwk : L ≤ wk.heap.size := Nat.le_trans hLw hLk.stp.size
          by_cases hlt : k < 83
          · have hu8 : ∃ u : UInt8, ((u.toNat : Nat) : Int) = 210 + (k : Int) % 9 := ⟨UInt8.ofNat (210 + k % 9), by rw [UInt8.toNat_ofNat_of_lt' (by show 210 + k % 9 < 256; omega)]; omega⟩
            obtain ⟨u, hu⟩ := hu8
            have hm : From (wk.alloc (.cells #[.int .u8 (210 + (k : Int) % 9)] 5)) (some ⟨wk.heap.size, 0, none⟩) [u] := from_mark wk [u] _ _ (by show [Value.int .u8 (210 + (k : Int) % 9)] = [u].map B; simp [B, hu])
            have HK : Hid _ := hLk
            have HB : Hid _ := hbk
            have HR : Hid _ := hrow
            clear hLk hbk hrow
            go_wp2_with (first
              | (at_builtin; go_must (refine wpList_app1 rfl _ _ rfl L (bs.length + k) u13 ys rfl (World.ownsRow.alloc HR.out _) _ u rfl hm (by omega) (by simp; omega) ?_))
              | fail)
            intro v' w' hown' hG hkeep
            obtain ⟨hL', hb'⟩ := LSt.grow HK.out hks12 (by show bs'.length ≤ bs.length + k; omega) hG hkeep HB.out
            obtain ⟨zs, hzs⟩ : ∃ zs, zs = ys ++ [u] := ⟨_, rfl⟩
            replace hown' : w'.ownsRow L 5 1 v' (bs.length + k + 1) (zs.map B) := by rw [hzs]; simpa using hown'
            clear hG hkeep hm HK HB HR hu hzs
            have HK : Hid _ := hL'
            have HB : Hid _ := hb'
            have HR : Hid _ := hown'
            clear hL' hb' hown'
            go_wp2_with fail
            go_roundw
            case rel => exact ⟨k + 1, by omega, by go_num, zs, by rw [← Nat.add_assoc]; exact HR.out, HB.out, HK.out⟩
            case measure => simp [intOf]; omega
          · obtain rfl : k = 83 := by omega
            obtain ⟨da, dc, rfl, _⟩ := own_slice hrow
            have b8 : wk.cell? ⟨w.heap.size + 1, 2, none⟩ = some (.slice ao2 bs.length c2) := hLk.br.cell 2
            have HK : Hid _ := hLk
            clear hLk hrow hbk
            go_wp2_with fail
            go_ret
            refine ⟨?_, s12, HK.out.inv, hF12, hc12, HK.out.stp, hfv12.1, hfv12.2.1, hfv12.2.2⟩
            first | rfl | (refine ret_bool ?_; simp)
      · have hbig' : (s5.ks.length : Int) + 1 ≤ 6 := by omega
        have hbig2 : ¬ (6 < (s5.ks.length : Int) + 1) := by omega
        obtain ⟨s12, hs12⟩ : ∃ s12, s12 = s10 := ⟨_, rfl⟩
        rw [← hs12] at hL10
        have hL12 := hL10
        have hks12 : s12.ks = s.ks ++ [⟨.slice xo bs.length xc, bs'⟩] := by rw [hs12, hks10]
        have hF12 : PFull s12 := by
          have hll := hF.lens
          rw [hks5] at hbig
          rw [hs12, hs10, hs8, hs5, hs4, hs2]
          refine ⟨by simp [hll], full_add hll hF.full HF.out, ?_, fun z hz => ?_, hF.same⟩
          · simp
            omega
          · rcases List.mem_append.1 hz with q | q
            · exact hF.short z q
            · simp only [List.mem_singleton] at q
              subst q
              show bs'.length ≤ 9000000
              omega
        have hc12 : PCnt (n + 1) s12 := by
          rw [hs12, hs10, hs8, hs5, hs4, hs2]
          exact ⟨by show 0 ≤ s.turns + 1; omega, by show s.turns + 1 ≤ ((n + 1 : Nat) : Int); omega, by show 0 ≤ s.mark + 1; omega, by show s.mark + 1 ≤ ((n + 1 : Nat) : Int); omega, hz0, hz1, Nat.le_succ_of_le hc.ls, hc.small⟩
        have hfv12 : s12.fl = [] ∧ s12.lv = s.lv ∧ s12.lr = s.lr := by rw [hs12, hs10, hs8, hs5, hs4, hs2]; exact ⟨rfl, rfl, rfl⟩
        have HL : Hid _ := hL12
        clear hL10 hL12 hs12 hml8 hml5 hks5 hms5 hks10 hms10 hvb10 hvm10 hs10 hs8 hs5 hs4 hs2 hf4 hf5 hm4 hm8 hkl5
        go_wp2_with fail
        have hL12 := HL.out
        clear HL y2 y4 z2 z4 b2
        generalize W10 = W12 at *
        have hr12 : W12.ownsRow L 5 1 (.slice xo bs.length xc) bs.length (bs'.map B) := by
          have := hL12.inv.kept ⟨.slice xo bs.length xc, bs'⟩ (by rw [hks12]; simp)
          rw [← hbl]; rw [← hbl] at this; exact this
        go_loopw [13, 14] (fun (d : Value) (i : Value) (wr : World) => ∃ k : Nat, k ≤ 83 ∧ i = .int .i64 k ∧ GRel L pb hbn hbr room s s12 (letC f t (.slice xo bs.length xc)) (letC f t (.slice ao2 bs.length c2)) w (.slice xo bs.length xc) bs.length d k wr) (fun _ i _ => 83 - (intOf i).toNat)
        case atStart => exact ⟨0, by omega, rfl, bs', hr12, Or.inl rfl, hL12⟩
        case round =>
          obtain ⟨k, hk, rfl, ys, hrow, hbk, hLk⟩ := hrel
          rename World => wk
          clear hL12 hr12
          have hLwk : L ≤ wk.heap.size := Nat.le_trans hLw hLk.stp.size
          by_cases hlt : k < 83
          · have hu8 : ∃ u : UInt8, ((u.toNat : Nat) : Int) = 210 + (k : Int) % 9 := ⟨UInt8.ofNat (210 + k % 9), by rw [UInt8.toNat_ofNat_of_lt' (by show 210 + k % 9 < 256; omega)]; omega⟩
            obtain ⟨u, hu⟩ := hu8
            have hm : From (wk.alloc (.cells #[.int .u8 (210 + (k : Int) % 9)] 5)) (some ⟨wk.heap.size, 0, none⟩) [u] := from_mark wk [u] _ _ (by show [Value.int .u8 (210 + (k : Int) % 9)] = [u].map B; simp [B, hu])
            have HK : Hid _ := hLk
            have HB : Hid _ := hbk
            have HR : Hid _ := hrow
            clear hLk hbk hrow
            go_wp2_with (first
              | (at_builtin; go_must (refine wpList_app1 rfl _ _ rfl L (bs.length + k) u13 ys rfl (World.ownsRow.alloc HR.out _) _ u rfl hm (by omega) (by simp; omega) ?_))
              | fail)
            intro v' w' hown' hG hkeep
            obtain ⟨hL', hb'⟩ := LSt.grow HK.out hks12 (by show bs'.length ≤ bs.length + k; omega) hG hkeep HB.out
            obtain ⟨zs, hzs⟩ : ∃ zs, zs = ys ++ [u] := ⟨_, rfl⟩
            replace hown' : w'.ownsRow L 5 1 v' (bs.length + k + 1) (zs.map B) := by rw [hzs]; simpa using hown'
            clear hG hkeep hm HK HB HR hu hzs
            have HK : Hid _ := hL'
            have HB : Hid _ := hb'
            have HR : Hid _ := hown'
            clear hL' hb' hown'
            go_wp2_with fail
            go_roundw
            case rel => exact ⟨k + 1, by omega, by go_num, zs, by rw [← Nat.add_assoc]; exact HR.out, HB.out, HK.out⟩
            case measure => simp [intOf]; omega
          · obtain rfl : k = 83 := by omega
            obtain ⟨da, dc, rfl, _⟩ := own_slice hrow
            have b8 : wk.cell? ⟨w.heap.size + 1, 2, none⟩ = some (.slice ao2 bs.length c2) := hLk.br.cell 2
            have HK : Hid _ := hLk
            clear hLk hrow hbk
            go_wp2_with fail
            go_ret
            refine ⟨?_, s12, HK.out.inv, hF12, hc12, HK.out.stp, hfv12.1, hfv12.2.1, hfv12.2.2⟩
            first | rfl | (refine ret_bool ?_; simp)
end Go.Proofs.Ytehjdkdoalmaeaa
