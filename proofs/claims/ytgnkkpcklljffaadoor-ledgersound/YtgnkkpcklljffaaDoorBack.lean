import Derived.Test.YtgnkkpcklljffaaDoorBack0
namespace Go.Proofs.YtgnkkpcklljffaaDoor
open Go.RowKit Go.PlainAid
set_option linter.unusedVariables false
set_option linter.unusedSimpArgs false
set_option linter.unusedSectionVars false
/-- The two ledgers and the rights, as LedgerBack holds them. -/
structure BK (S : Sens) (L ha hb rb : Nat) (sa sb : LS) (d u : Int) (W0 w : World) : Prop where
  a : Blk w ha sa.cs 62
  b : Blk w hb sb.cs 62
  x : Blk w rb #[.int .i64 d, .int .i64 u] 29
  sen : Sen S L w
  q : Below L W0 w
  L1 : L ≤ ha
  L2 : L ≤ hb
  ne : ha ≠ hb
section
variable {S : Sens} {L ha hb rb : Nat} {sa sb s' : LS} {d u : Int} {W0 w w' : World}
theorem BK.stepA (h : BK S L ha hb rb sa sb d u W0 w) (hB : Blk w' ha s'.cs 62) (hq : Stq ha w w') : BK S L ha hb rb s' sb d u W0 w' := by
  have hb' : Below L w w' := hq.below (Nat.le_of_lt (Nat.lt_of_le_of_lt h.L1 h.a.lt)) h.L1
  exact ⟨hB, hq.blk h.b (Ne.symm h.ne), hq.blk h.x (blk_ne h.x h.a (by decide)), h.sen.below hb', h.q.trans hb', h.L1, h.L2, h.ne⟩
theorem BK.stepB (h : BK S L ha hb rb sa sb d u W0 w) (hB : Blk w' hb s'.cs 62) (hq : Stq hb w w') : BK S L ha hb rb sa s' d u W0 w' := by
  have hb' : Below L w w' := hq.below (Nat.le_of_lt (Nat.lt_of_le_of_lt h.L2 h.b.lt)) h.L2
  exact ⟨hq.blk h.a h.ne, hB, hq.blk h.x (blk_ne h.x h.b (by decide)), h.sen.below hb', h.q.trans hb', h.L1, h.L2, h.ne⟩
theorem BK.more (h : BK S L ha hb rb sa sb d u W0 w) (k : Below w.heap.size w w') : BK S L ha hb rb sa sb d u W0 w' := h.stepA (h.a.below k h.a.lt) (Stq.ofBelow k)
theorem BK.drew (h : BK S L ha hb rb sa sb d u W0 w) : BK S L ha hb rb sa sb d u W0 ({ w with drawn := w.drawn + 1 } : World) := h.more ⟨rfl, rfl, rfl, Nat.le_refl _, fun _ _ => rfl⟩
end
theorem x0_of {w : World} {rb : Nat} {d u : Int} (h : Blk w rb #[.int .i64 d, .int .i64 u] 29) : w.cell? ⟨rb, 0, none⟩ = some (.int .i64 d) := h.cell 0
theorem x1_of {w : World} {rb : Nat} {d u : Int} (h : Blk w rb #[.int .i64 d, .int .i64 u] 29) : w.cell? ⟨rb, 1, none⟩ = some (.int .i64 u) := h.cell 1
theorem same_yes (d u : Int) (w : World) : Calls Tryd.prog 15 #[.agg #[.int .i64 d, .int .i64 u], .agg #[.int .i64 d, .int .i64 u]] w fun r w' => r = .returned (.bool true) ∧ Below w.heap.size w w' :=
  (same_any d u d u w).mono fun r w' ⟨h1, h2⟩ => ⟨h1.trans (ret_bool (by simp)), h2⟩
section
variable {c d u k : Int} (hd : 0 ≤ d) (hu : 0 ≤ u) (hs : d + u ≤ c) (hc : c ≤ 1099511627776) (hk : 1 ≤ k) (hkc : k ≤ c)
include hd hu hs hc hk hkc
theorem bk_amt : okAmt k = true := by simp [okAmt]; omega
theorem bk_in0 : (LS.mk 0 0 0 c 0).icode d u = 0 := by unfold LS.icode LS.all; rw [if_neg (by omega), if_neg (by simp only; omega)]
theorem bk_in : (LS.mk 0 0 0 c 0).inext d u = LS.mk d u 0 c 0 := by
  unfold LS.inext; rw [if_pos (bk_in0 hd hu hs hc hk hkc)]; simp
theorem bk_no : d < k → (LS.mk d u 0 c 0).tcode 0 k = 60 := fun h => by unfold LS.tcode; rw [if_pos (bk_amt hd hu hs hc hk hkc), if_pos (show (LS.mk d u 0 c 0).get 0 < k from h)]
theorem bk_yes : k ≤ d → (LS.mk d u 0 c 0).tcode 0 k = 0 := fun h => by unfold LS.tcode; rw [if_pos (bk_amt hd hu hs hc hk hkc), if_neg (show ¬ (LS.mk d u 0 c 0).get 0 < k from Int.not_lt.2 h)]
theorem bk_dec : k ≤ d → (LS.mk d u 0 c 0).tnext 0 1 k = LS.mk (d - k) (u + k) 0 c 0 := fun h => by
  unfold LS.tnext; rw [if_pos (bk_yes hd hu hs hc hk hkc h)]; rfl
theorem bk_lock : k ≤ d → (LS.mk d u 0 c 0).tnext 0 2 k = LS.mk (d - k) u k c 0 := fun h => by
  unfold LS.tnext; rw [if_pos (bk_yes hd hu hs hc hk hkc h)]; simp [LS.mv, LS.put, LS.get]
theorem bk_inc0 : k ≤ d → (LS.mk (d - k) (u + k) 0 c 0).tcode 1 k = 0 := fun h => by unfold LS.tcode; rw [if_pos (bk_amt hd hu hs hc hk hkc), if_neg (show ¬ (LS.mk (d - k) (u + k) 0 c 0).get 1 < k from Int.not_lt.2 (show k ≤ u + k by omega))]
theorem bk_inc : k ≤ d → (LS.mk (d - k) (u + k) 0 c 0).tnext 1 0 k = LS.mk d u 0 c 0 := fun h => by
  unfold LS.tnext; rw [if_pos (bk_inc0 hd hu hs hc hk hkc h)]; simp [LS.mv, LS.put, LS.get]
theorem bk_free0 : k ≤ d → (LS.mk (d - k) u k c 0).tcode 2 k = 0 := fun h => by unfold LS.tcode; rw [if_pos (bk_amt hd hu hs hc hk hkc), if_neg (show ¬ (LS.mk (d - k) u k c 0).get 2 < k from Int.not_lt.2 (Int.le_refl k))]
theorem bk_free : k ≤ d → (LS.mk (d - k) u k c 0).tnext 2 0 k = LS.mk d u 0 c 0 := fun h => by
  unfold LS.tnext; rw [if_pos (bk_free0 hd hu hs hc hk hkc h)]; simp [LS.mv, LS.put, LS.get]
theorem bk_burn : k ≤ d → (LS.mk (d - k) u k c 0).tnext 2 1 k = LS.mk (d - k) (u + k) 0 c 0 := fun h => by
  unfold LS.tnext; rw [if_pos (bk_free0 hd hu hs hc hk hkc h)]; simp [LS.mv, LS.put, LS.get]
theorem bk_ok1 : (LS.mk d u 0 c 0).Ok := ⟨hd, hu, by simp, by simp only; omega, by simp only; omega, hc⟩
theorem bk_ok2 : k ≤ d → (LS.mk (d - k) (u + k) 0 c 0).Ok := fun h => ⟨by simp only; omega, by simp only; omega, by simp, by simp only; omega, by simp only; omega, hc⟩
theorem bk_ok3 : k ≤ d → (LS.mk (d - k) u k c 0).Ok := fun h => ⟨by simp only; omega, by simp only; omega, by simp only; omega, by simp only; omega, by simp only; omega, hc⟩
end
set_option maxRecDepth 100000 in
set_option maxHeartbeats 12800000 in
theorem back_law {S : Sens} (z0 z1 z2 z3 : Int) (W : World) (hS : Sen S W.heap.size W) (y0 : IntKind.i64.wrap z0 = z0) (y1 : IntKind.i64.wrap z1 = z1) (y2 : IntKind.i64.wrap z2 = z2) (y3 : IntKind.i64.wrap z3 = z3) :
    Calls Tryd.prog 3 #[.int .i64 z0, .int .i64 z1, .int .i64 z2, .int .i64 z3] W fun e W' => e = .returned (.bool true) ∧ Below W.heap.size W W' := by
  have hal := alive_any W hS
  have HS : Hid _ := hS
  clear hS
  go_enter Tryd.func3, Tryd.ntmps3
  go_wp2_with fail
  refine hal.mono ?_
  rintro e1 W1 ⟨rfl, hb1⟩
  have HB1 : Hid _ := hb1
  clear hal hb1
  have hw := within_any z0 1 1099511627776 W1 y0 (by omega) (by omega) (by omega)
  go_wp2_with fail
  refine hw.mono ?_
  rintro e2 W2 ⟨⟨c, rfl, hc1, hc⟩, rfl⟩
  have hw := within_any z1 0 c W2 y1 (by omega) (by omega) (by omega)
  go_wp2_with fail
  refine hw.mono ?_
  rintro e3 W3 ⟨⟨d, rfl, hd, hdc⟩, rfl⟩
  have hw := within_any z2 0 (c - d) W3 y2 (by omega) (by omega) (by omega)
  have e1 : IntKind.i64.wrap (c - d) = c - d := by rw [IntKind.wrap_i64]; omega
  go_wp2_with fail
  refine hw.mono ?_
  rintro e4 W4 ⟨⟨u, rfl, hu, huc⟩, rfl⟩
  have hw := within_any z3 1 c W4 y3 (by omega) (by omega) (by omega)
  go_wp2_with fail
  refine hw.mono ?_
  rintro e5 W5 ⟨⟨k, rfl, hk, hkc⟩, rfl⟩
  clear hw e1 y0 y1 y2 y3
  have hs : d + u ≤ c := by omega
  have oc : okAmt c = true := by simp [okAmt]; omega
  have hn := new_any c W5 oc
  have hn2 := new_any c (W5.alloc (.cells (LS.mk 0 0 0 c 0).cs 62)) oc
  rw [World.size_alloc] at hn2
  have hBK : BK S W.heap.size W5.heap.size (W5.heap.size + 1) (W5.heap.size + 2) (LS.mk 0 0 0 c 0) (LS.mk 0 0 0 c 0) d u W (((W5.alloc (.cells (LS.mk 0 0 0 c 0).cs 62)).alloc (.cells (LS.mk 0 0 0 c 0).cs 62)).alloc (.cells #[.int .i64 d, .int .i64 u] 29)) := by
    have hz := HB1.out.size
    have hgr : Below W5.heap.size W5 (((W5.alloc (.cells (LS.mk 0 0 0 c 0).cs 62)).alloc (.cells (LS.mk 0 0 0 c 0).cs 62)).alloc (.cells #[.int .i64 d, .int .i64 u] 29)) := by go_grown
    have hbl := HB1.out.trans (hgr.mono hz)
    refine ⟨?_, ?_, ?_, HS.out.below hbl, hbl, hz, by omega, by omega⟩
    · exact (Below.heap_alloc _ _ _ (by simp; omega)).trans ((Below.heap_alloc _ _ _ (by simp)).trans (heap_alloc_new W5 _))
    · have := heap_alloc_new (W5.alloc (.cells (LS.mk 0 0 0 c 0).cs 62)) (.cells (LS.mk 0 0 0 c 0).cs 62)
      rw [World.size_alloc] at this
      exact (Below.heap_alloc _ _ _ (by simp)).trans this
    · have := heap_alloc_new ((W5.alloc (.cells (LS.mk 0 0 0 c 0).cs 62)).alloc (.cells (LS.mk 0 0 0 c 0).cs 62)) (.cells #[.int .i64 d, .int .i64 u] 29)
      rw [World.size_alloc, World.size_alloc] at this
      exact this
  have HBK : Hid _ := hBK
  clear hBK HB1 HS
  generalize hC0 : (LS.mk 0 0 0 c 0).cs = C0 at *
  have HC0 : Hid _ := hC0
  clear hC0
  go_wp2_with fail
  refine hn.mono ?_
  rintro e6 W6 ⟨rfl, rfl⟩
  go_wp2_with fail
  refine hn2.mono ?_
  rintro e7 W7 ⟨rfl, rfl⟩
  clear hn hn2
  have hB : BK S W.heap.size W5.heap.size (W5.heap.size + 1) (W5.heap.size + 2) (LS.mk 0 0 0 c 0) (LS.mk 0 0 0 c 0) d u W (((W5.alloc (.cells C0 62)).alloc (.cells C0 62)).alloc (.cells #[.int .i64 d, .int .i64 u] 29)) := HBK.out
  have hx := hB.x
  have ok0 := fresh_ok oc
  have hi := in_any _ hB.sen hB.a ok0 hB.L1 d u (by rw [IntKind.wrap_i64]; omega) (by rw [IntKind.wrap_i64]; omega)
  rw [bk_in0 hd hu hs hc hk hkc, bk_in hd hu hs hc hk hkc] at hi
  have HB : Hid _ := hB
  clear hB HBK HC0
  have x0 := x0_of hx
  have x1 := x1_of hx
  clear hx
  go_wp2_with fail
  refine hi.mono ?_
  rintro e8 W8 ⟨rfl, hBa, hTa⟩
  have hB := HB.out.stepA hBa hTa
  clear hi hBa hTa x0 x1 HB
  have hx := hB.x
  have hi := in_any _ hB.sen hB.b ok0 hB.L2 d u (by rw [IntKind.wrap_i64]; omega) (by rw [IntKind.wrap_i64]; omega)
  rw [bk_in0 hd hu hs hc hk hkc, bk_in hd hu hs hc hk hkc] at hi
  have HB : Hid _ := hB
  clear hB ok0 oc
  generalize W5.heap.size = h5 at *
  have x0 := x0_of hx
  have x1 := x1_of hx
  clear hx
  go_wp2_with fail
  refine hi.mono ?_
  rintro e9 W9 ⟨rfl, hBb, hTb⟩
  have hB := HB.out.stepB hBb hTb
  clear hi hBb hTb x0 x1 HB
  by_cases hdk : d < k
  · have hi := dec_any _ hB.sen hB.a (bk_ok1 hd hu hs hc hk hkc) hB.L1 k
    rw [bk_no hd hu hs hc hk hkc hdk, show (LS.mk d u 0 c 0).tnext 0 1 k = LS.mk d u 0 c 0 from by unfold LS.tnext; rw [bk_no hd hu hs hc hk hkc hdk]; rfl] at hi
    have HB : Hid _ := hB
    clear hB
    go_wp2_with fail
    refine hi.mono ?_
    rintro e10 W10 ⟨rfl, hBa, hTa⟩
    have hB := HB.out.stepA hBa hTa
    clear hi hBa hTa HB
    have hi := lock_any _ hB.sen hB.a (bk_ok1 hd hu hs hc hk hkc) hB.L1 k
    rw [bk_no hd hu hs hc hk hkc hdk, show (LS.mk d u 0 c 0).tnext 0 2 k = LS.mk d u 0 c 0 from by unfold LS.tnext; rw [bk_no hd hu hs hc hk hkc hdk]; rfl] at hi
    have HB : Hid _ := hB
    clear hB
    go_wp2_with fail
    refine hi.mono ?_
    rintro e11 W11 ⟨rfl, hBa, hTa⟩
    have hB := HB.out.stepA hBa hTa
    clear hi hBa hTa HB
    have HB : Hid _ := hB
    clear hB
    go_wp2_with fail
    rename_i K hK
    try rw [show ∀ a : Act, a.put none undef = a from fun _ => rfl]
    have hX : BK S W.heap.size h5 (h5 + 1) (h5 + 2) (LS.mk d u 0 c 0) (LS.mk d u 0 c 0) d u W ({ W11 with drawn := W11.drawn + 1 } : World) := HB.out.drew
    refine wp_region_mix (fun wr => Blk wr (h5 + 2) #[.int .i64 d, .int .i64 u] 29) (fun i => i == 1 || i == 3 || i == 6 || i == 10) 10 (by kernel_rfl) rfl (by kernel_rfl) (by kernel_rfl) (by kernel_rfl) ?_
    generalize ({ W11 with drawn := W11.drawn + 1 } : World) = X at *
    have hC0 := hX.x
    refine withFrP (N := 169) rfl ?_
    intro f0 F0 hff
    have hs10 : f0 10 = Value.pointer (some ⟨h5, 0, none⟩) := hff 10
    have hs14 : f0 14 = Value.pointer (some ⟨h5 + 2, 0, none⟩) := hff 14
    clear hff
    refine lyp F0 rfl hC0 rfl (by omega) (wanted_none rfl) (v := Value.pointer (some ⟨h5, 0, none⟩)) (fun wr hwr => by simp only [execOp, (F0.eval 10 (by omega)).trans (show _ = Value.pointer (some ⟨h5, 0, none⟩) from by simp [upd, hs10, hs14])]; first | rfl | simp [go_sem]) fun Fp1 => ?_
    refine lcp Fp1 rfl hC0 rfl (by omega) (wanted_none rfl) (g := 16) (args := #[Value.pointer (some ⟨h5, 0, none⟩)]) (by simp only [execOp, resolve, invoke, List.map_toArray, List.map_cons, List.map_nil, (Fp1.eval 107 (by omega)).trans (show _ = Value.pointer (some ⟨h5, 0, none⟩) from by simp [upd, hs10, hs14])]; simp [go_sem, Act.eval]) (rights_any _ hX.a) ?_
    rintro ex1 vp1 ⟨rfl, hb1⟩
    refine ⟨_, rfl, fun Fp2 => ?_⟩
    have hY1 := hX.more hb1
    have hC1 := hY1.x
    refine lyp Fp2 rfl hC1 rfl (by omega) (wanted_none rfl) (v := Value.agg #[.int .i64 d, .int .i64 u]) (fun wr hwr => by simp only [execOp, (Fp2.eval 14 (by omega)).trans (show _ = Value.pointer (some ⟨h5 + 2, 0, none⟩) from by simp [upd, hs10, hs14])]; simp [go_sem, x0_of hwr, x1_of hwr]) fun Fp3 => ?_
    refine lcp Fp3 rfl hC1 rfl (by omega) (wanted_none rfl) (g := 15) (args := #[Value.agg #[.int .i64 d, .int .i64 u], Value.agg #[.int .i64 d, .int .i64 u]]) (by simp only [execOp, resolve, invoke, List.map_toArray, List.map_cons, List.map_nil, (Fp3.eval 108 (by omega)).trans (show _ = Value.agg #[.int .i64 d, .int .i64 u] from by simp [upd, hs10, hs14]), (Fp3.eval 109 (by omega)).trans (show _ = Value.agg #[.int .i64 d, .int .i64 u] from by simp [upd, hs10, hs14])]; simp [go_sem, Act.eval]) (same_yes d u _) ?_
    rintro ex2 vp2 ⟨rfl, hb2⟩
    refine ⟨_, rfl, fun Fp4 => ?_⟩
    have hY2 := hY1.more hb2
    have hC2 := hY2.x
    refine lyp Fp4 rfl hC2 rfl (by omega) (wanted_none rfl) (v := Value.bool true) (fun wr hwr => by simp only [execOp, (Fp4.eval 110 (by omega)).trans (show _ = Value.bool true from by simp [upd, hs10, hs14])]; first | rfl | simp [go_sem]) fun Fp5 => ?_
    refine lyp Fp5 rfl hC2 rfl (by omega) (want_yes Fp5 rfl (e := 111) rfl (by omega) (show _ = Value.bool true from by simp [upd, hs10, hs14])) (v := Value.pointer (some ⟨h5, 0, none⟩)) (fun wr hwr => by simp only [execOp, (Fp5.eval 10 (by omega)).trans (show _ = Value.pointer (some ⟨h5, 0, none⟩) from by simp [upd, hs10, hs14])]; first | rfl | simp [go_sem]) fun Fp6 => ?_
    refine lcp Fp6 rfl hC2 rfl (by omega) (want_yes Fp6 rfl (e := 111) rfl (by omega) (show _ = Value.bool true from by simp [upd, hs10, hs14])) (g := 18) (args := #[Value.pointer (some ⟨h5, 0, none⟩)]) (by simp only [execOp, resolve, invoke, List.map_toArray, List.map_cons, List.map_nil, (Fp6.eval 112 (by omega)).trans (show _ = Value.pointer (some ⟨h5, 0, none⟩) from by simp [upd, hs10, hs14])]; simp [go_sem, Act.eval]) (held_any _ hY2.a) ?_
    rintro ex3 vp3 ⟨rfl, rfl⟩
    refine ⟨_, rfl, fun Fp7 => ?_⟩
    have hY3 := hY2
    have hC3 := hY3.x
    refine lyp Fp7 rfl hC3 rfl (by omega) (want_yes Fp7 rfl (e := 111) rfl (by omega) (show _ = Value.bool true from by simp [upd, hs10, hs14])) (v := Value.bool true) (fun wr hwr => by simp only [execOp, (Fp7.eval 113 (by omega)).trans (show _ = Value.int .i64 0 from by simp [upd, hs10, hs14])]; simp [go_sem, Act.eval]) fun Fp8 => ?_
    refine lyp Fp8 rfl hC3 rfl (by omega) (wanted_none rfl) (v := Value.bool true) (fun wr hwr => by simp only [execOp, (Fp8.eval 111 (by omega)).trans (show _ = Value.bool true from by simp [upd, hs10, hs14]), (Fp8.eval 114 (by omega)).trans (show _ = Value.bool true from by simp [upd, hs10, hs14])]; simp [go_sem, Act.eval]) fun Fp9 => ?_
    refine lyp Fp9 rfl hC3 rfl (by omega) (wanted_none rfl) (v := Value.bool true) (fun wr hwr => by simp only [execOp, (Fp9.eval 115 (by omega)).trans (show _ = Value.bool true from by simp [upd, hs10, hs14])]; first | rfl | simp [go_sem]) fun Fp10 => ?_
    refine ⟨fun _ => hC3, ?_⟩
    refine hK _ _ ?_
    clear F0 Fp1 Fp2 Fp3 Fp4 Fp5 Fp6 Fp7 Fp8 Fp9 Fp10 hs10 hs14 hK hC0 hC1 hC2 hC3
    simp only [Act.put, List.setIfInBounds_toArray, List.set_cons_succ, List.set_cons_zero]
    have hB := hY3
    clear HB hX hY1 hY2 hY3 hb1 hb2
    have HE : Hid _ := hB.q
    clear hB
    go_wp2_with fail
    go_ret
    exact ⟨ret_bool (by simp), HE.out⟩
  · have hkd : k ≤ d := by omega
    have hi := dec_any _ hB.sen hB.a (bk_ok1 hd hu hs hc hk hkc) hB.L1 k
    rw [bk_yes hd hu hs hc hk hkc hkd, bk_dec hd hu hs hc hk hkc hkd] at hi
    have HB : Hid _ := hB
    clear hB
    go_wp2_with fail
    refine hi.mono ?_
    rintro e10 W10 ⟨rfl, hBa, hTa⟩
    have hB := HB.out.stepA hBa hTa
    clear hi hBa hTa HB
    have hi := inc_any _ hB.sen hB.a (bk_ok2 hd hu hs hc hk hkc hkd) hB.L1 k
    rw [bk_inc0 hd hu hs hc hk hkc hkd, bk_inc hd hu hs hc hk hkc hkd] at hi
    have HB : Hid _ := hB
    clear hB
    go_wp2_with fail
    refine hi.mono ?_
    rintro e11 W11 ⟨rfl, hBa, hTa⟩
    have hB := HB.out.stepA hBa hTa
    clear hi hBa hTa HB
    have HB : Hid _ := hB
    clear hB
    go_wp2_with fail
    rename_i K hK
    try rw [show ∀ a : Act, a.put none undef = a from fun _ => rfl]
    have hX : BK S W.heap.size h5 (h5 + 1) (h5 + 2) (LS.mk d u 0 c 0) (LS.mk d u 0 c 0) d u W ({ W11 with drawn := W11.drawn + 1 } : World) := HB.out.drew
    refine wp_region_mix (fun wr => Blk wr (h5 + 2) #[.int .i64 d, .int .i64 u] 29) (fun i => i == 4 || i == 6 || i == 9) 9 (by kernel_rfl) rfl (by kernel_rfl) (by kernel_rfl) (by kernel_rfl) ?_
    generalize ({ W11 with drawn := W11.drawn + 1 } : World) = X at *
    have hC0 := hX.x
    refine withFrP (N := 169) rfl ?_
    intro f0 F0 hff
    have hs10 : f0 10 = Value.pointer (some ⟨h5, 0, none⟩) := hff 10
    have hs14 : f0 14 = Value.pointer (some ⟨h5 + 2, 0, none⟩) := hff 14
    have hs13 : f0 13 = Value.int .i64 0 := hff 13
    clear hff
    refine lyp F0 rfl hC0 rfl (by omega) (wanted_none rfl) (v := Value.int .i64 0) (fun wr hwr => by simp only [execOp, (F0.eval 13 (by omega)).trans (show _ = Value.int .i64 0 from by simp [upd, hs10, hs14, hs13])]; first | rfl | simp [go_sem]) fun Fp1 => ?_
    refine lyp Fp1 rfl hC0 rfl (by omega) (wanted_none rfl) (v := Value.bool false) (fun wr hwr => by simp only [execOp, (Fp1.eval 87 (by omega)).trans (show _ = Value.int .i64 0 from by simp [upd, hs10, hs14, hs13])]; simp [go_sem, Act.eval]) fun Fp2 => ?_
    refine lyp Fp2 rfl hC0 rfl (by omega) (wanted_none rfl) (v := Value.bool false) (fun wr hwr => by simp only [execOp, (Fp2.eval 88 (by omega)).trans (show _ = Value.bool false from by simp [upd, hs10, hs14, hs13])]; first | rfl | simp [go_sem]) fun Fp3 => ?_
    refine lyp Fp3 rfl hC0 rfl (by omega) (want_yes Fp3 rfl (e := 89) rfl (by omega) (show _ = Value.bool false from by simp [upd, hs10, hs14, hs13])) (v := Value.pointer (some ⟨h5, 0, none⟩)) (fun wr hwr => by simp only [execOp, (Fp3.eval 10 (by omega)).trans (show _ = Value.pointer (some ⟨h5, 0, none⟩) from by simp [upd, hs10, hs14, hs13])]; first | rfl | simp [go_sem]) fun Fp4 => ?_
    refine lcp Fp4 rfl hC0 rfl (by omega) (want_yes Fp4 rfl (e := 89) rfl (by omega) (show _ = Value.bool false from by simp [upd, hs10, hs14, hs13])) (g := 16) (args := #[Value.pointer (some ⟨h5, 0, none⟩)]) (by simp only [execOp, resolve, invoke, List.map_toArray, List.map_cons, List.map_nil, (Fp4.eval 90 (by omega)).trans (show _ = Value.pointer (some ⟨h5, 0, none⟩) from by simp [upd, hs10, hs14, hs13])]; simp [go_sem, Act.eval]) (rights_any _ hX.a) ?_
    rintro ex1 vp1 ⟨rfl, hb1⟩
    refine ⟨_, rfl, fun Fp5 => ?_⟩
    have hY1 := hX.more hb1
    have hC1 := hY1.x
    refine lyp Fp5 rfl hC1 rfl (by omega) (want_yes Fp5 rfl (e := 89) rfl (by omega) (show _ = Value.bool false from by simp [upd, hs10, hs14, hs13])) (v := Value.agg #[.int .i64 d, .int .i64 u]) (fun wr hwr => by simp only [execOp, (Fp5.eval 14 (by omega)).trans (show _ = Value.pointer (some ⟨h5 + 2, 0, none⟩) from by simp [upd, hs10, hs14, hs13])]; simp [go_sem, x0_of hwr, x1_of hwr]) fun Fp6 => ?_
    refine lcp Fp6 rfl hC1 rfl (by omega) (want_yes Fp6 rfl (e := 89) rfl (by omega) (show _ = Value.bool false from by simp [upd, hs10, hs14, hs13])) (g := 15) (args := #[Value.agg #[.int .i64 d, .int .i64 u], Value.agg #[.int .i64 d, .int .i64 u]]) (by simp only [execOp, resolve, invoke, List.map_toArray, List.map_cons, List.map_nil, (Fp6.eval 91 (by omega)).trans (show _ = Value.agg #[.int .i64 d, .int .i64 u] from by simp [upd, hs10, hs14, hs13]), (Fp6.eval 92 (by omega)).trans (show _ = Value.agg #[.int .i64 d, .int .i64 u] from by simp [upd, hs10, hs14, hs13])]; simp [go_sem, Act.eval]) (same_yes d u _) ?_
    rintro ex2 vp2 ⟨rfl, hb2⟩
    refine ⟨_, rfl, fun Fp7 => ?_⟩
    have hY2 := hY1.more hb2
    have hC2 := hY2.x
    refine lyp Fp7 rfl hC2 rfl (by omega) (want_yes Fp7 rfl (e := 89) rfl (by omega) (show _ = Value.bool false from by simp [upd, hs10, hs14, hs13])) (v := Value.bool false) (fun wr hwr => by simp only [execOp, (Fp7.eval 93 (by omega)).trans (show _ = Value.bool true from by simp [upd, hs10, hs14, hs13])]; simp [go_sem, Act.eval]) fun Fp8 => ?_
    refine lyp Fp8 rfl hC2 rfl (by omega) (wanted_none rfl) (v := Value.bool false) (fun wr hwr => by simp only [execOp, (Fp8.eval 89 (by omega)).trans (show _ = Value.bool false from by simp [upd, hs10, hs14, hs13]), (Fp8.eval 94 (by omega)).trans (show _ = Value.bool false from by simp [upd, hs10, hs14, hs13])]; simp [go_sem, Act.eval]) fun Fp9 => ?_
    refine ⟨fun _ => hC2, ?_⟩
    refine hK _ _ ?_
    clear F0 Fp1 Fp2 Fp3 Fp4 Fp5 Fp6 Fp7 Fp8 Fp9 hs10 hs14 hs13 hK hC0 hC1 hC2
    simp only [Act.put, List.setIfInBounds_toArray, List.set_cons_succ, List.set_cons_zero]
    have hB := hY2
    clear HB hX hY1 hY2 hb1 hb2
    have hi := lock_any _ hB.sen hB.a (bk_ok1 hd hu hs hc hk hkc) hB.L1 k
    rw [bk_yes hd hu hs hc hk hkc hkd, bk_lock hd hu hs hc hk hkc hkd] at hi
    have HB : Hid _ := hB
    clear hB
    go_wp2_with fail
    refine hi.mono ?_
    rintro e12 W12 ⟨rfl, hBa, hTa⟩
    have hB := HB.out.stepA hBa hTa
    clear hi hBa hTa HB
    have HB : Hid _ := hB
    clear hB
    go_wp2_with fail
    rename_i K hK
    try rw [show ∀ a : Act, a.put none undef = a from fun _ => rfl]
    have hX : BK S W.heap.size h5 (h5 + 1) (h5 + 2) (LS.mk (d - k) u k c 0) (LS.mk d u 0 c 0) d u W ({ W12 with drawn := W12.drawn + 1 } : World) := HB.out.drew
    refine wp_region_mix (fun wr => Blk wr (h5 + 2) #[.int .i64 d, .int .i64 u] 29) (fun i => i == 1 || i == 7 || i == 12 || i == 14 || i == 19 || i == 22) 22 (by kernel_rfl) rfl (by kernel_rfl) (by kernel_rfl) (by kernel_rfl) ?_
    generalize ({ W12 with drawn := W12.drawn + 1 } : World) = X at *
    have hC0 := hX.x
    refine withFrP (N := 169) rfl ?_
    intro f0 F0 hff
    have hs10 : f0 10 = Value.pointer (some ⟨h5, 0, none⟩) := hff 10
    have hs14 : f0 14 = Value.pointer (some ⟨h5 + 2, 0, none⟩) := hff 14
    have hs3 : f0 3 = Value.int .i64 k := hff 3
    clear hff
    refine lyp F0 rfl hC0 rfl (by omega) (wanted_none rfl) (v := Value.pointer (some ⟨h5, 0, none⟩)) (fun wr hwr => by simp only [execOp, (F0.eval 10 (by omega)).trans (show _ = Value.pointer (some ⟨h5, 0, none⟩) from by simp [upd, hs10, hs14, hs3])]; first | rfl | simp [go_sem]) fun Fq1 => ?_
    refine lcp Fq1 rfl hC0 rfl (by omega) (wanted_none rfl) (g := 18) (args := #[Value.pointer (some ⟨h5, 0, none⟩)]) (by simp only [execOp, resolve, invoke, List.map_toArray, List.map_cons, List.map_nil, (Fq1.eval 116 (by omega)).trans (show _ = Value.pointer (some ⟨h5, 0, none⟩) from by simp [upd, hs10, hs14, hs3])]; simp [go_sem, Act.eval]) (held_any _ hX.a) ?_
    rintro ex1 vq1 ⟨rfl, rfl⟩
    refine ⟨_, rfl, fun Fq2 => ?_⟩
    have hY1 := hX
    have hC1 := hY1.x
    refine lyp Fq2 rfl hC1 rfl (by omega) (wanted_none rfl) (v := Value.int .i64 k) (fun wr hwr => by simp only [execOp, (Fq2.eval 3 (by omega)).trans (show _ = Value.int .i64 k from by simp [upd, hs10, hs14, hs3])]; first | rfl | simp [go_sem]) fun Fq3 => ?_
    refine lyp Fq3 rfl hC1 rfl (by omega) (wanted_none rfl) (v := Value.bool false) (fun wr hwr => by simp only [execOp, (Fq3.eval 117 (by omega)).trans (show _ = Value.int .i64 k from by simp [upd, hs10, hs14, hs3]), (Fq3.eval 118 (by omega)).trans (show _ = Value.int .i64 k from by simp [upd, hs10, hs14, hs3])]; simp [go_sem, Act.eval]) fun Fq4 => ?_
    refine lyp Fq4 rfl hC1 rfl (by omega) (wanted_none rfl) (v := Value.bool false) (fun wr hwr => by simp only [execOp, (Fq4.eval 119 (by omega)).trans (show _ = Value.bool false from by simp [upd, hs10, hs14, hs3])]; first | rfl | simp [go_sem]) fun Fq5 => ?_
    refine lyp Fq5 rfl hC1 rfl (by omega) (want_yes Fq5 rfl (e := 120) rfl (by omega) (show _ = Value.bool false from by simp [upd, hs10, hs14, hs3])) (v := Value.pointer (some ⟨h5, 0, none⟩)) (fun wr hwr => by simp only [execOp, (Fq5.eval 10 (by omega)).trans (show _ = Value.pointer (some ⟨h5, 0, none⟩) from by simp [upd, hs10, hs14, hs3])]; first | rfl | simp [go_sem]) fun Fq6 => ?_
    refine lyp Fq6 rfl hC1 rfl (by omega) (want_yes Fq6 rfl (e := 120) rfl (by omega) (show _ = Value.bool false from by simp [upd, hs10, hs14, hs3])) (v := Value.int .i64 k) (fun wr hwr => by simp only [execOp, (Fq6.eval 3 (by omega)).trans (show _ = Value.int .i64 k from by simp [upd, hs10, hs14, hs3])]; first | rfl | simp [go_sem]) fun Fq7 => ?_
    have hi := free_any _ hY1.sen hY1.a (bk_ok3 hd hu hs hc hk hkc hkd) hY1.L1 k
    rw [bk_free0 hd hu hs hc hk hkc hkd, bk_free hd hu hs hc hk hkc hkd] at hi
    refine lcp Fq7 rfl hC1 rfl (by omega) (want_yes Fq7 rfl (e := 120) rfl (by omega) (show _ = Value.bool false from by simp [upd, hs10, hs14, hs3])) (g := 19) (args := #[Value.pointer (some ⟨h5, 0, none⟩), Value.int .i64 k]) (by simp only [execOp, resolve, invoke, List.map_toArray, List.map_cons, List.map_nil, (Fq7.eval 121 (by omega)).trans (show _ = Value.pointer (some ⟨h5, 0, none⟩) from by simp [upd, hs10, hs14, hs3]), (Fq7.eval 122 (by omega)).trans (show _ = Value.int .i64 k from by simp [upd, hs10, hs14, hs3])]; simp [go_sem, Act.eval]) hi ?_
    rintro ex2 vq2 ⟨rfl, hBa, hTa⟩
    refine ⟨_, rfl, fun Fq8 => ?_⟩
    have hY2 := hY1.stepA hBa hTa
    have hC2 := hY2.x
    refine lyp Fq8 rfl hC2 rfl (by omega) (want_yes Fq8 rfl (e := 120) rfl (by omega) (show _ = Value.bool false from by simp [upd, hs10, hs14, hs3])) (v := Value.bool false) (fun wr hwr => by simp only [execOp, (Fq8.eval 123 (by omega)).trans (show _ = Value.int .i64 0 from by simp [upd, hs10, hs14, hs3])]; simp [go_sem, Act.eval]) fun Fq9 => ?_
    refine lyp Fq9 rfl hC2 rfl (by omega) (wanted_none rfl) (v := Value.bool false) (fun wr hwr => by simp only [execOp, (Fq9.eval 120 (by omega)).trans (show _ = Value.bool false from by simp [upd, hs10, hs14, hs3]), (Fq9.eval 124 (by omega)).trans (show _ = Value.bool false from by simp [upd, hs10, hs14, hs3])]; simp [go_sem, Act.eval]) fun Fq10 => ?_
    refine lyp Fq10 rfl hC2 rfl (by omega) (wanted_none rfl) (v := Value.bool false) (fun wr hwr => by simp only [execOp, (Fq10.eval 125 (by omega)).trans (show _ = Value.bool false from by simp [upd, hs10, hs14, hs3])]; first | rfl | simp [go_sem]) fun Fq11 => ?_
    refine lyp Fq11 rfl hC2 rfl (by omega) (want_yes Fq11 rfl (e := 126) rfl (by omega) (show _ = Value.bool false from by simp [upd, hs10, hs14, hs3])) (v := Value.pointer (some ⟨h5, 0, none⟩)) (fun wr hwr => by simp only [execOp, (Fq11.eval 10 (by omega)).trans (show _ = Value.pointer (some ⟨h5, 0, none⟩) from by simp [upd, hs10, hs14, hs3])]; first | rfl | simp [go_sem]) fun Fq12 => ?_
    refine lcp Fq12 rfl hC2 rfl (by omega) (want_yes Fq12 rfl (e := 126) rfl (by omega) (show _ = Value.bool false from by simp [upd, hs10, hs14, hs3])) (g := 16) (args := #[Value.pointer (some ⟨h5, 0, none⟩)]) (by simp only [execOp, resolve, invoke, List.map_toArray, List.map_cons, List.map_nil, (Fq12.eval 127 (by omega)).trans (show _ = Value.pointer (some ⟨h5, 0, none⟩) from by simp [upd, hs10, hs14, hs3])]; simp [go_sem, Act.eval]) (rights_any _ hY2.a) ?_
    rintro ex3 vq3 ⟨rfl, hb3⟩
    refine ⟨_, rfl, fun Fq13 => ?_⟩
    have hY3 := hY2.more hb3
    have hC3 := hY3.x
    refine lyp Fq13 rfl hC3 rfl (by omega) (want_yes Fq13 rfl (e := 126) rfl (by omega) (show _ = Value.bool false from by simp [upd, hs10, hs14, hs3])) (v := Value.agg #[.int .i64 d, .int .i64 u]) (fun wr hwr => by simp only [execOp, (Fq13.eval 14 (by omega)).trans (show _ = Value.pointer (some ⟨h5 + 2, 0, none⟩) from by simp [upd, hs10, hs14, hs3])]; simp [go_sem, x0_of hwr, x1_of hwr]) fun Fq14 => ?_
    refine lcp Fq14 rfl hC3 rfl (by omega) (want_yes Fq14 rfl (e := 126) rfl (by omega) (show _ = Value.bool false from by simp [upd, hs10, hs14, hs3])) (g := 15) (args := #[Value.agg #[.int .i64 d, .int .i64 u], Value.agg #[.int .i64 d, .int .i64 u]]) (by simp only [execOp, resolve, invoke, List.map_toArray, List.map_cons, List.map_nil, (Fq14.eval 128 (by omega)).trans (show _ = Value.agg #[.int .i64 d, .int .i64 u] from by simp [upd, hs10, hs14, hs3]), (Fq14.eval 129 (by omega)).trans (show _ = Value.agg #[.int .i64 d, .int .i64 u] from by simp [upd, hs10, hs14, hs3])]; simp [go_sem, Act.eval]) (same_yes d u _) ?_
    rintro ex4 vq4 ⟨rfl, hb4⟩
    refine ⟨_, rfl, fun Fq15 => ?_⟩
    have hY4 := hY3.more hb4
    have hC4 := hY4.x
    refine lyp Fq15 rfl hC4 rfl (by omega) (want_yes Fq15 rfl (e := 126) rfl (by omega) (show _ = Value.bool false from by simp [upd, hs10, hs14, hs3])) (v := Value.bool false) (fun wr hwr => by simp only [execOp, (Fq15.eval 130 (by omega)).trans (show _ = Value.bool true from by simp [upd, hs10, hs14, hs3])]; simp [go_sem, Act.eval]) fun Fq16 => ?_
    refine lyp Fq16 rfl hC4 rfl (by omega) (wanted_none rfl) (v := Value.bool false) (fun wr hwr => by simp only [execOp, (Fq16.eval 126 (by omega)).trans (show _ = Value.bool false from by simp [upd, hs10, hs14, hs3]), (Fq16.eval 131 (by omega)).trans (show _ = Value.bool false from by simp [upd, hs10, hs14, hs3])]; simp [go_sem, Act.eval]) fun Fq17 => ?_
    refine lyp Fq17 rfl hC4 rfl (by omega) (wanted_none rfl) (v := Value.bool false) (fun wr hwr => by simp only [execOp, (Fq17.eval 132 (by omega)).trans (show _ = Value.bool false from by simp [upd, hs10, hs14, hs3])]; first | rfl | simp [go_sem]) fun Fq18 => ?_
    refine lyp Fq18 rfl hC4 rfl (by omega) (want_yes Fq18 rfl (e := 133) rfl (by omega) (show _ = Value.bool false from by simp [upd, hs10, hs14, hs3])) (v := Value.pointer (some ⟨h5, 0, none⟩)) (fun wr hwr => by simp only [execOp, (Fq18.eval 10 (by omega)).trans (show _ = Value.pointer (some ⟨h5, 0, none⟩) from by simp [upd, hs10, hs14, hs3])]; first | rfl | simp [go_sem]) fun Fq19 => ?_
    refine lcp Fq19 rfl hC4 rfl (by omega) (want_yes Fq19 rfl (e := 133) rfl (by omega) (show _ = Value.bool false from by simp [upd, hs10, hs14, hs3])) (g := 18) (args := #[Value.pointer (some ⟨h5, 0, none⟩)]) (by simp only [execOp, resolve, invoke, List.map_toArray, List.map_cons, List.map_nil, (Fq19.eval 134 (by omega)).trans (show _ = Value.pointer (some ⟨h5, 0, none⟩) from by simp [upd, hs10, hs14, hs3])]; simp [go_sem, Act.eval]) (held_any _ hY4.a) ?_
    rintro ex5 vq5 ⟨rfl, rfl⟩
    refine ⟨_, rfl, fun Fq20 => ?_⟩
    have hY5 := hY4
    have hC5 := hY5.x
    refine lyp Fq20 rfl hC5 rfl (by omega) (want_yes Fq20 rfl (e := 133) rfl (by omega) (show _ = Value.bool false from by simp [upd, hs10, hs14, hs3])) (v := Value.bool false) (fun wr hwr => by simp only [execOp, (Fq20.eval 135 (by omega)).trans (show _ = Value.int .i64 0 from by simp [upd, hs10, hs14, hs3])]; simp [go_sem, Act.eval]) fun Fq21 => ?_
    refine lyp Fq21 rfl hC5 rfl (by omega) (wanted_none rfl) (v := Value.bool false) (fun wr hwr => by simp only [execOp, (Fq21.eval 133 (by omega)).trans (show _ = Value.bool false from by simp [upd, hs10, hs14, hs3]), (Fq21.eval 136 (by omega)).trans (show _ = Value.bool false from by simp [upd, hs10, hs14, hs3])]; simp [go_sem, Act.eval]) fun Fq22 => ?_
    refine ⟨fun _ => hC5, ?_⟩
    refine hK _ _ ?_
    clear F0 Fq1 Fq2 Fq3 Fq4 Fq5 Fq6 Fq7 Fq8 Fq9 Fq10 Fq11 Fq12 Fq13 Fq14 Fq15 Fq16 Fq17 Fq18 Fq19 Fq20 Fq21 Fq22 hs10 hs14 hs3 hK hC0 hC1 hC2 hC3 hC4 hC5
    simp only [Act.put, List.setIfInBounds_toArray, List.set_cons_succ, List.set_cons_zero]
    have hB := hY5
    clear HB hX hY1 hY2 hY3 hY4 hY5 hb3 hb4
    have hi := lock_any _ hB.sen hB.a (bk_ok1 hd hu hs hc hk hkc) hB.L1 k
    rw [bk_yes hd hu hs hc hk hkc hkd, bk_lock hd hu hs hc hk hkc hkd] at hi
    have HB : Hid _ := hB
    clear hB
    go_wp2_with fail
    refine hi.mono ?_
    rintro e13 W13 ⟨rfl, hBa, hTa⟩
    have hB := HB.out.stepA hBa hTa
    clear hi hBa hTa HB
    have hi := burn_any _ hB.sen hB.a (bk_ok3 hd hu hs hc hk hkc hkd) hB.L1 k
    rw [bk_free0 hd hu hs hc hk hkc hkd, bk_burn hd hu hs hc hk hkc hkd] at hi
    have HB : Hid _ := hB
    clear hB
    go_wp2_with fail
    refine hi.mono ?_
    rintro e14 W14 ⟨rfl, hBa, hTa⟩
    have hB := HB.out.stepA hBa hTa
    clear hi hBa hTa HB
    have hi := dec_any _ hB.sen hB.b (bk_ok1 hd hu hs hc hk hkc) hB.L2 k
    rw [bk_yes hd hu hs hc hk hkc hkd, bk_dec hd hu hs hc hk hkc hkd] at hi
    have HB : Hid _ := hB
    clear hB
    go_wp2_with fail
    refine hi.mono ?_
    rintro e15 W15 ⟨rfl, hBa, hTa⟩
    have hB := HB.out.stepB hBa hTa
    clear hi hBa hTa HB
    have hr := rights_any _ hB.a
    have HB : Hid _ := hB
    clear hB
    go_wp2_with fail
    refine hr.mono ?_
    rintro e16 W16 ⟨rfl, hb16⟩
    have hB := HB.out.more hb16
    clear hr hb16 HB
    have hr := rights_any _ hB.b
    have HB : Hid _ := hB
    clear hB
    go_wp2_with fail
    refine hr.mono ?_
    rintro e17 W17 ⟨rfl, hb17⟩
    have hB := HB.out.more hb17
    clear hr hb17 HB
    have hr := same_any (d - k) (u + k) (d - k) (u + k) W17
    rw [show ((d - k == d - k) && (u + k == u + k)) = true from by simp] at hr
    have HB : Hid _ := hB
    clear hB
    go_wp2_with fail
    refine hr.mono ?_
    rintro e18 W18 ⟨rfl, hb18⟩
    have hB := HB.out.more hb18
    clear hr hb18 HB
    have hr := held_any _ hB.a
    have HB : Hid _ := hB
    clear hB
    go_wp2_with fail
    refine hr.mono ?_
    rintro e19 W19 ⟨rfl, rfl⟩
    have HE : Hid _ := HB.out.q
    clear hr HB
    go_wp2_with fail
    go_ret
    exact ⟨rfl, HE.out⟩
end Go.Proofs.YtgnkkpcklljffaaDoor
