import Derived.Test.YtehjdkdoalmaeaaLetter0
namespace Go.Proofs.Ytehjdkdoalmaeaa
open Go.RowKit Go.PlainAid
set_option linter.unusedVariables false
set_option linter.unusedSimpArgs false
theorem Try.info29 : (Try.prog.info? 29).map (fun i => (i.zero, i.size, i.bytes)) = some (some (.slice none 0 0), 1, 24) := by kernel_rfl
theorem Try.info9 : (Try.prog.info? 9).map (fun i => (i.zero, i.size, i.bytes)) = some (some (.string ⟨#[]⟩), 1, 16) := by kernel_rfl
theorem Try.info3 : (Try.prog.info? 3).map (fun i => (i.zero, i.size, i.bytes)) = some (some (.int .i64 0), 1, 8) := by kernel_rfl
set_option maxRecDepth 100000 in
set_option maxHeartbeats 6400000 in
theorem letter_left {L pb hbn hbr room n : Nat} {s : PS} (w : World) (h : PInv L pb hbn hbr room s w) (hF : PFull s) (hc : PCnt n s) (hn : n ≤ 3000) (hLw : L ≤ w.heap.size) (xo : Option Addr) (xc : Nat) (bs : List UInt8) (hf : s.fl = [⟨.slice xo bs.length xc, bs⟩]) (hx : bs.length ≤ 1048576) (f t e : Int) (ao2 : Option Addr) (c2 : Nat) (h2 : From w ao2 bs)
    (hq1 : ¬ ((s.turns + 1) % 3 = 0)) (hq2 : (bs.length : Int) ≤ 4194304 - s.size) :
    Calls Try.prog 34 #[.pointer (some ⟨pb, 0, none⟩), .agg (letC f t (.slice xo bs.length xc)), .int .i64 e, .agg (letC f t (.slice ao2 bs.length c2)), .int .i64 e] w fun r w' => r = .returned (.bool true) ∧ ∃ s', LPost L pb hbn hbr room n s s' w w' := by
  show Calls Try.prog 34 #[.pointer (some ⟨pb, 0, none⟩), .agg #[.int .i64 f, .int .i64 t, .slice xo bs.length xc], .int .i64 e, .agg #[.int .i64 f, .int .i64 t, .slice ao2 bs.length c2], .int .i64 e] w _
  have hgr : Below w.heap.size w ((w.alloc (.cells #[.int .i64 f, .int .i64 t, .slice xo bs.length xc] 31)).alloc (.cells #[.int .i64 f, .int .i64 t, .slice ao2 bs.length c2] 31)) := by go_grown
  have hBl : Blk ((w.alloc (.cells #[.int .i64 f, .int .i64 t, .slice xo bs.length xc] 31)).alloc (.cells #[.int .i64 f, .int .i64 t, .slice ao2 bs.length c2] 31)) w.heap.size (letC f t (.slice xo bs.length xc)) 31 := (Below.heap_alloc _ _ _ (by simp)).trans (heap_alloc_new w _)
  have hBr : Blk ((w.alloc (.cells #[.int .i64 f, .int .i64 t, .slice xo bs.length xc] 31)).alloc (.cells #[.int .i64 f, .int .i64 t, .slice ao2 bs.length c2] 31)) (w.heap.size + 1) (letC f t (.slice ao2 bs.length c2)) 31 := by
    have := heap_alloc_new (w.alloc (.cells #[.int .i64 f, .int .i64 t, .slice xo bs.length xc] 31)) (.cells #[.int .i64 f, .int .i64 t, .slice ao2 bs.length c2] 31)
    rw [World.size_alloc] at this
    exact this
  have hPA := h.below hgr
  have hfx : From w xo bs := by
    have := h.float ⟨.slice xo bs.length xc, bs⟩ (by rw [hf]; simp)
    obtain ⟨_, _, ee, _, _, q, _⟩ := own_from this
    cases ee
    exact q
  have hal := alike_any f t f t xo ao2 bs.length bs.length xc c2 bs bs _ rfl rfl ((hfx.alloc (.cells #[.int .i64 f, .int .i64 t, .slice xo bs.length xc] 31)).alloc (.cells #[.int .i64 f, .int .i64 t, .slice ao2 bs.length c2] 31)) ((h2.alloc (.cells #[.int .i64 f, .int .i64 t, .slice xo bs.length xc] 31)).alloc (.cells #[.int .i64 f, .int .i64 t, .slice ao2 bs.length c2] 31))
  rw [show alikeB f t bs f t bs = true from by simp [alikeB]] at hal
  have HG : Hid _ := hgr
  have HL : Hid _ := hBl
  have HR : Hid _ := hBr
  have HP : Hid _ := hPA
  have H0 : Hid _ := h
  clear hgr hBl hBr hPA hfx h2 h
  go_enter Try.func34, Try.ntmps34
  go_wp2_with (first | (go_at_call 9; refine (num_any _ _).mono ?_; rintro e9 w9 ⟨rfl, rfl⟩) | fail)
  refine hal.mono ?_
  rintro e14 w1 ⟨rfl, hb1⟩
  have hgr1 : Below w.heap.size w w1 := HG.out.trans (hb1.mono HG.out.size)
  have hP1 := HP.out.below hb1
  have hBl1 : Blk w1 w.heap.size (letC f t (.slice xo bs.length xc)) 31 := (hb1.block _ (by simp; omega)).trans HL.out
  have hBr1 : Blk w1 (w.heap.size + 1) (letC f t (.slice ao2 bs.length c2)) 31 := (hb1.block _ (by simp)).trans HR.out
  have hL1 : LSt L pb hbn hbr room s s (letC f t (.slice xo bs.length xc)) (letC f t (.slice ao2 bs.length c2)) w w1 := ⟨hP1, PStp.ofBelow hgr1, hBl1, hBr1, fun q => by have := H0.out.lt _ q; omega, fun q => by have := H0.out.lt _ q; omega⟩
  clear HG HL HR HP hal hb1 hP1 hBl1 hBr1 hgr1 H0
  have c8 : w1.cell? ⟨pb, 8, none⟩ = some (.int .i64 s.turns) := hL1.cell 8
  have z8 : w1.frozen? ⟨pb, 8, none⟩ = false := hL1.frozen 8
  have hL2 := hL1.setTurns (s.turns + 1)
  have ht0 := hc.t0
  have ht1 := hc.t1
  have HL : Hid _ := hL2
  clear hL1 hL2
  go_wp2_with fail
  have hL2 := HL.out
  clear HL c8 z8
  generalize (w1.setCell ⟨pb, 8, none⟩ (.int .i64 (s.turns + 1))) = W2 at *
  obtain ⟨s2, hs2⟩ : ∃ s2, s2 = ({ s with turns := s.turns + 1 } : PS) := ⟨_, rfl⟩
  rw [← hs2] at hL2
  have c8 : W2.cell? ⟨pb, 8, none⟩ = some (.int .i64 (s.turns + 1)) := by have := hL2.cell 8; rw [hs2] at this; exact this
  have c9 : W2.cell? ⟨pb, 9, none⟩ = some (.int .i64 s.size) := by have := hL2.cell 9; rw [hs2] at this; exact this
  have b2 : W2.cell? ⟨w.heap.size, 2, none⟩ = some (.slice xo bs.length xc) := hL2.bl.cell 2
  have hz0 := hc.z0
  have hz1 := hc.z1
  have hd : ((s.turns + 1).tmod 3 != 0) = true := by
    rw [Int.tmod_eq_emod_of_nonneg (by omega)]
    simpa using hq1
  have hw9 : IntKind.i64.wrap (4194304 - s.size) = 4194304 - s.size := by rw [IntKind.wrap_i64]; omega
  go_quiet (fail)
  go_wp2_with fail
  rename_i K hK
  try rw [show ∀ a : Act, a.put none undef = a from fun _ => rfl]
  refine wp_region_mix (fun wr => wr.heap[pb]? = W2.heap[pb]? ∧ wr.heap[w.heap.size]? = W2.heap[w.heap.size]?) (fun i => i == 11) 11 (by kernel_rfl) rfl (by kernel_rfl) (by kernel_rfl) (by kernel_rfl) ?_
  have hC : ({ W2.drewN nq with drawn := (W2.drewN nq).drawn + 1 } : World).heap[pb]? = W2.heap[pb]? ∧ ({ W2.drewN nq with drawn := (W2.drewN nq).drawn + 1 } : World).heap[w.heap.size]? = W2.heap[w.heap.size]? := ⟨rfl, rfl⟩
  have hL3 : LSt L pb hbn hbr room s _ (letC f t (.slice xo bs.length xc)) (letC f t (.slice ao2 bs.length c2)) w ({ W2.drewN nq with drawn := (W2.drewN nq).drawn + 1 } : World) := (hL2.drewN nq).drew
  generalize ({ W2.drewN nq with drawn := (W2.drewN nq).drawn + 1 } : World) = W3 at *
  refine withFrP (N := 175) rfl ?_
  intro f0 F0 hff
  have hs0 : f0 0 = Value.pointer (some ⟨pb, 0, none⟩) := hff 0
  have hs6 : f0 6 = Value.pointer (some ⟨w.heap.size, 0, none⟩) := hff 6
  clear hff
  refine lyp F0 rfl hC rfl (by omega) (wanted_none rfl) (v := Value.pointer (some ⟨pb, 0, none⟩)) (fun wr hwr => by simp only [execOp, (F0.eval 0 (by omega)).trans (show _ = Value.pointer (some ⟨pb, 0, none⟩) from by simp [upd, hs0, hs6])]; first | rfl | simp [go_sem]) fun F1 => ?_
  refine lyp F1 rfl hC rfl (by omega) (wanted_none rfl) (v := Value.pointer (some ⟨pb, 0, none⟩)) (fun wr hwr => by simp only [execOp, (F1.eval 0 (by omega)).trans (show _ = Value.pointer (some ⟨pb, 0, none⟩) from by simp [upd, hs0, hs6])]; first | rfl | simp [go_sem]) fun F2 => ?_
  refine lyp F2 rfl hC rfl (by omega) (wanted_none rfl) (v := Value.pointer (some ⟨pb, 0, none⟩)) (fun wr hwr => by simp only [execOp, (F2.eval 49 (by omega)).trans (show _ = Value.pointer (some ⟨pb, 0, none⟩) from by simp [upd, hs0, hs6])]; first | rfl | simp [go_sem]) fun F3 => ?_
  refine lyp F3 rfl hC rfl (by omega) (wanted_none rfl) (v := Value.pointer (some ⟨pb, 9, none⟩)) (fun wr hwr => by simp only [execOp, (F3.eval 50 (by omega)).trans (show _ = Value.pointer (some ⟨pb, 0, none⟩) from by simp [upd, hs0, hs6])]; first | rfl | simp [go_sem]) fun F4 => ?_
  refine lyp F4 rfl hC rfl (by omega) (wanted_none rfl) (v := Value.int .i64 s.size) (fun wr hwr => by simp only [execOp, (F4.eval 51 (by omega)).trans (show _ = Value.pointer (some ⟨pb, 9, none⟩) from by simp [upd, hs0, hs6])]; simp [go_sem, (show wr.cell? ⟨pb, 9, none⟩ = some (Value.int .i64 s.size) from (World.cell?_of_block (w := W2) hwr.1).trans (c9))]) fun F5 => ?_
  refine lyp F5 rfl hC rfl (by omega) (wanted_none rfl) (v := Value.pointer (some ⟨w.heap.size, 2, none⟩)) (fun wr hwr => by simp only [execOp, (F5.eval 6 (by omega)).trans (show _ = Value.pointer (some ⟨w.heap.size, 0, none⟩) from by simp [upd, hs0, hs6])]; first | rfl | simp [go_sem]) fun F6 => ?_
  refine lyp F6 rfl hC rfl (by omega) (wanted_none rfl) (v := Value.slice xo bs.length xc) (fun wr hwr => by simp only [execOp, (F6.eval 53 (by omega)).trans (show _ = Value.pointer (some ⟨w.heap.size, 2, none⟩) from by simp [upd, hs0, hs6])]; simp [go_sem, (show wr.cell? ⟨w.heap.size, 2, none⟩ = some (Value.slice xo bs.length xc) from (World.cell?_of_block (w := W2) hwr.2).trans (b2))]) fun F7 => ?_
  refine lyp F7 rfl hC rfl (by omega) (wanted_none rfl) (v := Value.int .i64 (bs.length : Nat)) (fun wr hwr => by simp only [execOp, resolve, invoke, builtin, List.map_toArray, List.map_cons, List.map_nil, (F7.eval 54 (by omega)).trans (show _ = Value.slice xo bs.length xc from by simp [upd, hs0, hs6])]; simp [go_sem, Builtin.len_, Builtin.lenOf]) fun F8 => ?_
  refine lyp F8 rfl hC rfl (by omega) (wanted_none rfl) (v := Value.int .i64 (s.size + bs.length)) (fun wr hwr => by simp only [execOp, (F8.eval 52 (by omega)).trans (show _ = Value.int .i64 s.size from by simp [upd, hs0, hs6]), (F8.eval 55 (by omega)).trans (show _ = Value.int .i64 (bs.length : Nat) from by simp [upd, hs0, hs6])]; simp [go_sem, Act.eval]; rw [IntKind.wrap_i64]; omega) fun F9 => ?_
  refine lyp F9 rfl hC rfl (by omega) (wanted_none rfl) (v := Value.pointer (some ⟨pb, 0, none⟩)) (fun wr hwr => by simp only [execOp, (F9.eval 48 (by omega)).trans (show _ = Value.pointer (some ⟨pb, 0, none⟩) from by simp [upd, hs0, hs6])]; first | rfl | simp [go_sem]) fun F10 => ?_
  refine lyp F10 rfl hC rfl (by omega) (wanted_none rfl) (v := Value.pointer (some ⟨pb, 9, none⟩)) (fun wr hwr => by simp only [execOp, (F10.eval 57 (by omega)).trans (show _ = Value.pointer (some ⟨pb, 0, none⟩) from by simp [upd, hs0, hs6])]; first | rfl | simp [go_sem]) fun F11 => ?_
  have z9 : W3.frozen? ⟨pb, 9, none⟩ = false := hL3.frozen 9
  have y9 : W3.cell? ⟨pb, 9, none⟩ = some (.int .i64 s.size) := (World.cell?_of_block (w := W2) hC.1).trans c9
  refine lst rfl hC rfl (wanted_none rfl) (w1 := W3.setCell ⟨pb, 9, none⟩ (.int .i64 (s.size + bs.length))) (by simp only [execOp, (F11.eval 58 (by omega)).trans (show _ = Value.pointer (some ⟨pb, 9, none⟩) from by simp [upd, hs0, hs6]), (F11.eval 56 (by omega)).trans (show _ = Value.int .i64 (s.size + bs.length) from by simp [upd, hs0, hs6])]; simp [go_sem, z9, y9]) ?_
  have hL4 := hL3.setSize (s.size + bs.length)
  refine ⟨fun h => by omega, ?_⟩
  refine hK _ _ ?_
  clear F0 F1 F2 F3 F4 F5 F6 F7 F8 F9 F10 F11 hs0 hs6 hC c8 c9 b2 z9 y9 hL2 hL3
  simp only [Act.put, List.setIfInBounds_toArray, List.set_cons_succ, List.set_cons_zero]
  generalize (W3.setCell ⟨pb, 9, none⟩ (.int .i64 (s.size + bs.length))) = W4 at *
  obtain ⟨s4, hs4⟩ : ∃ s4, s4 = ({ s2 with size := s.size + bs.length } : PS) := ⟨_, rfl⟩
  rw [← hs4] at hL4
  have hf4 : s4.fl = [⟨.slice xo bs.length xc, bs⟩] := by rw [hs4, hs2]; exact hf
  have hls4 : s4.ls.length ≤ n := by rw [hs4, hs2]; exact hc.ls
  have hws4 : s4.ws.length ≤ n := by rw [hs4, hs2]; show s.ws.length ≤ n; rw [hF.same, List.length_map]; exact hc.ls
  go_wp2_with fail
  have y6 : W4.cell? ⟨pb, 6, none⟩ = some s4.vf := hL4.cell 6
  have b2 : W4.cell? ⟨w.heap.size, 2, none⟩ = some (Value.slice xo bs.length xc) := hL4.bl.cell 2
  rename_i K hK
  try rw [show ∀ a : Act, a.put none undef = a from fun _ => rfl]
  refine wp_region_mix (fun wr => wr.heap[pb]? = W4.heap[pb]? ∧ wr.heap[w.heap.size]? = W4.heap[w.heap.size]?) (fun i => i == 7 || i == 8 || i == 11) 11 (by kernel_rfl) rfl (by kernel_rfl) (by kernel_rfl) (by kernel_rfl) ?_
  have hC : ({ W4 with drawn := W4.drawn + 1 } : World).heap[pb]? = W4.heap[pb]? ∧ ({ W4 with drawn := W4.drawn + 1 } : World).heap[w.heap.size]? = W4.heap[w.heap.size]? := ⟨rfl, rfl⟩
  have hL5 := hL4.drew
  generalize ({ W4 with drawn := W4.drawn + 1 } : World) = W5 at *
  have hLW : L ≤ W5.heap.size := Nat.le_trans hLw hL5.stp.size
  obtain ⟨g5, o5, c5, Wa5, hr, hT, ho, hg, hu⟩ := tailPut Try.underlying61 Try.info29 rfl hL5.inv.left (Value.slice xo bs.length xc) rfl (by omega) (by unfold maxLen; omega) hLW 61
  have hvm : s4.vf ∈ s4.vals := by simp [PS.vals, PS.part3]
  have hCa : (W5.alloc (.cells #[Value.slice xo bs.length xc] 29)).heap[pb]? = W4.heap[pb]? ∧ (W5.alloc (.cells #[Value.slice xo bs.length xc] 29)).heap[w.heap.size]? = W4.heap[w.heap.size]? := ⟨(Below.heap_alloc _ _ _ hL5.inv.pblt).trans hC.1, (Below.heap_alloc _ _ _ hL5.bl.lt).trans hC.2⟩
  have hCb : Wa5.heap[pb]? = W4.heap[pb]? ∧ Wa5.heap[w.heap.size]? = W4.heap[w.heap.size]? := ⟨(hg pb hL5.inv.pblt (fun e => (hL5.inv.notBox _ hvm pb e).1 rfl)).trans hC.1, (hg _ hL5.bl.lt (fun e => hL5.n1 (Or.inr (Or.inr (Or.inr (foot_of hvm e)))))).trans hC.2⟩
  refine withFrP (N := 175) rfl ?_
  intro f0 F0 hff
  have hs0 : f0 0 = Value.pointer (some ⟨pb, 0, none⟩) := hff 0
  have hs6 : f0 6 = Value.pointer (some ⟨w.heap.size, 0, none⟩) := hff 6
  clear hff
  refine lyp F0 rfl hC rfl (by omega) (wanted_none rfl) (v := Value.pointer (some ⟨pb, 0, none⟩)) (fun wr hwr => by simp only [execOp, (F0.eval 0 (by omega)).trans (show _ = Value.pointer (some ⟨pb, 0, none⟩) from by simp [upd, hs0, hs6])]; first | rfl | simp [go_sem]) fun F1 => ?_
  refine lyp F1 rfl hC rfl (by omega) (wanted_none rfl) (v := Value.pointer (some ⟨pb, 0, none⟩)) (fun wr hwr => by simp only [execOp, (F1.eval 0 (by omega)).trans (show _ = Value.pointer (some ⟨pb, 0, none⟩) from by simp [upd, hs0, hs6])]; first | rfl | simp [go_sem]) fun F2 => ?_
  refine lyp F2 rfl hC rfl (by omega) (wanted_none rfl) (v := Value.pointer (some ⟨pb, 0, none⟩)) (fun wr hwr => by simp only [execOp, (F2.eval 60 (by omega)).trans (show _ = Value.pointer (some ⟨pb, 0, none⟩) from by simp [upd, hs0, hs6])]; first | rfl | simp [go_sem]) fun F3 => ?_
  refine lyp F3 rfl hC rfl (by omega) (wanted_none rfl) (v := Value.pointer (some ⟨pb, 6, none⟩)) (fun wr hwr => by simp only [execOp, (F3.eval 61 (by omega)).trans (show _ = Value.pointer (some ⟨pb, 0, none⟩) from by simp [upd, hs0, hs6])]; first | rfl | simp [go_sem]) fun F4 => ?_
  refine lyp F4 rfl hC rfl (by omega) (wanted_none rfl) (v := s4.vf) (fun wr hwr => by simp only [execOp, (F4.eval 62 (by omega)).trans (show _ = Value.pointer (some ⟨pb, 6, none⟩) from by simp [upd, hs0, hs6])]; simp [go_sem, (show wr.cell? ⟨pb, 6, none⟩ = some (s4.vf) from (World.cell?_of_block (w := W4) hwr.1).trans (y6))]) fun F5 => ?_
  refine lyp F5 rfl hC rfl (by omega) (wanted_none rfl) (v := Value.pointer (some ⟨w.heap.size, 2, none⟩)) (fun wr hwr => by simp only [execOp, (F5.eval 6 (by omega)).trans (show _ = Value.pointer (some ⟨w.heap.size, 0, none⟩) from by simp [upd, hs0, hs6])]; first | rfl | simp [go_sem]) fun F6 => ?_
  refine lyp F6 rfl hC rfl (by omega) (wanted_none rfl) (v := Value.slice xo bs.length xc) (fun wr hwr => by simp only [execOp, (F6.eval 64 (by omega)).trans (show _ = Value.pointer (some ⟨w.heap.size, 2, none⟩) from by simp [upd, hs0, hs6])]; simp [go_sem, (show wr.cell? ⟨w.heap.size, 2, none⟩ = some (Value.slice xo bs.length xc) from (World.cell?_of_block (w := W4) hwr.2).trans (b2))]) fun F7 => ?_
  refine lep F7 rfl hC rfl (by omega) (wanted_none rfl) (v := Value.slice (some ⟨W5.heap.size, 0, none⟩) 1 1) (w1 := W5.alloc (.cells #[Value.slice xo bs.length xc] 29)) (by simp only [execOp, List.map_toArray, List.map_cons, List.map_nil, (F7.eval 65 (by omega)).trans (show _ = Value.slice xo bs.length xc from by simp [upd, hs0, hs6])]; simp [go_sem]) fun F8 => ?_
  refine lep F8 rfl hCa rfl (by omega) (wanted_none rfl) (v := Value.slice (some ⟨g5, o5, none⟩) (s4.ls.length + 1) c5) (w1 := Wa5) (by simp only [execOp, resolve, invoke, builtin, Sem.run_bind, Sem.run_pure, Result.andThen_ok, List.map_toArray, List.map_cons, List.map_nil, (F8.eval 63 (by omega)).trans (show _ = s4.vf from by simp [upd, hs0, hs6]), (F8.eval 66 (by omega)).trans (show _ = Value.slice (some ⟨W5.heap.size, 0, none⟩) 1 1 from by simp [upd, hs0, hs6]), hr]) fun F9 => ?_
  refine lyp F9 rfl hCb rfl (by omega) (wanted_none rfl) (v := Value.pointer (some ⟨pb, 0, none⟩)) (fun wr hwr => by simp only [execOp, (F9.eval 59 (by omega)).trans (show _ = Value.pointer (some ⟨pb, 0, none⟩) from by simp [upd, hs0, hs6])]; first | rfl | simp [go_sem]) fun F10 => ?_
  refine lyp F10 rfl hCb rfl (by omega) (wanted_none rfl) (v := Value.pointer (some ⟨pb, 6, none⟩)) (fun wr hwr => by simp only [execOp, (F10.eval 68 (by omega)).trans (show _ = Value.pointer (some ⟨pb, 0, none⟩) from by simp [upd, hs0, hs6])]; first | rfl | simp [go_sem]) fun F11 => ?_
  have zz : Wa5.frozen? ⟨pb, 6, none⟩ = false := by have hb := (hCb.1.trans hC.1.symm).trans hL5.inv.box; simp [World.frozen?, hb]
  have yy : Wa5.cell? ⟨pb, 6, none⟩ = some s4.vf := (World.cell?_of_block (hCb.1.trans hC.1.symm)).trans (hL5.cell 6)
  refine lst rfl hCb rfl (wanted_none rfl) (w1 := Wa5.setCell ⟨pb, 6, none⟩ (Value.slice (some ⟨g5, o5, none⟩) (s4.ls.length + 1) c5)) (by simp only [execOp, (F11.eval 69 (by omega)).trans (show _ = Value.pointer (some ⟨pb, 6, none⟩) from by simp [upd, hs0, hs6]), (F11.eval 67 (by omega)).trans (show _ = Value.slice (some ⟨g5, o5, none⟩) (s4.ls.length + 1) c5 from by simp [upd, hs0, hs6])]; simp [go_sem, zz, yy]) ?_
  have hL6 := hL5.putLeft hf4 (u' := Value.slice (some ⟨g5, o5, none⟩) (s4.ls.length + 1) c5) (by simpa using hT) ho hg (fun j hj => by have e : g5 = j := Option.some.inj hj; rw [← e]; exact hu)
  refine ⟨fun h => by omega, ?_⟩
  refine hK _ _ ?_
  clear F0 F1 F2 F3 F4 F5 F6 F7 F8 F9 F10 F11 hs0 hs6 hC hCa hCb hr hT ho hg hu y6 b2 zz yy hL4 hL5 hvm hLW
  simp only [Act.put, List.setIfInBounds_toArray, List.set_cons_succ, List.set_cons_zero]
  generalize (Wa5.setCell ⟨pb, 6, none⟩ (Value.slice (some ⟨g5, o5, none⟩) (s4.ls.length + 1) c5)) = W6 at *
  obtain ⟨s6, hs6⟩ : ∃ s6, s6 = ({ s4 with vf := Value.slice (some ⟨g5, o5, none⟩) (s4.ls.length + 1) c5, ls := s4.ls ++ [⟨.slice xo bs.length xc, bs⟩], fl := [] } : PS) := ⟨_, rfl⟩
  rw [← hs6] at hL6
  have hws6 : s6.ws.length ≤ n := by rw [hs6]; exact hws4
  have hrow6 : W6.ownsRow L 5 1 (.slice xo bs.length xc) bs.length (bs.map B) := hL6.inv.lefts ⟨.slice xo bs.length xc, bs⟩ (by rw [hs6]; simp)
  have hfr6 : From W6 xo bs := by obtain ⟨_, _, ee, _, _, q, _⟩ := own_from hrow6; cases ee; exact q
  go_wp2_with fail
  have y7 : W6.cell? ⟨pb, 7, none⟩ = some s6.vw := hL6.cell 7
  have b2 : W6.cell? ⟨w.heap.size, 2, none⟩ = some (Value.slice xo bs.length xc) := hL6.bl.cell 2
  rename_i K hK
  try rw [show ∀ a : Act, a.put none undef = a from fun _ => rfl]
  refine wp_region_mix (fun wr => wr.heap[pb]? = W6.heap[pb]? ∧ wr.heap[w.heap.size]? = W6.heap[w.heap.size]? ∧ From wr xo bs) (fun i => i == 8 || i == 9 || i == 12) 12 (by kernel_rfl) rfl (by kernel_rfl) (by kernel_rfl) (by kernel_rfl) ?_
  have hC : ({ W6 with drawn := W6.drawn + 1 } : World).heap[pb]? = W6.heap[pb]? ∧ ({ W6 with drawn := W6.drawn + 1 } : World).heap[w.heap.size]? = W6.heap[w.heap.size]? ∧ From ({ W6 with drawn := W6.drawn + 1 } : World) xo bs := ⟨rfl, rfl, hfr6.keep fun _ _ _ => rfl⟩
  have hL7 := hL6.drew
  generalize ({ W6 with drawn := W6.drawn + 1 } : World) = W7 at *
  have hLW : L ≤ W7.heap.size := Nat.le_trans hLw hL7.stp.size
  obtain ⟨g7, o7, c7, Wa7, hr, hT, ho, hg, hu⟩ := tailPut Try.underlying63 Try.info9 rfl hL7.inv.were (Str bs) rfl (by omega) (by unfold maxLen; omega) hLW 63
  have hvm : s6.vw ∈ s6.vals := by simp [PS.vals, PS.part3]
  have hCa : (W7.alloc (.cells #[Str bs] 9)).heap[pb]? = W6.heap[pb]? ∧ (W7.alloc (.cells #[Str bs] 9)).heap[w.heap.size]? = W6.heap[w.heap.size]? ∧ From (W7.alloc (.cells #[Str bs] 9)) xo bs := ⟨(Below.heap_alloc _ _ _ hL7.inv.pblt).trans hC.1, (Below.heap_alloc _ _ _ hL7.bl.lt).trans hC.2.1, hC.2.2.alloc _⟩
  have hrow6' : W7.ownsRow L 5 1 (.slice xo bs.length xc) bs.length (bs.map B) := hL7.inv.lefts ⟨.slice xo bs.length xc, bs⟩ (by rw [hs6]; simp)
  have hCb : Wa7.heap[pb]? = W6.heap[pb]? ∧ Wa7.heap[w.heap.size]? = W6.heap[w.heap.size]? ∧ From Wa7 xo bs := ⟨(hg pb hL7.inv.pblt (fun e => (hL7.inv.notBox _ hvm pb e).1 rfl)).trans hC.1, (hg _ hL7.bl.lt (fun e => hL7.n1 (Or.inr (Or.inr (Or.inr (foot_of hvm e)))))).trans hC.2.1, hC.2.2.keep fun b off e => hg b (hrow6'.lt b (by rw [e]; rfl)).2 (by obtain ⟨cur, hcur⟩ := ownsRow_type hrow6' (g := b) (by rw [e]; rfl); exact tail_ne hL7.inv.were hcur (by decide))⟩
  refine withFrP (N := 175) rfl ?_
  intro f0 F0 hff
  have hs0 : f0 0 = Value.pointer (some ⟨pb, 0, none⟩) := hff 0
  have hs6 : f0 6 = Value.pointer (some ⟨w.heap.size, 0, none⟩) := hff 6
  clear hff
  refine lyp F0 rfl hC rfl (by omega) (wanted_none rfl) (v := Value.pointer (some ⟨pb, 0, none⟩)) (fun wr hwr => by simp only [execOp, (F0.eval 0 (by omega)).trans (show _ = Value.pointer (some ⟨pb, 0, none⟩) from by simp [upd, hs0, hs6])]; first | rfl | simp [go_sem]) fun F1 => ?_
  refine lyp F1 rfl hC rfl (by omega) (wanted_none rfl) (v := Value.pointer (some ⟨pb, 0, none⟩)) (fun wr hwr => by simp only [execOp, (F1.eval 0 (by omega)).trans (show _ = Value.pointer (some ⟨pb, 0, none⟩) from by simp [upd, hs0, hs6])]; first | rfl | simp [go_sem]) fun F2 => ?_
  refine lyp F2 rfl hC rfl (by omega) (wanted_none rfl) (v := Value.pointer (some ⟨pb, 0, none⟩)) (fun wr hwr => by simp only [execOp, (F2.eval 71 (by omega)).trans (show _ = Value.pointer (some ⟨pb, 0, none⟩) from by simp [upd, hs0, hs6])]; first | rfl | simp [go_sem]) fun F3 => ?_
  refine lyp F3 rfl hC rfl (by omega) (wanted_none rfl) (v := Value.pointer (some ⟨pb, 7, none⟩)) (fun wr hwr => by simp only [execOp, (F3.eval 72 (by omega)).trans (show _ = Value.pointer (some ⟨pb, 0, none⟩) from by simp [upd, hs0, hs6])]; first | rfl | simp [go_sem]) fun F4 => ?_
  refine lyp F4 rfl hC rfl (by omega) (wanted_none rfl) (v := s6.vw) (fun wr hwr => by simp only [execOp, (F4.eval 73 (by omega)).trans (show _ = Value.pointer (some ⟨pb, 7, none⟩) from by simp [upd, hs0, hs6])]; simp [go_sem, (show wr.cell? ⟨pb, 7, none⟩ = some (s6.vw) from (World.cell?_of_block (w := W6) hwr.1).trans (y7))]) fun F5 => ?_
  refine lyp F5 rfl hC rfl (by omega) (wanted_none rfl) (v := Value.pointer (some ⟨w.heap.size, 2, none⟩)) (fun wr hwr => by simp only [execOp, (F5.eval 6 (by omega)).trans (show _ = Value.pointer (some ⟨w.heap.size, 0, none⟩) from by simp [upd, hs0, hs6])]; first | rfl | simp [go_sem]) fun F6 => ?_
  refine lyp F6 rfl hC rfl (by omega) (wanted_none rfl) (v := Value.slice xo bs.length xc) (fun wr hwr => by simp only [execOp, (F6.eval 75 (by omega)).trans (show _ = Value.pointer (some ⟨w.heap.size, 2, none⟩) from by simp [upd, hs0, hs6])]; simp [go_sem, (show wr.cell? ⟨w.heap.size, 2, none⟩ = some (Value.slice xo bs.length xc) from (World.cell?_of_block (w := W6) hwr.2.1).trans (b2))]) fun F7 => ?_
  refine lyp F7 rfl hC rfl (by omega) (wanted_none rfl) (v := Str bs) (fun wr hwr => by simp only [execOp, (F7.eval 76 (by omega)).trans (show _ = Value.slice xo bs.length xc from by simp [upd, hs0, hs6]), Sem.run_bind, conv_run wr xo bs.length xc bs rfl hwr.2.2, Result.andThen_ok, Sem.run_pure]; rfl) fun F8 => ?_
  refine lep F8 rfl hC rfl (by omega) (wanted_none rfl) (v := Value.slice (some ⟨W7.heap.size, 0, none⟩) 1 1) (w1 := W7.alloc (.cells #[Str bs] 9)) (by simp only [execOp, List.map_toArray, List.map_cons, List.map_nil, (F8.eval 77 (by omega)).trans (show _ = Str bs from by simp [upd, hs0, hs6])]; simp [go_sem, Str]) fun F9 => ?_
  refine lep F9 rfl hCa rfl (by omega) (wanted_none rfl) (v := Value.slice (some ⟨g7, o7, none⟩) (s6.ws.length + 1) c7) (w1 := Wa7) (by simp only [execOp, resolve, invoke, builtin, Sem.run_bind, Sem.run_pure, Result.andThen_ok, List.map_toArray, List.map_cons, List.map_nil, (F9.eval 74 (by omega)).trans (show _ = s6.vw from by simp [upd, hs0, hs6]), (F9.eval 78 (by omega)).trans (show _ = Value.slice (some ⟨W7.heap.size, 0, none⟩) 1 1 from by simp [upd, hs0, hs6]), hr]) fun F10 => ?_
  refine lyp F10 rfl hCb rfl (by omega) (wanted_none rfl) (v := Value.pointer (some ⟨pb, 0, none⟩)) (fun wr hwr => by simp only [execOp, (F10.eval 70 (by omega)).trans (show _ = Value.pointer (some ⟨pb, 0, none⟩) from by simp [upd, hs0, hs6])]; first | rfl | simp [go_sem]) fun F11 => ?_
  refine lyp F11 rfl hCb rfl (by omega) (wanted_none rfl) (v := Value.pointer (some ⟨pb, 7, none⟩)) (fun wr hwr => by simp only [execOp, (F11.eval 80 (by omega)).trans (show _ = Value.pointer (some ⟨pb, 0, none⟩) from by simp [upd, hs0, hs6])]; first | rfl | simp [go_sem]) fun F12 => ?_
  have zz : Wa7.frozen? ⟨pb, 7, none⟩ = false := by have hb := (hCb.1.trans hC.1.symm).trans hL7.inv.box; simp [World.frozen?, hb]
  have yy : Wa7.cell? ⟨pb, 7, none⟩ = some s6.vw := (World.cell?_of_block (hCb.1.trans hC.1.symm)).trans (hL7.cell 7)
  refine lst rfl hCb rfl (wanted_none rfl) (w1 := Wa7.setCell ⟨pb, 7, none⟩ (Value.slice (some ⟨g7, o7, none⟩) (s6.ws.length + 1) c7)) (by simp only [execOp, (F12.eval 81 (by omega)).trans (show _ = Value.pointer (some ⟨pb, 7, none⟩) from by simp [upd, hs0, hs6]), (F12.eval 79 (by omega)).trans (show _ = Value.slice (some ⟨g7, o7, none⟩) (s6.ws.length + 1) c7 from by simp [upd, hs0, hs6])]; simp [go_sem, zz, yy]) ?_
  have hL8 := hL7.putWere (u' := Value.slice (some ⟨g7, o7, none⟩) (s6.ws.length + 1) c7) (ws' := s6.ws ++ [bs]) (by simpa using hT) ho hg (fun j hj => by have e : g7 = j := Option.some.inj hj; rw [← e]; exact hu)
  refine ⟨fun h => by omega, ?_⟩
  refine hK _ _ ?_
  clear F0 F1 F2 F3 F4 F5 F6 F7 F8 F9 F10 F11 F12 hs0 hs6 hC hCa hCb hr hT ho hg hu y7 b2 zz yy hL6 hL7 hvm hLW
  simp only [Act.put, List.setIfInBounds_toArray, List.set_cons_succ, List.set_cons_zero]
  generalize (Wa7.setCell ⟨pb, 7, none⟩ (Value.slice (some ⟨g7, o7, none⟩) (s6.ws.length + 1) c7)) = W8 at *
  go_wp2_with fail
  go_ret
  have hcl := hc.ls
  have hm0 := hc.m0
  have hm1 := hc.m1
  subst hs6
  subst hs4
  subst hs2
  refine ⟨rfl, _, ⟨hL8.inv, ⟨hF.lens, hF.full, hF.few, hF.short, ?_⟩, ⟨?_, ?_, hm0, ?_, ?_, ?_, ?_, ?_⟩, hL8.stp, rfl, rfl, rfl⟩⟩
  · show s.ws ++ [bs] = (s.ls ++ [_]).map Dat.bs
    rw [hF.same, List.map_append]
    rfl
  · show 0 ≤ s.turns + 1
    omega
  · show s.turns + 1 ≤ ((n + 1 : Nat) : Int)
    omega
  · show s.mark ≤ ((n + 1 : Nat) : Int)
    omega
  · show 0 ≤ s.size + (bs.length : Int)
    omega
  · show s.size + (bs.length : Int) ≤ 4194304
    omega
  · show (s.ls ++ [_]).length ≤ n + 1
    simp
    exact hcl
  · intro y hy
    rcases List.mem_append.1 hy with q | q
    · exact hc.small y q
    · simp only [List.mem_singleton] at q
      subst q
      exact hx
end Go.Proofs.Ytehjdkdoalmaeaa
