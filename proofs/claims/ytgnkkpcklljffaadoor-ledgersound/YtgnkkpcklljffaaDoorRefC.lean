import Derived.Test.YtgnkkpcklljffaaDoorRefB
namespace Go.Proofs.YtgnkkpcklljffaaDoor
open Go.RowKit Go.PlainAid
set_option linter.unusedVariables false
set_option linter.unusedSimpArgs false
theorem Stq.more {hb : Nat} {w v z : World} (h : Stq hb w v) (k : Below w.heap.size v z) : Stq hb w z :=
  ⟨k.os.trans h.os, k.tape.trans h.tape, k.output.trans h.output, Nat.le_trans h.size k.size, fun j hj hn => (k.block j hj).trans (h.block j hj hn)⟩
/-- From which kind, to which. -/
def fromOf (kind : Int) : Nat := if kind = 1 then 0 else if kind = 2 then 1 else if kind = 3 then 0 else 2
def toOf (kind : Int) : Nat := if kind = 1 then 1 else if kind = 2 then 0 else if kind = 3 then 2 else if kind = 4 then 0 else 1
set_option maxRecDepth 100000 in
set_option maxHeartbeats 1600000 in
theorem turned_any {S : Sens} {L hb : Nat} {s : LS} (w : World) (hS : Sen S L w) (h : Blk w hb s.cs 62) (ho : s.Ok) (hL : L ≤ hb) (kind k : Int) :
    Calls Tryd.prog 23 #[.pointer (some ⟨hb, 0, none⟩), .int .i64 kind, .int .i64 k] w fun r w' => r = .returned (.int .i64 (s.tcode (fromOf kind) k)) ∧ Blk w' hb (s.tnext (fromOf kind) (toOf kind) k).cs 62 ∧ Stq hb w w' := by
  by_cases h1 : kind = 1
  · rw [show fromOf kind = 0 from by simp [fromOf, h1], show toOf kind = 1 from by simp [toOf, h1]]
    subst h1
    have hc := dec_any w hS h ho hL k
    generalize s.tcode 0 k = ec at *
    generalize (s.tnext 0 1 k).cs = C at *
    clear hS h ho
    go_enter Tryd.func23, Tryd.ntmps23
    go_wp2_with fail
    refine hc.mono ?_
    rintro e1 w1 ⟨rfl, hB, hT⟩
    have HB : Hid _ := hB
    have HT : Hid _ := hT
    clear hB hT hc
    go_wp2_with fail
    go_ret
    exact ⟨rfl, HB.out, HT.out⟩
  · by_cases h2 : kind = 2
    · rw [show fromOf kind = 1 from by simp [fromOf, h1, h2], show toOf kind = 0 from by simp [toOf, h1, h2]]
      subst h2
      have hc := inc_any w hS h ho hL k
      generalize s.tcode 1 k = ec at *
      generalize (s.tnext 1 0 k).cs = C at *
      clear hS h ho
      go_enter Tryd.func23, Tryd.ntmps23
      go_wp2_with fail
      refine hc.mono ?_
      rintro e1 w1 ⟨rfl, hB, hT⟩
      have HB : Hid _ := hB
      have HT : Hid _ := hT
      clear hB hT hc
      go_wp2_with fail
      go_ret
      exact ⟨rfl, HB.out, HT.out⟩
    · by_cases h3 : kind = 3
      · rw [show fromOf kind = 0 from by simp [fromOf, h1, h2, h3], show toOf kind = 2 from by simp [toOf, h1, h2, h3]]
        subst h3
        have hc := lock_any w hS h ho hL k
        generalize s.tcode 0 k = ec at *
        generalize (s.tnext 0 2 k).cs = C at *
        clear hS h ho
        go_enter Tryd.func23, Tryd.ntmps23
        go_wp2_with fail
        refine hc.mono ?_
        rintro e1 w1 ⟨rfl, hB, hT⟩
        have HB : Hid _ := hB
        have HT : Hid _ := hT
        clear hB hT hc
        go_wp2_with fail
        go_ret
        exact ⟨rfl, HB.out, HT.out⟩
      · by_cases h4 : kind = 4
        · rw [show fromOf kind = 2 from by simp [fromOf, h1, h2, h3, h4], show toOf kind = 0 from by simp [toOf, h1, h2, h3, h4]]
          subst h4
          have hc := free_any w hS h ho hL k
          generalize s.tcode 2 k = ec at *
          generalize (s.tnext 2 0 k).cs = C at *
          clear hS h ho
          go_enter Tryd.func23, Tryd.ntmps23
          go_wp2_with fail
          refine hc.mono ?_
          rintro e1 w1 ⟨rfl, hB, hT⟩
          have HB : Hid _ := hB
          have HT : Hid _ := hT
          clear hB hT hc
          go_wp2_with fail
          go_ret
          exact ⟨rfl, HB.out, HT.out⟩
        · rw [show fromOf kind = 2 from by simp [fromOf, h1, h2, h3, h4], show toOf kind = 1 from by simp [toOf, h1, h2, h3, h4]]
          have hc := burn_any w hS h ho hL k
          generalize s.tcode 2 k = ec at *
          generalize (s.tnext 2 1 k).cs = C at *
          clear hS h ho
          go_enter Tryd.func23, Tryd.ntmps23
          go_wp2_with fail
          refine hc.mono ?_
          rintro e1 w1 ⟨rfl, hB, hT⟩
          have HB : Hid _ := hB
          have HT : Hid _ := hT
          clear hB hT hc
          go_wp2_with fail
          go_ret
          exact ⟨rfl, HB.out, HT.out⟩
set_option maxRecDepth 100000 in
set_option maxHeartbeats 1600000 in
theorem rTurn_any {hb : Nat} {s : LS} (w : World) (h : Blk w hb s.cs 81) (ho : s.Ok) (kind k : Int) :
    Calls Tryd.prog 46 #[.pointer (some ⟨hb, 0, none⟩), .int .i64 kind, .int .i64 k] w fun r w' => r = .returned (.int .i64 (s.tcode (fromOf kind) k)) ∧ Blk w' hb (s.tnext (fromOf kind) (toOf kind) k).cs 81 ∧ Stq hb w w' := by
  by_cases h1 : kind = 1
  · rw [show fromOf kind = 0 from by simp [fromOf, h1], show toOf kind = 1 from by simp [toOf, h1]]
    subst h1
    have hc := rturn_any (i := 0) (j := 1) w h ho (by omega) (by omega) (by omega) k
    generalize s.tcode 0 k = ec at *
    generalize (s.tnext 0 1 k).cs = C at *
    clear h ho
    go_enter Tryd.func46, Tryd.ntmps46
    go_wp2_with fail
    refine hc.mono ?_
    rintro e1 w1 ⟨rfl, hB, hT⟩
    have HB : Hid _ := hB
    have HT : Hid _ := hT
    clear hB hT hc
    go_wp2_with fail
    go_ret
    exact ⟨rfl, HB.out, HT.out⟩
  · by_cases h2 : kind = 2
    · rw [show fromOf kind = 1 from by simp [fromOf, h1, h2], show toOf kind = 0 from by simp [toOf, h1, h2]]
      subst h2
      have hc := rturn_any (i := 1) (j := 0) w h ho (by omega) (by omega) (by omega) k
      generalize s.tcode 1 k = ec at *
      generalize (s.tnext 1 0 k).cs = C at *
      clear h ho
      go_enter Tryd.func46, Tryd.ntmps46
      go_wp2_with fail
      refine hc.mono ?_
      rintro e1 w1 ⟨rfl, hB, hT⟩
      have HB : Hid _ := hB
      have HT : Hid _ := hT
      clear hB hT hc
      go_wp2_with fail
      go_ret
      exact ⟨rfl, HB.out, HT.out⟩
    · by_cases h3 : kind = 3
      · rw [show fromOf kind = 0 from by simp [fromOf, h1, h2, h3], show toOf kind = 2 from by simp [toOf, h1, h2, h3]]
        subst h3
        have hc := rturn_any (i := 0) (j := 2) w h ho (by omega) (by omega) (by omega) k
        generalize s.tcode 0 k = ec at *
        generalize (s.tnext 0 2 k).cs = C at *
        clear h ho
        go_enter Tryd.func46, Tryd.ntmps46
        go_wp2_with fail
        refine hc.mono ?_
        rintro e1 w1 ⟨rfl, hB, hT⟩
        have HB : Hid _ := hB
        have HT : Hid _ := hT
        clear hB hT hc
        go_wp2_with fail
        go_ret
        exact ⟨rfl, HB.out, HT.out⟩
      · by_cases h4 : kind = 4
        · rw [show fromOf kind = 2 from by simp [fromOf, h1, h2, h3, h4], show toOf kind = 0 from by simp [toOf, h1, h2, h3, h4]]
          subst h4
          have hc := rturn_any (i := 2) (j := 0) w h ho (by omega) (by omega) (by omega) k
          generalize s.tcode 2 k = ec at *
          generalize (s.tnext 2 0 k).cs = C at *
          clear h ho
          go_enter Tryd.func46, Tryd.ntmps46
          go_wp2_with fail
          refine hc.mono ?_
          rintro e1 w1 ⟨rfl, hB, hT⟩
          have HB : Hid _ := hB
          have HT : Hid _ := hT
          clear hB hT hc
          go_wp2_with fail
          go_ret
          exact ⟨rfl, HB.out, HT.out⟩
        · rw [show fromOf kind = 2 from by simp [fromOf, h1, h2, h3, h4], show toOf kind = 1 from by simp [toOf, h1, h2, h3, h4]]
          have hc := rturn_any (i := 2) (j := 1) w h ho (by omega) (by omega) (by omega) k
          generalize s.tcode 2 k = ec at *
          generalize (s.tnext 2 1 k).cs = C at *
          clear h ho
          go_enter Tryd.func46, Tryd.ntmps46
          go_wp2_with fail
          refine hc.mono ?_
          rintro e1 w1 ⟨rfl, hB, hT⟩
          have HB : Hid _ := hB
          have HT : Hid _ := hT
          clear hB hT hc
          go_wp2_with fail
          go_ret
          exact ⟨rfl, HB.out, HT.out⟩
theorem from_lt (kind : Int) : fromOf kind < 3 := by
  unfold fromOf
  repeat' split
  all_goals omega
theorem to_lt (kind : Int) : toOf kind < 3 := by
  unfold toOf
  repeat' split
  all_goals omega
theorem fromto (kind : Int) : fromOf kind ≠ toOf kind := by
  unfold fromOf toOf
  by_cases h1 : kind = 1
  · simp [h1]
  · by_cases h2 : kind = 2
    · simp [h2]
    · by_cases h3 : kind = 3
      · simp [h3]
      · by_cases h4 : kind = 4
        · simp [h4]
        · simp [h1, h2, h3, h4]
set_option maxRecDepth 100000 in
set_option maxHeartbeats 800000 in
theorem same_any (a b c d : Int) (w : World) : Calls Tryd.prog 15 #[.agg #[.int .i64 a, .int .i64 b], .agg #[.int .i64 c, .int .i64 d]] w fun r w' => r = .returned (.bool (a == c && b == d)) ∧ Below w.heap.size w w' := by
  have hgr : Below w.heap.size w ((w.alloc (.cells #[.int .i64 a, .int .i64 b] 29)).alloc (.cells #[.int .i64 c, .int .i64 d] 29)) := by go_grown
  have HG : Hid _ := hgr
  clear hgr
  by_cases h1 : a = c
  · subst h1
    go_enter Tryd.func15, Tryd.ntmps15
    go_wp2
    go_ret
    exact ⟨ret_bool (by simp), HG.out⟩
  · go_enter Tryd.func15, Tryd.ntmps15
    go_wp2
    go_ret
    exact ⟨ret_bool (by simp [h1]), HG.out⟩
set_option maxRecDepth 100000 in
set_option maxHeartbeats 1600000 in
theorem rrights_any {hb : Nat} {s : LS} (w : World) (h : Blk w hb s.cs 81) :
    Calls Tryd.prog 53 #[.pointer (some ⟨hb, 0, none⟩)] w fun r w' => r = .returned (.agg #[.int .i64 s.d, .int .i64 s.u]) ∧ Below w.heap.size w w' := by
  have hgr : Below w.heap.size w (w.alloc (.cells #[.int .i64 0, .int .i64 0] 29)) := by go_grown
  have hB1 : Blk (w.alloc (.cells #[.int .i64 0, .int .i64 0] 29)) hb s.cs 81 := h.below hgr h.lt
  have hBn : Blk (w.alloc (.cells #[.int .i64 0, .int .i64 0] 29)) w.heap.size #[.int .i64 0, .int .i64 0] 29 := heap_alloc_new w _
  obtain ⟨d, u, x, c, n⟩ := s
  simp only
  have HG : Hid _ := hgr
  have HB1 : Hid _ := hB1
  have HBn : Hid _ := hBn
  clear hgr hB1 hBn h
  go_enter Tryd.func53, Tryd.ntmps53
  go_wp2_with fail
  rename_i K hK
  try rw [show ∀ a : Act, a.put none undef = a from fun _ => rfl]
  have hX : Blk ({ (w.alloc (.cells #[.int .i64 0, .int .i64 0] 29)) with drawn := (w.alloc (.cells #[.int .i64 0, .int .i64 0] 29)).drawn + 1 } : World) hb (LS.mk d u x c n).cs 81 := HB1.out
  have hN : Blk ({ (w.alloc (.cells #[.int .i64 0, .int .i64 0] 29)) with drawn := (w.alloc (.cells #[.int .i64 0, .int .i64 0] 29)).drawn + 1 } : World) w.heap.size #[.int .i64 0, .int .i64 0] 29 := HBn.out
  have hQ : Below w.heap.size w ({ (w.alloc (.cells #[.int .i64 0, .int .i64 0] 29)) with drawn := (w.alloc (.cells #[.int .i64 0, .int .i64 0] 29)).drawn + 1 } : World) := ⟨HG.out.os, HG.out.tape, HG.out.output, HG.out.size, HG.out.block⟩
  refine wp_region_mix (fun wr => wr.heap = ({ (w.alloc (.cells #[.int .i64 0, .int .i64 0] 29)) with drawn := (w.alloc (.cells #[.int .i64 0, .int .i64 0] 29)).drawn + 1 } : World).heap) (fun i => i == 11) 11 (by kernel_rfl) rfl (by kernel_rfl) (by kernel_rfl) (by kernel_rfl) ?_
  generalize ({ (w.alloc (.cells #[.int .i64 0, .int .i64 0] 29)) with drawn := (w.alloc (.cells #[.int .i64 0, .int .i64 0] 29)).drawn + 1 } : World) = X at *
  have hC : X.heap = X.heap := rfl
  have hc0 : X.cell? ⟨hb, 0, none⟩ = some (.int .i64 d) := hX.cell 0
  have hc1 : X.cell? ⟨hb, 1, none⟩ = some (.int .i64 u) := hX.cell 1
  have hz0 := hN.frozen 0
  have hk0 : X.cell? ⟨w.heap.size, 0, none⟩ = some (.int .i64 0) := hN.cell 0
  have hN1 := hN.set 0 (.int .i64 d)
  have hz1 := hN1.frozen 1
  have hk1 : (X.setCell ⟨w.heap.size, 0, none⟩ (.int .i64 d)).cell? ⟨w.heap.size, 1, none⟩ = some (.int .i64 0) := hN1.cell 1
  refine withFrP (N := 14) rfl ?_
  intro f0 F0 hff
  have hs0 : f0 0 = Value.pointer (some ⟨hb, 0, none⟩) := hff 0
  have hs2 : f0 2 = Value.pointer (some ⟨w.heap.size, 0, none⟩) := hff 2
  clear hff
  refine lyp F0 rfl hC rfl (by omega) (wanted_none rfl) (v := Value.pointer (some ⟨hb, 0, none⟩)) (fun wr hwr => by simp only [execOp, (F0.eval 0 (by omega)).trans (show _ = Value.pointer (some ⟨hb, 0, none⟩) from by simp [upd, hs0, hs2])]; first | rfl | simp [go_sem]) fun F1 => ?_
  refine lyp F1 rfl hC rfl (by omega) (wanted_none rfl) (v := Value.pointer (some ⟨hb, 0, none⟩)) (fun wr hwr => by simp only [execOp, (F1.eval 3 (by omega)).trans (show _ = Value.pointer (some ⟨hb, 0, none⟩) from by simp [upd, hs0, hs2])]; first | rfl | simp [go_sem]) fun F2 => ?_
  refine lyp F2 rfl hC rfl (by omega) (wanted_none rfl) (v := Value.pointer (some ⟨hb, 0, none⟩)) (fun wr hwr => by simp only [execOp, (F2.eval 4 (by omega)).trans (show _ = Value.pointer (some ⟨hb, 0, none⟩) from by simp [upd, hs0, hs2])]; first | rfl | simp [go_sem]) fun F3 => ?_
  refine lyp F3 rfl hC rfl (by omega) (wanted_none rfl) (v := Value.pointer (some ⟨hb, 0, none⟩)) (fun wr hwr => by simp only [execOp, (F3.eval 5 (by omega)).trans (show _ = Value.pointer (some ⟨hb, 0, none⟩) from by simp [upd, hs0, hs2])]; simp [go_sem, Act.eval]) fun F4 => ?_
  refine lyp F4 rfl hC rfl (by omega) (wanted_none rfl) (v := Value.int .i64 d) (fun wr hwr => by simp only [execOp, (F4.eval 6 (by omega)).trans (show _ = Value.pointer (some ⟨hb, 0, none⟩) from by simp [upd, hs0, hs2])]; simp [go_sem, ((cell_heap hwr ⟨hb, 0, none⟩).trans hc0)]) fun F5 => ?_
  refine lyp F5 rfl hC rfl (by omega) (wanted_none rfl) (v := Value.pointer (some ⟨hb, 0, none⟩)) (fun wr hwr => by simp only [execOp, (F5.eval 0 (by omega)).trans (show _ = Value.pointer (some ⟨hb, 0, none⟩) from by simp [upd, hs0, hs2])]; first | rfl | simp [go_sem]) fun F6 => ?_
  refine lyp F6 rfl hC rfl (by omega) (wanted_none rfl) (v := Value.pointer (some ⟨hb, 0, none⟩)) (fun wr hwr => by simp only [execOp, (F6.eval 8 (by omega)).trans (show _ = Value.pointer (some ⟨hb, 0, none⟩) from by simp [upd, hs0, hs2])]; first | rfl | simp [go_sem]) fun F7 => ?_
  refine lyp F7 rfl hC rfl (by omega) (wanted_none rfl) (v := Value.pointer (some ⟨hb, 0, none⟩)) (fun wr hwr => by simp only [execOp, (F7.eval 9 (by omega)).trans (show _ = Value.pointer (some ⟨hb, 0, none⟩) from by simp [upd, hs0, hs2])]; first | rfl | simp [go_sem]) fun F8 => ?_
  refine lyp F8 rfl hC rfl (by omega) (wanted_none rfl) (v := Value.pointer (some ⟨hb, 1, none⟩)) (fun wr hwr => by simp only [execOp, (F8.eval 10 (by omega)).trans (show _ = Value.pointer (some ⟨hb, 0, none⟩) from by simp [upd, hs0, hs2])]; simp [go_sem, Act.eval]) fun F9 => ?_
  refine lyp F9 rfl hC rfl (by omega) (wanted_none rfl) (v := Value.int .i64 u) (fun wr hwr => by simp only [execOp, (F9.eval 11 (by omega)).trans (show _ = Value.pointer (some ⟨hb, 1, none⟩) from by simp [upd, hs0, hs2])]; simp [go_sem, ((cell_heap hwr ⟨hb, 1, none⟩).trans hc1)]) fun F10 => ?_
  refine lyp F10 rfl hC rfl (by omega) (wanted_none rfl) (v := Value.agg #[.int .i64 d, .int .i64 u]) (fun wr hwr => by simp only [execOp, List.map_toArray, List.map_cons, List.map_nil, (F10.eval 7 (by omega)).trans (show _ = Value.int .i64 d from by simp [upd, hs0, hs2]), (F10.eval 12 (by omega)).trans (show _ = Value.int .i64 u from by simp [upd, hs0, hs2])]; simp [go_sem, Act.eval, (F10.eval 7 (by omega)).trans (show _ = Value.int .i64 d from by simp [upd, hs0, hs2]), (F10.eval 12 (by omega)).trans (show _ = Value.int .i64 u from by simp [upd, hs0, hs2])]) fun F11 => ?_
  refine lst rfl hC rfl (wanted_none rfl) (w1 := (X.setCell ⟨w.heap.size, 0, none⟩ (.int .i64 d)).setCell ⟨w.heap.size, 1, none⟩ (.int .i64 u)) (by simp only [execOp, (F11.eval 2 (by omega)).trans (show _ = Value.pointer (some ⟨w.heap.size, 0, none⟩) from by simp [upd, hs0, hs2]), (F11.eval 13 (by omega)).trans (show _ = Value.agg #[.int .i64 d, .int .i64 u] from by simp [upd, hs0, hs2])]; simp [go_sem, hk0, hz0, hk1, hz1]) ?_
  have hE : Blk ((X.setCell ⟨w.heap.size, 0, none⟩ (.int .i64 d)).setCell ⟨w.heap.size, 1, none⟩ (.int .i64 u)) w.heap.size #[.int .i64 d, .int .i64 u] 29 := hN1.set 1 (.int .i64 u)
  have hL : Below w.heap.size w ((X.setCell ⟨w.heap.size, 0, none⟩ (.int .i64 d)).setCell ⟨w.heap.size, 1, none⟩ (.int .i64 u)) := (hQ.setCell (Nat.le_refl _) _).setCell (Nat.le_refl _) _
  generalize (X.setCell ⟨w.heap.size, 0, none⟩ (.int .i64 d)).setCell ⟨w.heap.size, 1, none⟩ (.int .i64 u) = Y at *
  refine ⟨fun h => by omega, ?_⟩
  refine hK _ _ ?_
  clear F0 F1 F2 F3 F4 F5 F6 F7 F8 F9 F10 F11 hs0 hs2 hK hC hc0 hc1 hz0 hk0 hz1 hk1 hN1 hN hX hQ HG HB1 HBn
  simp only [Act.put, List.setIfInBounds_toArray, List.set_cons_succ, List.set_cons_zero]
  have HE : Hid _ := hE
  have HL : Hid _ := hL
  clear hE hL
  go_wp2_with fail
  exact bodyPost_ret (results_cell_row Tryd.results53 _ _ (w.heap.size) 29 _ (0, 0) _ rfl HE.out Tryd.underlying29 rfl (by kernel_rfl)) rfl ⟨rfl, HL.out⟩
set_option maxRecDepth 100000 in
set_option maxHeartbeats 1600000 in
theorem rallOut_any {hb : Nat} {s : LS} (w : World) (h : Blk w hb s.cs 81) :
    Calls Tryd.prog 49 #[.pointer (some ⟨hb, 0, none⟩)] w fun r w' => r = .returned (.agg #[.int .i64 s.d, .int .i64 s.u]) ∧ Blk w' hb s.bare.cs 81 ∧ Stq hb w w' := by
  have hgr : Below w.heap.size w (w.alloc (.cells #[.int .i64 0, .int .i64 0] 29)) := by go_grown
  have hB1 : Blk (w.alloc (.cells #[.int .i64 0, .int .i64 0] 29)) hb s.cs 81 := h.below hgr h.lt
  have hr := rrights_any _ hB1
  have hN1 : Blk (w.alloc (.cells #[.int .i64 0, .int .i64 0] 29)) w.heap.size #[.int .i64 0, .int .i64 0] 29 := heap_alloc_new w _
  have hne : w.heap.size ≠ hb := Nat.ne_of_gt h.lt
  have HG : Hid _ := hgr
  have HB1 : Hid _ := hB1
  have HN1 : Hid _ := hN1
  clear hgr hB1 hN1 h
  obtain ⟨d, u, x, c, n⟩ := s
  go_enter Tryd.func49, Tryd.ntmps49
  go_wp2_with fail
  refine hr.mono ?_
  rintro e1 w1 ⟨rfl, hb1⟩
  have hB : Blk w1 hb (LS.mk d u x c n).cs 81 := Blk.below HB1.out hb1 (Blk.lt HB1.out)
  have hN : Blk w1 w.heap.size #[.int .i64 0, .int .i64 0] 29 := Blk.below HN1.out hb1 (Blk.lt HN1.out)
  have hq1 : Stq hb w w1 := (Stq.ofBelow HG.out).trans (Stq.ofBelow hb1)
  have hsz : w.heap.size < w1.heap.size := Blk.lt hN
  clear HG HB1 HN1 hb1 hr
  have hlt : hb < w1.heap.size := hB.lt
  have b0 : Blk (w1.alloc (.cells #[.int .i64 d, .int .i64 u] 29)) hb (LS.mk d u x c n).cs 81 := (Below.heap_alloc _ _ _ hlt).trans hB
  have c0 : (w1.alloc (.cells #[.int .i64 d, .int .i64 u] 29)).cell? ⟨hb, 0, none⟩ = some (.int .i64 d) := b0.cell 0
  have z0 := b0.frozen 0
  have hB2 := hB.set 0 (.int .i64 0)
  have hN2 : Blk (w1.setCell ⟨hb, 0, none⟩ (.int .i64 0)) w.heap.size #[.int .i64 0, .int .i64 0] 29 := (Stq.set hb 0 _ w1).blk hN hne
  have hq2 := hq1.trans (Stq.set hb 0 (.int .i64 0) w1)
  have b1 : Blk ((w1.setCell ⟨hb, 0, none⟩ (.int .i64 0)).alloc (.cells #[.int .i64 d, .int .i64 u] 29)) hb _ 81 := (Below.heap_alloc _ _ _ hB2.lt).trans hB2
  have c1 : ((w1.setCell ⟨hb, 0, none⟩ (.int .i64 0)).alloc (.cells #[.int .i64 d, .int .i64 u] 29)).cell? ⟨hb, 1, none⟩ = some (.int .i64 u) := b1.cell 1
  have z1 := b1.frozen 1
  have hB3 := hB2.set 1 (.int .i64 0)
  have hN3 : Blk ((w1.setCell ⟨hb, 0, none⟩ (.int .i64 0)).setCell ⟨hb, 1, none⟩ (.int .i64 0)) w.heap.size #[.int .i64 0, .int .i64 0] 29 := (Stq.set hb 1 _ _).blk hN2 hne
  have hq3 := hq2.trans (Stq.set hb 1 (.int .i64 0) _)
  have b2 : Blk (((w1.setCell ⟨hb, 0, none⟩ (.int .i64 0)).setCell ⟨hb, 1, none⟩ (.int .i64 0)).alloc (.cells #[.int .i64 d, .int .i64 u] 29)) w.heap.size #[.int .i64 0, .int .i64 0] 29 := (Below.heap_alloc _ _ _ hN3.lt).trans hN3
  have c2 : (((w1.setCell ⟨hb, 0, none⟩ (.int .i64 0)).setCell ⟨hb, 1, none⟩ (.int .i64 0)).alloc (.cells #[.int .i64 d, .int .i64 u] 29)).cell? ⟨w.heap.size, 0, none⟩ = some (.int .i64 0) := b2.cell 0
  have z2 := b2.frozen 0
  have hN4 := hN3.set 0 (.int .i64 d)
  have b3 : Blk ((((w1.setCell ⟨hb, 0, none⟩ (.int .i64 0)).setCell ⟨hb, 1, none⟩ (.int .i64 0)).setCell ⟨w.heap.size, 0, none⟩ (.int .i64 d)).alloc (.cells #[.int .i64 d, .int .i64 u] 29)) w.heap.size _ 29 := (Below.heap_alloc _ _ _ hN4.lt).trans hN4
  have c3 : ((((w1.setCell ⟨hb, 0, none⟩ (.int .i64 0)).setCell ⟨hb, 1, none⟩ (.int .i64 0)).setCell ⟨w.heap.size, 0, none⟩ (.int .i64 d)).alloc (.cells #[.int .i64 d, .int .i64 u] 29)).cell? ⟨w.heap.size, 1, none⟩ = some (.int .i64 0) := b3.cell 1
  have z3 := b3.frozen 1
  have hsz1 : w.heap.size ≠ w1.heap.size := Nat.ne_of_lt hsz
  have H3 : Hid _ := hB3
  have HN : Hid _ := hN3
  have HQ : Hid _ := hq3
  clear b0 b1 b2 b3 hB hN hB2 hN2 hq2 hB3 hN3 hq3 hN4 hq1
  go_wp2_with fail
  have hV : Blk ((w1.setCell ⟨hb, 0, none⟩ (.int .i64 0)).setCell ⟨hb, 1, none⟩ (.int .i64 0)) hb (LS.mk 0 0 x c n).cs 81 := H3.out
  have hN : Blk ((w1.setCell ⟨hb, 0, none⟩ (.int .i64 0)).setCell ⟨hb, 1, none⟩ (.int .i64 0)) w.heap.size #[.int .i64 0, .int .i64 0] 29 := HN.out
  have hQ := HQ.out
  generalize (w1.setCell ⟨hb, 0, none⟩ (.int .i64 0)).setCell ⟨hb, 1, none⟩ (.int .i64 0) = V at *
  have hN2 := (hN.set 0 (.int .i64 d)).set 1 (.int .i64 u)
  have hb2 : Below w.heap.size V ((((V.setCell ⟨w.heap.size, 0, none⟩ (.int .i64 d)).setCell ⟨w.heap.size, 1, none⟩ (.int .i64 u))).alloc (.cells #[.int .i64 d, .int .i64 u] 29)) := by
    have q1 : Below w.heap.size V (V.setCell ⟨w.heap.size, 0, none⟩ (.int .i64 d)) := (Stq.set w.heap.size 0 (.int .i64 d) V).below (Nat.le_of_lt hN.lt) (Nat.le_refl _)
    have q2 : Below w.heap.size V ((V.setCell ⟨w.heap.size, 0, none⟩ (.int .i64 d)).setCell ⟨w.heap.size, 1, none⟩ (.int .i64 u)) := q1.trans ((Stq.set w.heap.size 1 (.int .i64 u) _).below (Nat.le_trans (Nat.le_of_lt hN.lt) q1.size) (Nat.le_refl _))
    exact q2.alloc (Nat.le_of_lt hN2.lt) _
  have hB : ((((V.setCell ⟨w.heap.size, 0, none⟩ (.int .i64 d)).setCell ⟨w.heap.size, 1, none⟩ (.int .i64 u))).alloc (.cells #[.int .i64 d, .int .i64 u] 29)).heap[w.heap.size]? = some (.cells #[.int .i64 d, .int .i64 u] 29 (0, 0)) := (Below.heap_alloc _ _ _ hN2.lt).trans hN2
  have hV2 := ((Stq.set w.heap.size 0 (.int .i64 d) V).trans (Stq.set w.heap.size 1 (.int .i64 u) _)).blk hV (Ne.symm hne)
  have hV3 : Blk ((((V.setCell ⟨w.heap.size, 0, none⟩ (.int .i64 d)).setCell ⟨w.heap.size, 1, none⟩ (.int .i64 u))).alloc (.cells #[.int .i64 d, .int .i64 u] 29)) hb (LS.mk 0 0 x c n).cs 81 := (Below.heap_alloc _ _ _ hV2.lt).trans hV2
  exact bodyPost_ret (results_cell_row Tryd.results49 _ _ (w.heap.size) 29 _ (0, 0) _ rfl hB Tryd.underlying29 rfl (by kernel_rfl)) rfl ⟨rfl, hV3, Stq.more hQ hb2⟩
end Go.Proofs.YtgnkkpcklljffaaDoor
