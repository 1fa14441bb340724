import Derived.Test.YtjmbhaoehfdpoaaDoorLRefB
namespace Go.Proofs.YtjmbhaoehfdpoaaDoor.Led
open Go.RowKit Go.PlainAid
set_option linter.unusedVariables false
set_option linter.unusedSimpArgs false
theorem Stq.more {hb : Nat} {w v z : World} (h : Stq hb w v) (k : Below w.heap.size v z) : Stq hb w z :=
  ⟨k.os.trans h.os, k.tape.trans h.tape, k.output.trans h.output, Nat.le_trans h.size k.size, fun j hj hn => (k.block j hj).trans (h.block j hj hn)⟩
/-- From which kind, to which. -/
def fromOf (kind : Int) : Nat := if kind = 1 then 0 else if kind = 2 then 1 else if kind = 3 then 0 else 2
def toOf (kind : Int) : Nat := if kind = 1 then 1 else if kind = 2 then 0 else if kind = 3 then 2 else if kind = 4 then 0 else 1
theorem from_lt (kind : Int) : fromOf kind < 3 := by
  unfold fromOf
  repeat' split
  all_goals omega
theorem to_lt (kind : Int) : toOf kind < 3 := by
  unfold toOf
  repeat' split
  all_goals omega
theorem fromto (kind : Int) : fromOf kind ≠ toOf kind := by
  unfold fromOf toOf
  by_cases h1 : kind = 1
  · simp [h1]
  · by_cases h2 : kind = 2
    · simp [h2]
    · by_cases h3 : kind = 3
      · simp [h3]
      · by_cases h4 : kind = 4
        · simp [h4]
        · simp [h1, h2, h3, h4]
set_option maxRecDepth 100000 in
set_option maxHeartbeats 800000 in
theorem same_any (a b c d : Int) (w : World) : Calls Tryd.prog 15 #[.agg #[.int .i64 a, .int .i64 b], .agg #[.int .i64 c, .int .i64 d]] w fun r w' => r = .returned (.bool (a == c && b == d)) ∧ Below w.heap.size w w' := by
  have hgr : Below w.heap.size w ((w.alloc (.cells #[.int .i64 a, .int .i64 b] 36)).alloc (.cells #[.int .i64 c, .int .i64 d] 36)) := by go_grown
  have HG : Hid _ := hgr
  clear hgr
  by_cases h1 : a = c
  · subst h1
    go_enter Tryd.func15, Tryd.ntmps15
    go_wp2
    go_ret
    exact ⟨ret_bool (by simp), HG.out⟩
  · go_enter Tryd.func15, Tryd.ntmps15
    go_wp2
    go_ret
    exact ⟨ret_bool (by simp [h1]), HG.out⟩
set_option maxRecDepth 100000 in
set_option maxHeartbeats 1600000 in
theorem rrights_any {hb : Nat} {s : LS} (w : World) (h : Blk w hb s.cs 94) :
    Calls Tryd.prog 33 #[.pointer (some ⟨hb, 0, none⟩)] w fun r w' => r = .returned (.agg #[.int .i64 s.d, .int .i64 s.u]) ∧ Below w.heap.size w w' := by
  have hgr : Below w.heap.size w (w.alloc (.cells #[.int .i64 0, .int .i64 0] 36)) := by go_grown
  have hB1 : Blk (w.alloc (.cells #[.int .i64 0, .int .i64 0] 36)) hb s.cs 94 := h.below hgr h.lt
  have hBn : Blk (w.alloc (.cells #[.int .i64 0, .int .i64 0] 36)) w.heap.size #[.int .i64 0, .int .i64 0] 36 := heap_alloc_new w _
  obtain ⟨d, u, x, c, n⟩ := s
  simp only
  have HG : Hid _ := hgr
  have HB1 : Hid _ := hB1
  have HBn : Hid _ := hBn
  clear hgr hB1 hBn h
  go_enter Tryd.func33, Tryd.ntmps33
  go_wp2_with fail
  rename_i K hK
  try rw [show ∀ a : Act, a.put none undef = a from fun _ => rfl]
  have hX : Blk ({ (w.alloc (.cells #[.int .i64 0, .int .i64 0] 36)) with drawn := (w.alloc (.cells #[.int .i64 0, .int .i64 0] 36)).drawn + 1 } : World) hb (LS.mk d u x c n).cs 94 := HB1.out
  have hN : Blk ({ (w.alloc (.cells #[.int .i64 0, .int .i64 0] 36)) with drawn := (w.alloc (.cells #[.int .i64 0, .int .i64 0] 36)).drawn + 1 } : World) w.heap.size #[.int .i64 0, .int .i64 0] 36 := HBn.out
  have hQ : Below w.heap.size w ({ (w.alloc (.cells #[.int .i64 0, .int .i64 0] 36)) with drawn := (w.alloc (.cells #[.int .i64 0, .int .i64 0] 36)).drawn + 1 } : World) := ⟨HG.out.os, HG.out.tape, HG.out.output, HG.out.size, HG.out.block⟩
  refine wp_region_mix (fun wr => wr.heap = ({ (w.alloc (.cells #[.int .i64 0, .int .i64 0] 36)) with drawn := (w.alloc (.cells #[.int .i64 0, .int .i64 0] 36)).drawn + 1 } : World).heap) (fun i => i == 11) 11 (by kernel_rfl) rfl (by kernel_rfl) (by kernel_rfl) (by kernel_rfl) ?_
  generalize ({ (w.alloc (.cells #[.int .i64 0, .int .i64 0] 36)) with drawn := (w.alloc (.cells #[.int .i64 0, .int .i64 0] 36)).drawn + 1 } : World) = X at *
  have hC : X.heap = X.heap := rfl
  have hc0 : X.cell? ⟨hb, 0, none⟩ = some (.int .i64 d) := hX.cell 0
  have hc1 : X.cell? ⟨hb, 1, none⟩ = some (.int .i64 u) := hX.cell 1
  have hz0 := hN.frozen 0
  have hk0 : X.cell? ⟨w.heap.size, 0, none⟩ = some (.int .i64 0) := hN.cell 0
  have hN1 := hN.set 0 (.int .i64 d)
  have hz1 := hN1.frozen 1
  have hk1 : (X.setCell ⟨w.heap.size, 0, none⟩ (.int .i64 d)).cell? ⟨w.heap.size, 1, none⟩ = some (.int .i64 0) := hN1.cell 1
  refine withFrP (N := 14) rfl ?_
  intro f0 F0 hff
  have hs0 : f0 0 = Value.pointer (some ⟨hb, 0, none⟩) := hff 0
  have hs2 : f0 2 = Value.pointer (some ⟨w.heap.size, 0, none⟩) := hff 2
  clear hff
  refine lyp F0 rfl hC rfl (by omega) (wanted_none rfl) (v := Value.pointer (some ⟨hb, 0, none⟩)) (fun wr hwr => by simp only [execOp, (F0.eval 0 (by omega)).trans (show _ = Value.pointer (some ⟨hb, 0, none⟩) from by simp [upd, hs0, hs2])]; first | rfl | simp [go_sem]) fun F1 => ?_
  refine lyp F1 rfl hC rfl (by omega) (wanted_none rfl) (v := Value.pointer (some ⟨hb, 0, none⟩)) (fun wr hwr => by simp only [execOp, (F1.eval 3 (by omega)).trans (show _ = Value.pointer (some ⟨hb, 0, none⟩) from by simp [upd, hs0, hs2])]; first | rfl | simp [go_sem]) fun F2 => ?_
  refine lyp F2 rfl hC rfl (by omega) (wanted_none rfl) (v := Value.pointer (some ⟨hb, 0, none⟩)) (fun wr hwr => by simp only [execOp, (F2.eval 4 (by omega)).trans (show _ = Value.pointer (some ⟨hb, 0, none⟩) from by simp [upd, hs0, hs2])]; first | rfl | simp [go_sem]) fun F3 => ?_
  refine lyp F3 rfl hC rfl (by omega) (wanted_none rfl) (v := Value.pointer (some ⟨hb, 0, none⟩)) (fun wr hwr => by simp only [execOp, (F3.eval 5 (by omega)).trans (show _ = Value.pointer (some ⟨hb, 0, none⟩) from by simp [upd, hs0, hs2])]; simp [go_sem, Act.eval]) fun F4 => ?_
  refine lyp F4 rfl hC rfl (by omega) (wanted_none rfl) (v := Value.int .i64 d) (fun wr hwr => by simp only [execOp, (F4.eval 6 (by omega)).trans (show _ = Value.pointer (some ⟨hb, 0, none⟩) from by simp [upd, hs0, hs2])]; simp [go_sem, ((cell_heap hwr ⟨hb, 0, none⟩).trans hc0)]) fun F5 => ?_
  refine lyp F5 rfl hC rfl (by omega) (wanted_none rfl) (v := Value.pointer (some ⟨hb, 0, none⟩)) (fun wr hwr => by simp only [execOp, (F5.eval 0 (by omega)).trans (show _ = Value.pointer (some ⟨hb, 0, none⟩) from by simp [upd, hs0, hs2])]; first | rfl | simp [go_sem]) fun F6 => ?_
  refine lyp F6 rfl hC rfl (by omega) (wanted_none rfl) (v := Value.pointer (some ⟨hb, 0, none⟩)) (fun wr hwr => by simp only [execOp, (F6.eval 8 (by omega)).trans (show _ = Value.pointer (some ⟨hb, 0, none⟩) from by simp [upd, hs0, hs2])]; first | rfl | simp [go_sem]) fun F7 => ?_
  refine lyp F7 rfl hC rfl (by omega) (wanted_none rfl) (v := Value.pointer (some ⟨hb, 0, none⟩)) (fun wr hwr => by simp only [execOp, (F7.eval 9 (by omega)).trans (show _ = Value.pointer (some ⟨hb, 0, none⟩) from by simp [upd, hs0, hs2])]; first | rfl | simp [go_sem]) fun F8 => ?_
  refine lyp F8 rfl hC rfl (by omega) (wanted_none rfl) (v := Value.pointer (some ⟨hb, 1, none⟩)) (fun wr hwr => by simp only [execOp, (F8.eval 10 (by omega)).trans (show _ = Value.pointer (some ⟨hb, 0, none⟩) from by simp [upd, hs0, hs2])]; simp [go_sem, Act.eval]) fun F9 => ?_
  refine lyp F9 rfl hC rfl (by omega) (wanted_none rfl) (v := Value.int .i64 u) (fun wr hwr => by simp only [execOp, (F9.eval 11 (by omega)).trans (show _ = Value.pointer (some ⟨hb, 1, none⟩) from by simp [upd, hs0, hs2])]; simp [go_sem, ((cell_heap hwr ⟨hb, 1, none⟩).trans hc1)]) fun F10 => ?_
  refine lyp F10 rfl hC rfl (by omega) (wanted_none rfl) (v := Value.agg #[.int .i64 d, .int .i64 u]) (fun wr hwr => by simp only [execOp, List.map_toArray, List.map_cons, List.map_nil, (F10.eval 7 (by omega)).trans (show _ = Value.int .i64 d from by simp [upd, hs0, hs2]), (F10.eval 12 (by omega)).trans (show _ = Value.int .i64 u from by simp [upd, hs0, hs2])]; simp [go_sem, Act.eval, (F10.eval 7 (by omega)).trans (show _ = Value.int .i64 d from by simp [upd, hs0, hs2]), (F10.eval 12 (by omega)).trans (show _ = Value.int .i64 u from by simp [upd, hs0, hs2])]) fun F11 => ?_
  refine lst rfl hC rfl (wanted_none rfl) (w1 := (X.setCell ⟨w.heap.size, 0, none⟩ (.int .i64 d)).setCell ⟨w.heap.size, 1, none⟩ (.int .i64 u)) (by simp only [execOp, (F11.eval 2 (by omega)).trans (show _ = Value.pointer (some ⟨w.heap.size, 0, none⟩) from by simp [upd, hs0, hs2]), (F11.eval 13 (by omega)).trans (show _ = Value.agg #[.int .i64 d, .int .i64 u] from by simp [upd, hs0, hs2])]; simp [go_sem, hk0, hz0, hk1, hz1]) ?_
  have hE : Blk ((X.setCell ⟨w.heap.size, 0, none⟩ (.int .i64 d)).setCell ⟨w.heap.size, 1, none⟩ (.int .i64 u)) w.heap.size #[.int .i64 d, .int .i64 u] 36 := hN1.set 1 (.int .i64 u)
  have hL : Below w.heap.size w ((X.setCell ⟨w.heap.size, 0, none⟩ (.int .i64 d)).setCell ⟨w.heap.size, 1, none⟩ (.int .i64 u)) := (hQ.setCell (Nat.le_refl _) _).setCell (Nat.le_refl _) _
  generalize (X.setCell ⟨w.heap.size, 0, none⟩ (.int .i64 d)).setCell ⟨w.heap.size, 1, none⟩ (.int .i64 u) = Y at *
  refine ⟨fun h => by omega, ?_⟩
  refine hK _ _ ?_
  clear F0 F1 F2 F3 F4 F5 F6 F7 F8 F9 F10 F11 hs0 hs2 hK hC hc0 hc1 hz0 hk0 hz1 hk1 hN1 hN hX hQ HG HB1 HBn
  simp only [Act.put, List.setIfInBounds_toArray, List.set_cons_succ, List.set_cons_zero]
  have HE : Hid _ := hE
  have HL : Hid _ := hL
  clear hE hL
  go_wp2_with fail
  exact bodyPost_ret (results_cell_row Tryd.results33 _ _ (w.heap.size) 36 _ (0, 0) _ rfl HE.out Tryd.underlying36 rfl (by kernel_rfl)) rfl ⟨rfl, HL.out⟩
end Go.Proofs.YtjmbhaoehfdpoaaDoor.Led

