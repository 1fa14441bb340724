import Derived.Test.YtgnkkpcklljffaaDoorTurn
namespace Go.Proofs.YtgnkkpcklljffaaDoor
open Go.RowKit Go.PlainAid
set_option linter.unusedVariables false
set_option linter.unusedSimpArgs false
section
variable {ops : Array Oper} {C : World → Prop} {eff : Nat → Bool} {Q : Act → World → Prop} {a : Act} {w w1 : World} {rest : List Oper} {o : Oper} {f : Nat → Value} {N d k z : Nat}
theorem lep (hF : Fr N a f) (he : eff k = true) (hC : C w) (hd : o.dst = some d) (hN : d < N) (hw : Region.wanted o (yielded ops a.tmps) = true) {v : Value} (hr : (execOp a.eval o).run Tryd.prog w = .ok (.value v) w1)
    (h : Fr N (a.put (some d) v) (upd f d v) → wpLex Tryd.prog ops C eff z Q rest (k + 1) (a.put (some d) v) w1) : wpLex Tryd.prog ops C eff z Q (o :: rest) k a w := by
  refine ⟨hC, ?_⟩
  rw [if_pos he]
  exact Or.inl ⟨hw, Or.inl ⟨v, w1, Or.inl hr, by rw [hd]; exact h (hF.put d v hN)⟩⟩
theorem lnp (hF : Fr N a f) (he : eff k = false) (hC : C w) (hd : o.dst = some d) (hN : d < N) (hw : Region.wanted o (yielded ops a.tmps) = false)
    (h : Fr N (a.put (some d) undef) (upd f d undef) → wpLex Tryd.prog ops C eff z Q rest (k + 1) (a.put (some d) undef) w) : wpLex Tryd.prog ops C eff z Q (o :: rest) k a w := by
  refine ⟨hC, ?_⟩
  rw [if_neg (by rw [he]; simp)]
  exact ⟨undef, Or.inr ⟨hw, rfl⟩, by rw [hd]; exact h (hF.put d undef hN)⟩
theorem want_yes {i : Nat} {b : Bool} (hF : Fr N a f) (hg : o.guard = some (i, b)) {e : Nat} (ho : (ops[i]?).bind (·.dst) = some e) (he : e < N) (hb : f e = .bool b) : Region.wanted o (yielded ops a.tmps) = true := by
  rw [wanted_some hg, hF.yields ho he hb]
  simp
theorem want_no {i : Nat} {b c : Bool} (hF : Fr N a f) (hg : o.guard = some (i, b)) {e : Nat} (ho : (ops[i]?).bind (·.dst) = some e) (he : e < N) (hb : f e = .bool c) (hne : c ≠ b) : Region.wanted o (yielded ops a.tmps) = false := by
  rw [wanted_some hg, hF.yields ho he hb]
  simp [hne]
theorem want_not {i : Nat} {b : Bool} (hF : Fr N a f) (hg : o.guard = some (i, b)) {e : Nat} (ho : (ops[i]?).bind (·.dst) = some e) (he : e < N) (hb : f e = undef) : Region.wanted o (yielded ops a.tmps) = false := by
  rw [wanted_some hg, hF.yieldsNot ho he hb]
  rfl
end
set_option maxRecDepth 100000 in
set_option maxHeartbeats 1600000 in
theorem dec_any {S : Sens} {L hb : Nat} {s : LS} (w : World) (hS : Sen S L w) (h : Blk w hb s.cs 62) (ho : s.Ok) (hL : L ≤ hb) (k : Int) :
    Calls Tryd.prog 13 #[.pointer (some ⟨hb, 0, none⟩), .int .i64 k] w fun r w' => r = .returned (.int .i64 (s.tcode 0 k)) ∧ Blk w' hb (s.tnext 0 1 k).cs 62 ∧ Stq hb w w' := by
  have hLw : L ≤ w.heap.size := Nat.le_of_lt (Nat.lt_of_le_of_lt hL h.lt)
  go_enter Tryd.func13, Tryd.ntmps13
  go_wp2_with fail
  rename_i K hK
  try rw [show ∀ a : Act, a.put none undef = a from fun _ => rfl]
  refine wp_region_mix (fun _ => True) (fun i => i == 9 || i == 10 || i == 12) 12 (by kernel_rfl) rfl (by kernel_rfl) (by kernel_rfl) (by kernel_rfl) ?_
  have hC : True := trivial
  have hX : Sen S L ({ w with drawn := w.drawn + 1 } : World) := hS.below ⟨rfl, rfl, rfl, Nat.le_refl _, fun _ _ => rfl⟩
  have hY : Blk ({ w with drawn := w.drawn + 1 } : World) hb s.cs 62 := h
  have hZ : Stq hb w ({ w with drawn := w.drawn + 1 } : World) := ⟨rfl, rfl, rfl, Nat.le_refl _, fun _ _ _ => rfl⟩
  generalize ({ w with drawn := w.drawn + 1 } : World) = X at *
  refine withFrP (N := 16) rfl ?_
  intro f0 F0 hff
  have hs0 : f0 0 = Value.pointer (some ⟨hb, 0, none⟩) := hff 0
  have hs1 : f0 1 = Value.int .i64 k := hff 1
  clear hff
  refine lyp F0 rfl hC rfl (by omega) (wanted_none rfl) (v := Value.int .i64 k) (fun wr hwr => by simp only [execOp, (F0.eval 1 (by omega)).trans (show _ = Value.int .i64 k from by simp [upd, hs0, hs1])]; first | rfl | simp [go_sem]) fun F1 => ?_
  refine lyp F1 rfl hC rfl (by omega) (wanted_none rfl) (v := Value.pointer (some ⟨hb, 0, none⟩)) (fun wr hwr => by simp only [execOp, (F1.eval 0 (by omega)).trans (show _ = Value.pointer (some ⟨hb, 0, none⟩) from by simp [upd, hs0, hs1])]; first | rfl | simp [go_sem]) fun F2 => ?_
  refine lyp F2 rfl hC rfl (by omega) (wanted_none rfl) (v := Value.pointer (some ⟨hb, 0, none⟩)) (fun wr hwr => by simp only [execOp, (F2.eval 6 (by omega)).trans (show _ = Value.pointer (some ⟨hb, 0, none⟩) from by simp [upd, hs0, hs1])]; first | rfl | simp [go_sem]) fun F3 => ?_
  refine lyp F3 rfl hC rfl (by omega) (wanted_none rfl) (v := Value.pointer (some ⟨hb, 0, none⟩)) (fun wr hwr => by simp only [execOp, (F3.eval 7 (by omega)).trans (show _ = Value.pointer (some ⟨hb, 0, none⟩) from by simp [upd, hs0, hs1])]; first | rfl | simp [go_sem]) fun F4 => ?_
  refine lyp F4 rfl hC rfl (by omega) (wanted_none rfl) (v := Value.pointer (some ⟨hb, 0, none⟩)) (fun wr hwr => by simp only [execOp, (F4.eval 8 (by omega)).trans (show _ = Value.pointer (some ⟨hb, 0, none⟩) from by simp [upd, hs0, hs1])]; first | rfl | simp [go_sem]) fun F5 => ?_
  refine lyp F5 rfl hC rfl (by omega) (wanted_none rfl) (v := Value.pointer (some ⟨hb, 0, none⟩)) (fun wr hwr => by simp only [execOp, (F5.eval 0 (by omega)).trans (show _ = Value.pointer (some ⟨hb, 0, none⟩) from by simp [upd, hs0, hs1])]; first | rfl | simp [go_sem]) fun F6 => ?_
  refine lyp F6 rfl hC rfl (by omega) (wanted_none rfl) (v := Value.pointer (some ⟨hb, 0, none⟩)) (fun wr hwr => by simp only [execOp, (F6.eval 10 (by omega)).trans (show _ = Value.pointer (some ⟨hb, 0, none⟩) from by simp [upd, hs0, hs1])]; first | rfl | simp [go_sem]) fun F7 => ?_
  refine lyp F7 rfl hC rfl (by omega) (wanted_none rfl) (v := Value.pointer (some ⟨hb, 0, none⟩)) (fun wr hwr => by simp only [execOp, (F7.eval 11 (by omega)).trans (show _ = Value.pointer (some ⟨hb, 0, none⟩) from by simp [upd, hs0, hs1])]; first | rfl | simp [go_sem]) fun F8 => ?_
  refine lyp F8 rfl hC rfl (by omega) (wanted_none rfl) (v := Value.pointer (some ⟨hb, 1, none⟩)) (fun wr hwr => by simp only [execOp, (F8.eval 12 (by omega)).trans (show _ = Value.pointer (some ⟨hb, 0, none⟩) from by simp [upd, hs0, hs1])]; first | rfl | simp [go_sem]) fun F9 => ?_
  refine lcp F9 rfl hC rfl (by omega) (wanted_none rfl) (g := 34) (args := #[Value.int .i64 k, Value.pointer (some ⟨hb, 0, none⟩), Value.pointer (some ⟨hb, 1, none⟩)]) (by simp only [execOp, resolve, invoke, List.map_toArray, List.map_cons, List.map_nil, (F9.eval 5 (by omega)).trans (show _ = Value.int .i64 k from by simp [upd, hs0, hs1]), (F9.eval 9 (by omega)).trans (show _ = Value.pointer (some ⟨hb, 0, none⟩) from by simp [upd, hs0, hs1]), (F9.eval 13 (by omega)).trans (show _ = Value.pointer (some ⟨hb, 1, none⟩) from by simp [upd, hs0, hs1])]; simp [go_sem, Act.eval]) (turn_any X hX hY ho (i := 0) (j := 1) (by omega) (by omega) (by omega) k) ?_
  rintro e1 w1 ⟨rfl, hB1, hT1⟩
  refine ⟨_, rfl, fun F10 => ?_⟩
  have hX1 := hX.below (hT1.below (L := L) (Nat.le_trans hLw hZ.size) hL)
  refine lcp F10 rfl hC rfl (by omega) (wanted_none rfl) (g := 33) (args := #[errV S (s.tcode 0 k)]) (by simp only [execOp, resolve, invoke, List.map_toArray, List.map_cons, List.map_nil, (F10.eval 14 (by omega)).trans (show _ = errV S (s.tcode 0 k) from by simp [upd, hs0, hs1])]; simp [go_sem, Act.eval]) (told_any w1 hX1 _ (s.tcode_is 0 k)) ?_
  rintro e2 w2 ⟨rfl, rfl⟩
  refine ⟨_, rfl, fun F11 => ?_⟩
  refine lyp F11 rfl hC rfl (by omega) (wanted_none rfl) (v := Value.int .i64 (s.tcode 0 k)) (fun wr hwr => by simp only [execOp, (F11.eval 15 (by omega)).trans (show _ = Value.int .i64 (s.tcode 0 k) from by simp [upd, hs0, hs1])]; first | rfl | simp [go_sem]) fun F12 => ?_
  refine ⟨fun _ => hC, ?_⟩
  refine hK _ _ ?_
  clear F0 F1 F2 F3 F4 F5 F6 F7 F8 F9 F10 F11 F12 hs0 hs1
  simp only [Act.put, List.setIfInBounds_toArray, List.set_cons_succ, List.set_cons_zero]
  have H1 : Hid _ := hB1
  have H2 : Hid _ := hZ.trans hT1
  clear hC hK hB1 hT1 hX hY hZ hX1 h hS ho
  go_wp2_with fail
  go_ret
  exact ⟨rfl, H1.out, H2.out⟩
set_option maxRecDepth 100000 in
set_option maxHeartbeats 1600000 in
theorem inc_any {S : Sens} {L hb : Nat} {s : LS} (w : World) (hS : Sen S L w) (h : Blk w hb s.cs 62) (ho : s.Ok) (hL : L ≤ hb) (k : Int) :
    Calls Tryd.prog 14 #[.pointer (some ⟨hb, 0, none⟩), .int .i64 k] w fun r w' => r = .returned (.int .i64 (s.tcode 1 k)) ∧ Blk w' hb (s.tnext 1 0 k).cs 62 ∧ Stq hb w w' := by
  have hLw : L ≤ w.heap.size := Nat.le_of_lt (Nat.lt_of_le_of_lt hL h.lt)
  go_enter Tryd.func14, Tryd.ntmps14
  go_wp2_with fail
  rename_i K hK
  try rw [show ∀ a : Act, a.put none undef = a from fun _ => rfl]
  refine wp_region_mix (fun _ => True) (fun i => i == 9 || i == 10 || i == 12) 12 (by kernel_rfl) rfl (by kernel_rfl) (by kernel_rfl) (by kernel_rfl) ?_
  have hC : True := trivial
  have hX : Sen S L ({ w with drawn := w.drawn + 1 } : World) := hS.below ⟨rfl, rfl, rfl, Nat.le_refl _, fun _ _ => rfl⟩
  have hY : Blk ({ w with drawn := w.drawn + 1 } : World) hb s.cs 62 := h
  have hZ : Stq hb w ({ w with drawn := w.drawn + 1 } : World) := ⟨rfl, rfl, rfl, Nat.le_refl _, fun _ _ _ => rfl⟩
  generalize ({ w with drawn := w.drawn + 1 } : World) = X at *
  refine withFrP (N := 16) rfl ?_
  intro f0 F0 hff
  have hs0 : f0 0 = Value.pointer (some ⟨hb, 0, none⟩) := hff 0
  have hs1 : f0 1 = Value.int .i64 k := hff 1
  clear hff
  refine lyp F0 rfl hC rfl (by omega) (wanted_none rfl) (v := Value.int .i64 k) (fun wr hwr => by simp only [execOp, (F0.eval 1 (by omega)).trans (show _ = Value.int .i64 k from by simp [upd, hs0, hs1])]; first | rfl | simp [go_sem]) fun F1 => ?_
  refine lyp F1 rfl hC rfl (by omega) (wanted_none rfl) (v := Value.pointer (some ⟨hb, 0, none⟩)) (fun wr hwr => by simp only [execOp, (F1.eval 0 (by omega)).trans (show _ = Value.pointer (some ⟨hb, 0, none⟩) from by simp [upd, hs0, hs1])]; first | rfl | simp [go_sem]) fun F2 => ?_
  refine lyp F2 rfl hC rfl (by omega) (wanted_none rfl) (v := Value.pointer (some ⟨hb, 0, none⟩)) (fun wr hwr => by simp only [execOp, (F2.eval 6 (by omega)).trans (show _ = Value.pointer (some ⟨hb, 0, none⟩) from by simp [upd, hs0, hs1])]; first | rfl | simp [go_sem]) fun F3 => ?_
  refine lyp F3 rfl hC rfl (by omega) (wanted_none rfl) (v := Value.pointer (some ⟨hb, 0, none⟩)) (fun wr hwr => by simp only [execOp, (F3.eval 7 (by omega)).trans (show _ = Value.pointer (some ⟨hb, 0, none⟩) from by simp [upd, hs0, hs1])]; first | rfl | simp [go_sem]) fun F4 => ?_
  refine lyp F4 rfl hC rfl (by omega) (wanted_none rfl) (v := Value.pointer (some ⟨hb, 1, none⟩)) (fun wr hwr => by simp only [execOp, (F4.eval 8 (by omega)).trans (show _ = Value.pointer (some ⟨hb, 0, none⟩) from by simp [upd, hs0, hs1])]; first | rfl | simp [go_sem]) fun F5 => ?_
  refine lyp F5 rfl hC rfl (by omega) (wanted_none rfl) (v := Value.pointer (some ⟨hb, 0, none⟩)) (fun wr hwr => by simp only [execOp, (F5.eval 0 (by omega)).trans (show _ = Value.pointer (some ⟨hb, 0, none⟩) from by simp [upd, hs0, hs1])]; first | rfl | simp [go_sem]) fun F6 => ?_
  refine lyp F6 rfl hC rfl (by omega) (wanted_none rfl) (v := Value.pointer (some ⟨hb, 0, none⟩)) (fun wr hwr => by simp only [execOp, (F6.eval 10 (by omega)).trans (show _ = Value.pointer (some ⟨hb, 0, none⟩) from by simp [upd, hs0, hs1])]; first | rfl | simp [go_sem]) fun F7 => ?_
  refine lyp F7 rfl hC rfl (by omega) (wanted_none rfl) (v := Value.pointer (some ⟨hb, 0, none⟩)) (fun wr hwr => by simp only [execOp, (F7.eval 11 (by omega)).trans (show _ = Value.pointer (some ⟨hb, 0, none⟩) from by simp [upd, hs0, hs1])]; first | rfl | simp [go_sem]) fun F8 => ?_
  refine lyp F8 rfl hC rfl (by omega) (wanted_none rfl) (v := Value.pointer (some ⟨hb, 0, none⟩)) (fun wr hwr => by simp only [execOp, (F8.eval 12 (by omega)).trans (show _ = Value.pointer (some ⟨hb, 0, none⟩) from by simp [upd, hs0, hs1])]; first | rfl | simp [go_sem]) fun F9 => ?_
  refine lcp F9 rfl hC rfl (by omega) (wanted_none rfl) (g := 34) (args := #[Value.int .i64 k, Value.pointer (some ⟨hb, 1, none⟩), Value.pointer (some ⟨hb, 0, none⟩)]) (by simp only [execOp, resolve, invoke, List.map_toArray, List.map_cons, List.map_nil, (F9.eval 5 (by omega)).trans (show _ = Value.int .i64 k from by simp [upd, hs0, hs1]), (F9.eval 9 (by omega)).trans (show _ = Value.pointer (some ⟨hb, 1, none⟩) from by simp [upd, hs0, hs1]), (F9.eval 13 (by omega)).trans (show _ = Value.pointer (some ⟨hb, 0, none⟩) from by simp [upd, hs0, hs1])]; simp [go_sem, Act.eval]) (turn_any X hX hY ho (i := 1) (j := 0) (by omega) (by omega) (by omega) k) ?_
  rintro e1 w1 ⟨rfl, hB1, hT1⟩
  refine ⟨_, rfl, fun F10 => ?_⟩
  have hX1 := hX.below (hT1.below (L := L) (Nat.le_trans hLw hZ.size) hL)
  refine lcp F10 rfl hC rfl (by omega) (wanted_none rfl) (g := 33) (args := #[errV S (s.tcode 1 k)]) (by simp only [execOp, resolve, invoke, List.map_toArray, List.map_cons, List.map_nil, (F10.eval 14 (by omega)).trans (show _ = errV S (s.tcode 1 k) from by simp [upd, hs0, hs1])]; simp [go_sem, Act.eval]) (told_any w1 hX1 _ (s.tcode_is 1 k)) ?_
  rintro e2 w2 ⟨rfl, rfl⟩
  refine ⟨_, rfl, fun F11 => ?_⟩
  refine lyp F11 rfl hC rfl (by omega) (wanted_none rfl) (v := Value.int .i64 (s.tcode 1 k)) (fun wr hwr => by simp only [execOp, (F11.eval 15 (by omega)).trans (show _ = Value.int .i64 (s.tcode 1 k) from by simp [upd, hs0, hs1])]; first | rfl | simp [go_sem]) fun F12 => ?_
  refine ⟨fun _ => hC, ?_⟩
  refine hK _ _ ?_
  clear F0 F1 F2 F3 F4 F5 F6 F7 F8 F9 F10 F11 F12 hs0 hs1
  simp only [Act.put, List.setIfInBounds_toArray, List.set_cons_succ, List.set_cons_zero]
  have H1 : Hid _ := hB1
  have H2 : Hid _ := hZ.trans hT1
  clear hC hK hB1 hT1 hX hY hZ hX1 h hS ho
  go_wp2_with fail
  go_ret
  exact ⟨rfl, H1.out, H2.out⟩
set_option maxRecDepth 100000 in
set_option maxHeartbeats 1600000 in
theorem lock_any {S : Sens} {L hb : Nat} {s : LS} (w : World) (hS : Sen S L w) (h : Blk w hb s.cs 62) (ho : s.Ok) (hL : L ≤ hb) (k : Int) :
    Calls Tryd.prog 17 #[.pointer (some ⟨hb, 0, none⟩), .int .i64 k] w fun r w' => r = .returned (.int .i64 (s.tcode 0 k)) ∧ Blk w' hb (s.tnext 0 2 k).cs 62 ∧ Stq hb w w' := by
  have hLw : L ≤ w.heap.size := Nat.le_of_lt (Nat.lt_of_le_of_lt hL h.lt)
  go_enter Tryd.func17, Tryd.ntmps17
  go_wp2_with fail
  rename_i K hK
  try rw [show ∀ a : Act, a.put none undef = a from fun _ => rfl]
  refine wp_region_mix (fun _ => True) (fun i => i == 8 || i == 9 || i == 11) 11 (by kernel_rfl) rfl (by kernel_rfl) (by kernel_rfl) (by kernel_rfl) ?_
  have hC : True := trivial
  have hX : Sen S L ({ w with drawn := w.drawn + 1 } : World) := hS.below ⟨rfl, rfl, rfl, Nat.le_refl _, fun _ _ => rfl⟩
  have hY : Blk ({ w with drawn := w.drawn + 1 } : World) hb s.cs 62 := h
  have hZ : Stq hb w ({ w with drawn := w.drawn + 1 } : World) := ⟨rfl, rfl, rfl, Nat.le_refl _, fun _ _ _ => rfl⟩
  generalize ({ w with drawn := w.drawn + 1 } : World) = X at *
  refine withFrP (N := 15) rfl ?_
  intro f0 F0 hff
  have hs0 : f0 0 = Value.pointer (some ⟨hb, 0, none⟩) := hff 0
  have hs1 : f0 1 = Value.int .i64 k := hff 1
  clear hff
  refine lyp F0 rfl hC rfl (by omega) (wanted_none rfl) (v := Value.int .i64 k) (fun wr hwr => by simp only [execOp, (F0.eval 1 (by omega)).trans (show _ = Value.int .i64 k from by simp [upd, hs0, hs1])]; first | rfl | simp [go_sem]) fun F1 => ?_
  refine lyp F1 rfl hC rfl (by omega) (wanted_none rfl) (v := Value.pointer (some ⟨hb, 0, none⟩)) (fun wr hwr => by simp only [execOp, (F1.eval 0 (by omega)).trans (show _ = Value.pointer (some ⟨hb, 0, none⟩) from by simp [upd, hs0, hs1])]; first | rfl | simp [go_sem]) fun F2 => ?_
  refine lyp F2 rfl hC rfl (by omega) (wanted_none rfl) (v := Value.pointer (some ⟨hb, 0, none⟩)) (fun wr hwr => by simp only [execOp, (F2.eval 6 (by omega)).trans (show _ = Value.pointer (some ⟨hb, 0, none⟩) from by simp [upd, hs0, hs1])]; first | rfl | simp [go_sem]) fun F3 => ?_
  refine lyp F3 rfl hC rfl (by omega) (wanted_none rfl) (v := Value.pointer (some ⟨hb, 0, none⟩)) (fun wr hwr => by simp only [execOp, (F3.eval 7 (by omega)).trans (show _ = Value.pointer (some ⟨hb, 0, none⟩) from by simp [upd, hs0, hs1])]; first | rfl | simp [go_sem]) fun F4 => ?_
  refine lyp F4 rfl hC rfl (by omega) (wanted_none rfl) (v := Value.pointer (some ⟨hb, 0, none⟩)) (fun wr hwr => by simp only [execOp, (F4.eval 8 (by omega)).trans (show _ = Value.pointer (some ⟨hb, 0, none⟩) from by simp [upd, hs0, hs1])]; first | rfl | simp [go_sem]) fun F5 => ?_
  refine lyp F5 rfl hC rfl (by omega) (wanted_none rfl) (v := Value.pointer (some ⟨hb, 0, none⟩)) (fun wr hwr => by simp only [execOp, (F5.eval 0 (by omega)).trans (show _ = Value.pointer (some ⟨hb, 0, none⟩) from by simp [upd, hs0, hs1])]; first | rfl | simp [go_sem]) fun F6 => ?_
  refine lyp F6 rfl hC rfl (by omega) (wanted_none rfl) (v := Value.pointer (some ⟨hb, 0, none⟩)) (fun wr hwr => by simp only [execOp, (F6.eval 10 (by omega)).trans (show _ = Value.pointer (some ⟨hb, 0, none⟩) from by simp [upd, hs0, hs1])]; first | rfl | simp [go_sem]) fun F7 => ?_
  refine lyp F7 rfl hC rfl (by omega) (wanted_none rfl) (v := Value.pointer (some ⟨hb, 2, none⟩)) (fun wr hwr => by simp only [execOp, (F7.eval 11 (by omega)).trans (show _ = Value.pointer (some ⟨hb, 0, none⟩) from by simp [upd, hs0, hs1])]; first | rfl | simp [go_sem]) fun F8 => ?_
  refine lcp F8 rfl hC rfl (by omega) (wanted_none rfl) (g := 34) (args := #[Value.int .i64 k, Value.pointer (some ⟨hb, 0, none⟩), Value.pointer (some ⟨hb, 2, none⟩)]) (by simp only [execOp, resolve, invoke, List.map_toArray, List.map_cons, List.map_nil, (F8.eval 5 (by omega)).trans (show _ = Value.int .i64 k from by simp [upd, hs0, hs1]), (F8.eval 9 (by omega)).trans (show _ = Value.pointer (some ⟨hb, 0, none⟩) from by simp [upd, hs0, hs1]), (F8.eval 12 (by omega)).trans (show _ = Value.pointer (some ⟨hb, 2, none⟩) from by simp [upd, hs0, hs1])]; simp [go_sem, Act.eval]) (turn_any X hX hY ho (i := 0) (j := 2) (by omega) (by omega) (by omega) k) ?_
  rintro e1 w1 ⟨rfl, hB1, hT1⟩
  refine ⟨_, rfl, fun F9 => ?_⟩
  have hX1 := hX.below (hT1.below (L := L) (Nat.le_trans hLw hZ.size) hL)
  refine lcp F9 rfl hC rfl (by omega) (wanted_none rfl) (g := 33) (args := #[errV S (s.tcode 0 k)]) (by simp only [execOp, resolve, invoke, List.map_toArray, List.map_cons, List.map_nil, (F9.eval 13 (by omega)).trans (show _ = errV S (s.tcode 0 k) from by simp [upd, hs0, hs1])]; simp [go_sem, Act.eval]) (told_any w1 hX1 _ (s.tcode_is 0 k)) ?_
  rintro e2 w2 ⟨rfl, rfl⟩
  refine ⟨_, rfl, fun F10 => ?_⟩
  refine lyp F10 rfl hC rfl (by omega) (wanted_none rfl) (v := Value.int .i64 (s.tcode 0 k)) (fun wr hwr => by simp only [execOp, (F10.eval 14 (by omega)).trans (show _ = Value.int .i64 (s.tcode 0 k) from by simp [upd, hs0, hs1])]; first | rfl | simp [go_sem]) fun F11 => ?_
  refine ⟨fun _ => hC, ?_⟩
  refine hK _ _ ?_
  clear F0 F1 F2 F3 F4 F5 F6 F7 F8 F9 F10 F11 hs0 hs1
  simp only [Act.put, List.setIfInBounds_toArray, List.set_cons_succ, List.set_cons_zero]
  have H1 : Hid _ := hB1
  have H2 : Hid _ := hZ.trans hT1
  clear hC hK hB1 hT1 hX hY hZ hX1 h hS ho
  go_wp2_with fail
  go_ret
  exact ⟨rfl, H1.out, H2.out⟩
set_option maxRecDepth 100000 in
set_option maxHeartbeats 1600000 in
theorem free_any {S : Sens} {L hb : Nat} {s : LS} (w : World) (hS : Sen S L w) (h : Blk w hb s.cs 62) (ho : s.Ok) (hL : L ≤ hb) (k : Int) :
    Calls Tryd.prog 19 #[.pointer (some ⟨hb, 0, none⟩), .int .i64 k] w fun r w' => r = .returned (.int .i64 (s.tcode 2 k)) ∧ Blk w' hb (s.tnext 2 0 k).cs 62 ∧ Stq hb w w' := by
  have hLw : L ≤ w.heap.size := Nat.le_of_lt (Nat.lt_of_le_of_lt hL h.lt)
  go_enter Tryd.func19, Tryd.ntmps19
  go_wp2_with fail
  rename_i K hK
  try rw [show ∀ a : Act, a.put none undef = a from fun _ => rfl]
  refine wp_region_mix (fun _ => True) (fun i => i == 8 || i == 9 || i == 11) 11 (by kernel_rfl) rfl (by kernel_rfl) (by kernel_rfl) (by kernel_rfl) ?_
  have hC : True := trivial
  have hX : Sen S L ({ w with drawn := w.drawn + 1 } : World) := hS.below ⟨rfl, rfl, rfl, Nat.le_refl _, fun _ _ => rfl⟩
  have hY : Blk ({ w with drawn := w.drawn + 1 } : World) hb s.cs 62 := h
  have hZ : Stq hb w ({ w with drawn := w.drawn + 1 } : World) := ⟨rfl, rfl, rfl, Nat.le_refl _, fun _ _ _ => rfl⟩
  generalize ({ w with drawn := w.drawn + 1 } : World) = X at *
  refine withFrP (N := 15) rfl ?_
  intro f0 F0 hff
  have hs0 : f0 0 = Value.pointer (some ⟨hb, 0, none⟩) := hff 0
  have hs1 : f0 1 = Value.int .i64 k := hff 1
  clear hff
  refine lyp F0 rfl hC rfl (by omega) (wanted_none rfl) (v := Value.int .i64 k) (fun wr hwr => by simp only [execOp, (F0.eval 1 (by omega)).trans (show _ = Value.int .i64 k from by simp [upd, hs0, hs1])]; first | rfl | simp [go_sem]) fun F1 => ?_
  refine lyp F1 rfl hC rfl (by omega) (wanted_none rfl) (v := Value.pointer (some ⟨hb, 0, none⟩)) (fun wr hwr => by simp only [execOp, (F1.eval 0 (by omega)).trans (show _ = Value.pointer (some ⟨hb, 0, none⟩) from by simp [upd, hs0, hs1])]; first | rfl | simp [go_sem]) fun F2 => ?_
  refine lyp F2 rfl hC rfl (by omega) (wanted_none rfl) (v := Value.pointer (some ⟨hb, 0, none⟩)) (fun wr hwr => by simp only [execOp, (F2.eval 6 (by omega)).trans (show _ = Value.pointer (some ⟨hb, 0, none⟩) from by simp [upd, hs0, hs1])]; first | rfl | simp [go_sem]) fun F3 => ?_
  refine lyp F3 rfl hC rfl (by omega) (wanted_none rfl) (v := Value.pointer (some ⟨hb, 2, none⟩)) (fun wr hwr => by simp only [execOp, (F3.eval 7 (by omega)).trans (show _ = Value.pointer (some ⟨hb, 0, none⟩) from by simp [upd, hs0, hs1])]; first | rfl | simp [go_sem]) fun F4 => ?_
  refine lyp F4 rfl hC rfl (by omega) (wanted_none rfl) (v := Value.pointer (some ⟨hb, 0, none⟩)) (fun wr hwr => by simp only [execOp, (F4.eval 0 (by omega)).trans (show _ = Value.pointer (some ⟨hb, 0, none⟩) from by simp [upd, hs0, hs1])]; first | rfl | simp [go_sem]) fun F5 => ?_
  refine lyp F5 rfl hC rfl (by omega) (wanted_none rfl) (v := Value.pointer (some ⟨hb, 0, none⟩)) (fun wr hwr => by simp only [execOp, (F5.eval 9 (by omega)).trans (show _ = Value.pointer (some ⟨hb, 0, none⟩) from by simp [upd, hs0, hs1])]; first | rfl | simp [go_sem]) fun F6 => ?_
  refine lyp F6 rfl hC rfl (by omega) (wanted_none rfl) (v := Value.pointer (some ⟨hb, 0, none⟩)) (fun wr hwr => by simp only [execOp, (F6.eval 10 (by omega)).trans (show _ = Value.pointer (some ⟨hb, 0, none⟩) from by simp [upd, hs0, hs1])]; first | rfl | simp [go_sem]) fun F7 => ?_
  refine lyp F7 rfl hC rfl (by omega) (wanted_none rfl) (v := Value.pointer (some ⟨hb, 0, none⟩)) (fun wr hwr => by simp only [execOp, (F7.eval 11 (by omega)).trans (show _ = Value.pointer (some ⟨hb, 0, none⟩) from by simp [upd, hs0, hs1])]; first | rfl | simp [go_sem]) fun F8 => ?_
  refine lcp F8 rfl hC rfl (by omega) (wanted_none rfl) (g := 34) (args := #[Value.int .i64 k, Value.pointer (some ⟨hb, 2, none⟩), Value.pointer (some ⟨hb, 0, none⟩)]) (by simp only [execOp, resolve, invoke, List.map_toArray, List.map_cons, List.map_nil, (F8.eval 5 (by omega)).trans (show _ = Value.int .i64 k from by simp [upd, hs0, hs1]), (F8.eval 8 (by omega)).trans (show _ = Value.pointer (some ⟨hb, 2, none⟩) from by simp [upd, hs0, hs1]), (F8.eval 12 (by omega)).trans (show _ = Value.pointer (some ⟨hb, 0, none⟩) from by simp [upd, hs0, hs1])]; simp [go_sem, Act.eval]) (turn_any X hX hY ho (i := 2) (j := 0) (by omega) (by omega) (by omega) k) ?_
  rintro e1 w1 ⟨rfl, hB1, hT1⟩
  refine ⟨_, rfl, fun F9 => ?_⟩
  have hX1 := hX.below (hT1.below (L := L) (Nat.le_trans hLw hZ.size) hL)
  refine lcp F9 rfl hC rfl (by omega) (wanted_none rfl) (g := 33) (args := #[errV S (s.tcode 2 k)]) (by simp only [execOp, resolve, invoke, List.map_toArray, List.map_cons, List.map_nil, (F9.eval 13 (by omega)).trans (show _ = errV S (s.tcode 2 k) from by simp [upd, hs0, hs1])]; simp [go_sem, Act.eval]) (told_any w1 hX1 _ (s.tcode_is 2 k)) ?_
  rintro e2 w2 ⟨rfl, rfl⟩
  refine ⟨_, rfl, fun F10 => ?_⟩
  refine lyp F10 rfl hC rfl (by omega) (wanted_none rfl) (v := Value.int .i64 (s.tcode 2 k)) (fun wr hwr => by simp only [execOp, (F10.eval 14 (by omega)).trans (show _ = Value.int .i64 (s.tcode 2 k) from by simp [upd, hs0, hs1])]; first | rfl | simp [go_sem]) fun F11 => ?_
  refine ⟨fun _ => hC, ?_⟩
  refine hK _ _ ?_
  clear F0 F1 F2 F3 F4 F5 F6 F7 F8 F9 F10 F11 hs0 hs1
  simp only [Act.put, List.setIfInBounds_toArray, List.set_cons_succ, List.set_cons_zero]
  have H1 : Hid _ := hB1
  have H2 : Hid _ := hZ.trans hT1
  clear hC hK hB1 hT1 hX hY hZ hX1 h hS ho
  go_wp2_with fail
  go_ret
  exact ⟨rfl, H1.out, H2.out⟩
set_option maxRecDepth 100000 in
set_option maxHeartbeats 1600000 in
theorem burn_any {S : Sens} {L hb : Nat} {s : LS} (w : World) (hS : Sen S L w) (h : Blk w hb s.cs 62) (ho : s.Ok) (hL : L ≤ hb) (k : Int) :
    Calls Tryd.prog 20 #[.pointer (some ⟨hb, 0, none⟩), .int .i64 k] w fun r w' => r = .returned (.int .i64 (s.tcode 2 k)) ∧ Blk w' hb (s.tnext 2 1 k).cs 62 ∧ Stq hb w w' := by
  have hLw : L ≤ w.heap.size := Nat.le_of_lt (Nat.lt_of_le_of_lt hL h.lt)
  go_enter Tryd.func20, Tryd.ntmps20
  go_wp2_with fail
  rename_i K hK
  try rw [show ∀ a : Act, a.put none undef = a from fun _ => rfl]
  refine wp_region_mix (fun _ => True) (fun i => i == 8 || i == 9 || i == 11) 11 (by kernel_rfl) rfl (by kernel_rfl) (by kernel_rfl) (by kernel_rfl) ?_
  have hC : True := trivial
  have hX : Sen S L ({ w with drawn := w.drawn + 1 } : World) := hS.below ⟨rfl, rfl, rfl, Nat.le_refl _, fun _ _ => rfl⟩
  have hY : Blk ({ w with drawn := w.drawn + 1 } : World) hb s.cs 62 := h
  have hZ : Stq hb w ({ w with drawn := w.drawn + 1 } : World) := ⟨rfl, rfl, rfl, Nat.le_refl _, fun _ _ _ => rfl⟩
  generalize ({ w with drawn := w.drawn + 1 } : World) = X at *
  refine withFrP (N := 15) rfl ?_
  intro f0 F0 hff
  have hs0 : f0 0 = Value.pointer (some ⟨hb, 0, none⟩) := hff 0
  have hs1 : f0 1 = Value.int .i64 k := hff 1
  clear hff
  refine lyp F0 rfl hC rfl (by omega) (wanted_none rfl) (v := Value.int .i64 k) (fun wr hwr => by simp only [execOp, (F0.eval 1 (by omega)).trans (show _ = Value.int .i64 k from by simp [upd, hs0, hs1])]; first | rfl | simp [go_sem]) fun F1 => ?_
  refine lyp F1 rfl hC rfl (by omega) (wanted_none rfl) (v := Value.pointer (some ⟨hb, 0, none⟩)) (fun wr hwr => by simp only [execOp, (F1.eval 0 (by omega)).trans (show _ = Value.pointer (some ⟨hb, 0, none⟩) from by simp [upd, hs0, hs1])]; first | rfl | simp [go_sem]) fun F2 => ?_
  refine lyp F2 rfl hC rfl (by omega) (wanted_none rfl) (v := Value.pointer (some ⟨hb, 0, none⟩)) (fun wr hwr => by simp only [execOp, (F2.eval 6 (by omega)).trans (show _ = Value.pointer (some ⟨hb, 0, none⟩) from by simp [upd, hs0, hs1])]; first | rfl | simp [go_sem]) fun F3 => ?_
  refine lyp F3 rfl hC rfl (by omega) (wanted_none rfl) (v := Value.pointer (some ⟨hb, 2, none⟩)) (fun wr hwr => by simp only [execOp, (F3.eval 7 (by omega)).trans (show _ = Value.pointer (some ⟨hb, 0, none⟩) from by simp [upd, hs0, hs1])]; first | rfl | simp [go_sem]) fun F4 => ?_
  refine lyp F4 rfl hC rfl (by omega) (wanted_none rfl) (v := Value.pointer (some ⟨hb, 0, none⟩)) (fun wr hwr => by simp only [execOp, (F4.eval 0 (by omega)).trans (show _ = Value.pointer (some ⟨hb, 0, none⟩) from by simp [upd, hs0, hs1])]; first | rfl | simp [go_sem]) fun F5 => ?_
  refine lyp F5 rfl hC rfl (by omega) (wanted_none rfl) (v := Value.pointer (some ⟨hb, 0, none⟩)) (fun wr hwr => by simp only [execOp, (F5.eval 9 (by omega)).trans (show _ = Value.pointer (some ⟨hb, 0, none⟩) from by simp [upd, hs0, hs1])]; first | rfl | simp [go_sem]) fun F6 => ?_
  refine lyp F6 rfl hC rfl (by omega) (wanted_none rfl) (v := Value.pointer (some ⟨hb, 0, none⟩)) (fun wr hwr => by simp only [execOp, (F6.eval 10 (by omega)).trans (show _ = Value.pointer (some ⟨hb, 0, none⟩) from by simp [upd, hs0, hs1])]; first | rfl | simp [go_sem]) fun F7 => ?_
  refine lyp F7 rfl hC rfl (by omega) (wanted_none rfl) (v := Value.pointer (some ⟨hb, 1, none⟩)) (fun wr hwr => by simp only [execOp, (F7.eval 11 (by omega)).trans (show _ = Value.pointer (some ⟨hb, 0, none⟩) from by simp [upd, hs0, hs1])]; first | rfl | simp [go_sem]) fun F8 => ?_
  refine lcp F8 rfl hC rfl (by omega) (wanted_none rfl) (g := 34) (args := #[Value.int .i64 k, Value.pointer (some ⟨hb, 2, none⟩), Value.pointer (some ⟨hb, 1, none⟩)]) (by simp only [execOp, resolve, invoke, List.map_toArray, List.map_cons, List.map_nil, (F8.eval 5 (by omega)).trans (show _ = Value.int .i64 k from by simp [upd, hs0, hs1]), (F8.eval 8 (by omega)).trans (show _ = Value.pointer (some ⟨hb, 2, none⟩) from by simp [upd, hs0, hs1]), (F8.eval 12 (by omega)).trans (show _ = Value.pointer (some ⟨hb, 1, none⟩) from by simp [upd, hs0, hs1])]; simp [go_sem, Act.eval]) (turn_any X hX hY ho (i := 2) (j := 1) (by omega) (by omega) (by omega) k) ?_
  rintro e1 w1 ⟨rfl, hB1, hT1⟩
  refine ⟨_, rfl, fun F9 => ?_⟩
  have hX1 := hX.below (hT1.below (L := L) (Nat.le_trans hLw hZ.size) hL)
  refine lcp F9 rfl hC rfl (by omega) (wanted_none rfl) (g := 33) (args := #[errV S (s.tcode 2 k)]) (by simp only [execOp, resolve, invoke, List.map_toArray, List.map_cons, List.map_nil, (F9.eval 13 (by omega)).trans (show _ = errV S (s.tcode 2 k) from by simp [upd, hs0, hs1])]; simp [go_sem, Act.eval]) (told_any w1 hX1 _ (s.tcode_is 2 k)) ?_
  rintro e2 w2 ⟨rfl, rfl⟩
  refine ⟨_, rfl, fun F10 => ?_⟩
  refine lyp F10 rfl hC rfl (by omega) (wanted_none rfl) (v := Value.int .i64 (s.tcode 2 k)) (fun wr hwr => by simp only [execOp, (F10.eval 14 (by omega)).trans (show _ = Value.int .i64 (s.tcode 2 k) from by simp [upd, hs0, hs1])]; first | rfl | simp [go_sem]) fun F11 => ?_
  refine ⟨fun _ => hC, ?_⟩
  refine hK _ _ ?_
  clear F0 F1 F2 F3 F4 F5 F6 F7 F8 F9 F10 F11 hs0 hs1
  simp only [Act.put, List.setIfInBounds_toArray, List.set_cons_succ, List.set_cons_zero]
  have H1 : Hid _ := hB1
  have H2 : Hid _ := hZ.trans hT1
  clear hC hK hB1 hT1 hX hY hZ hX1 h hS ho
  go_wp2_with fail
  go_ret
  exact ⟨rfl, H1.out, H2.out⟩
end Go.Proofs.YtgnkkpcklljffaaDoor
