import Derived.Test.YtehjdkdoalmaeaaPlays3
namespace Go.Proofs.Ytehjdkdoalmaeaa
open Go.RowKit Go.PlainAid
set_option linter.unusedVariables false
set_option linter.unusedSimpArgs false
set_option maxRecDepth 100000 in
set_option maxHeartbeats 6400000 in
theorem plays_len {L pb hbn hbr room n : Nat} {s : PS} (w : World) (h : PInv L pb hbn hbr room s w) (ha : PAg room s) (hF : PFull s) (hc : PCnt n s) (hfl : s.fl = []) (o : OpA) (hk : o.kind = 6) :
    Calls Try.prog 23 #[.pointer (some ⟨pb, 0, none⟩), .agg (opC o)] w fun e w' => e = .returned (.bool true) ∧ ∃ s', PPost L pb hbn hbr room n s s' w w' := by
  obtain ⟨kind, who, oi, oj, ol⟩ := o
  simp only at hk
  subst hk
  have hY0 : YSt L pb hbn hbr room s s (opC ⟨6, who, oi, oj, ol⟩) w (w.alloc (.cells (opC ⟨6, who, oi, oj, ol⟩) 43)) := ⟨h.below ((Below.refl _ _).alloc (Nat.le_refl _) _), PStp.ofBelow ((Below.refl _ _).alloc (Nat.le_refl _) _), heap_alloc_new w _, fun q => by have := h.lt _ q; omega⟩
  show Calls Try.prog 23 #[.pointer (some ⟨pb, 0, none⟩), .agg #[.int .i64 6, .int .i64 who, .int .i64 oi, .int .i64 oj, .int .i64 ol.f, .int .i64 ol.t, .slice ol.ao ol.bs.length ol.cap]] w _
  have HY : Hid _ := hY0
  clear hY0 h
  go_enter Try.func23, Try.ntmps23
  go_wp2_with fail
  have hY0 := HY.out
  clear HY
  have hW0 : w.alloc (.cells #[.int .i64 6, .int .i64 who, .int .i64 oi, .int .i64 oj, .int .i64 ol.f, .int .i64 ol.t, .slice ol.ao ol.bs.length ol.cap] 43) = w.alloc (.cells (opC ⟨6, who, oi, oj, ol⟩) 43) := rfl
  try rw [hW0]
  generalize w.alloc (.cells (opC ⟨6, who, oi, oj, ol⟩) 43) = W0 at *
  obtain ⟨vro, vrc, hvr, hvrc⟩ := own_slice hY0.inv.ref.own
  have hlens : s.lr.length = s.lv.length := by have := congrArg List.length ha.keys; simpa using this.symm
  rename_i K hK
  try rw [show ∀ a : Act, a.put none undef = a from fun _ => rfl]
  refine wp_region_mix (fun wr => wr.cell? ⟨pb, 0, none⟩ = some (Value.pointer (some ⟨hbn, 0, none⟩)) ∧ wr.cell? ⟨pb, 1, none⟩ = some (Value.pointer (some ⟨hbr, 0, none⟩)) ∧ wr.cell? ⟨hbr, 1, none⟩ = some (Value.slice vro s.lr.length vrc)) (fun i => i == 4 || i == 14) 14 (by kernel_rfl) rfl (by kernel_rfl) (by kernel_rfl) (by kernel_rfl) ?_
  have hCof : ∀ (W : World), YSt L pb hbn hbr room s s (opC ⟨6, who, oi, oj, ol⟩) w W → (W.cell? ⟨pb, 0, none⟩ = some (Value.pointer (some ⟨hbn, 0, none⟩)) ∧ W.cell? ⟨pb, 1, none⟩ = some (Value.pointer (some ⟨hbr, 0, none⟩)) ∧ W.cell? ⟨hbr, 1, none⟩ = some (Value.slice vro s.lr.length vrc)) := fun W h => ⟨h.cell 0, h.cell 1, by have := h.inv.ref.c1; rw [hvr] at this; exact this⟩
  have hX := hY0.drew
  generalize ({ W0 with drawn := W0.drawn + 1 } : World) = X at *
  have hC := hCof X hX
  refine withFrP (N := 151) rfl ?_
  intro f0 F0 hff
  have hs0 : f0 0 = Value.pointer (some ⟨pb, 0, none⟩) := hff 0
  clear hff
  refine lyp F0 rfl hC rfl (by omega) (wanted_none rfl) (v := Value.pointer (some ⟨pb, 0, none⟩)) (fun wr hwr => by simp only [execOp, (F0.eval 0 (by omega)).trans (show _ = Value.pointer (some ⟨pb, 0, none⟩) from by simp [upd, hs0])]; first | rfl | simp [go_sem]) fun F1 => ?_
  refine lyp F1 rfl hC rfl (by omega) (wanted_none rfl) (v := Value.pointer (some ⟨pb, 0, none⟩)) (fun wr hwr => by simp only [execOp, (F1.eval 109 (by omega)).trans (show _ = Value.pointer (some ⟨pb, 0, none⟩) from by simp [upd, hs0])]; first | rfl | simp [go_sem]) fun F2 => ?_
  refine lyp F2 rfl hC rfl (by omega) (wanted_none rfl) (v := Value.pointer (some ⟨pb, 0, none⟩)) (fun wr hwr => by simp only [execOp, (F2.eval 110 (by omega)).trans (show _ = Value.pointer (some ⟨pb, 0, none⟩) from by simp [upd, hs0])]; first | rfl | simp [go_sem]) fun F3 => ?_
  refine lyp F3 rfl hC rfl (by omega) (wanted_none rfl) (v := Value.pointer (some ⟨hbn, 0, none⟩)) (fun wr hwr => by simp only [execOp, (F3.eval 111 (by omega)).trans (show _ = Value.pointer (some ⟨pb, 0, none⟩) from by simp [upd, hs0])]; simp [go_sem, hwr.1]) fun F4 => ?_
  refine lcp F4 rfl hC rfl (by omega) (wanted_none rfl) (g := 12) (args := #[Value.pointer (some ⟨hbn, 0, none⟩)]) (by simp only [execOp, resolve, invoke, List.map_toArray, List.map_cons, List.map_nil, (F4.eval 112 (by omega)).trans (show _ = Value.pointer (some ⟨hbn, 0, none⟩) from by simp [upd, hs0])]; simp [go_sem, Act.eval]) (len_any X hX.inv.bag) ?_
  rintro e6 Y1 ⟨rfl, rfl⟩
  refine ⟨_, rfl, fun F5 => ?_⟩
  refine lyp F5 rfl hC rfl (by omega) (wanted_none rfl) (v := Value.pointer (some ⟨pb, 0, none⟩)) (fun wr hwr => by simp only [execOp, (F5.eval 0 (by omega)).trans (show _ = Value.pointer (some ⟨pb, 0, none⟩) from by simp [upd, hs0])]; first | rfl | simp [go_sem]) fun F6 => ?_
  refine lyp F6 rfl hC rfl (by omega) (wanted_none rfl) (v := Value.pointer (some ⟨pb, 0, none⟩)) (fun wr hwr => by simp only [execOp, (F6.eval 114 (by omega)).trans (show _ = Value.pointer (some ⟨pb, 0, none⟩) from by simp [upd, hs0])]; first | rfl | simp [go_sem]) fun F7 => ?_
  refine lyp F7 rfl hC rfl (by omega) (wanted_none rfl) (v := Value.pointer (some ⟨pb, 1, none⟩)) (fun wr hwr => by simp only [execOp, (F7.eval 115 (by omega)).trans (show _ = Value.pointer (some ⟨pb, 0, none⟩) from by simp [upd, hs0])]; first | rfl | simp [go_sem]) fun F8 => ?_
  refine lyp F8 rfl hC rfl (by omega) (wanted_none rfl) (v := Value.pointer (some ⟨hbr, 0, none⟩)) (fun wr hwr => by simp only [execOp, (F8.eval 116 (by omega)).trans (show _ = Value.pointer (some ⟨pb, 1, none⟩) from by simp [upd, hs0])]; simp [go_sem, hwr.2.1]) fun F9 => ?_
  refine lyp F9 rfl hC rfl (by omega) (wanted_none rfl) (v := Value.pointer (some ⟨hbr, 0, none⟩)) (fun wr hwr => by simp only [execOp, (F9.eval 117 (by omega)).trans (show _ = Value.pointer (some ⟨hbr, 0, none⟩) from by simp [upd, hs0])]; first | rfl | simp [go_sem]) fun F10 => ?_
  refine lyp F10 rfl hC rfl (by omega) (wanted_none rfl) (v := Value.pointer (some ⟨hbr, 1, none⟩)) (fun wr hwr => by simp only [execOp, (F10.eval 118 (by omega)).trans (show _ = Value.pointer (some ⟨hbr, 0, none⟩) from by simp [upd, hs0])]; first | rfl | simp [go_sem]) fun F11 => ?_
  refine lyp F11 rfl hC rfl (by omega) (wanted_none rfl) (v := Value.slice vro s.lr.length vrc) (fun wr hwr => by simp only [execOp, (F11.eval 119 (by omega)).trans (show _ = Value.pointer (some ⟨hbr, 1, none⟩) from by simp [upd, hs0])]; simp [go_sem, hwr.2.2]) fun F12 => ?_
  refine lyp F12 rfl hC rfl (by omega) (wanted_none rfl) (v := Value.int .i64 (s.lr.length : Nat)) (fun wr hwr => by simp only [execOp, resolve, invoke, builtin, List.map_toArray, List.map_cons, List.map_nil, (F12.eval 120 (by omega)).trans (show _ = Value.slice vro s.lr.length vrc from by simp [upd, hs0])]; simp [go_sem, Builtin.len_, Builtin.lenOf]) fun F13 => ?_
  refine lyp F13 rfl hC rfl (by omega) (wanted_none rfl) (v := Value.bool true) (fun wr hwr => by simp only [execOp, (F13.eval 113 (by omega)).trans (show _ = Value.int .i64 (s.lv.length : Nat) from by simp [upd, hs0]), (F13.eval 121 (by omega)).trans (show _ = Value.int .i64 (s.lr.length : Nat) from by simp [upd, hs0])]; simp [go_sem, hlens]) fun F14 => ?_
  refine lep F14 rfl hC rfl (by omega) (wanted_none rfl) (v := Value.bool true) (w1 := Y1) (by simp only [execOp, (F14.eval 122 (by omega)).trans (show _ = Value.bool true from by simp [upd, hs0])]; first | rfl | simp [go_sem]) fun F15 => ?_
  refine ⟨fun _ => hC, ?_⟩
  refine hK _ _ ?_
  simp only [Act.put, List.setIfInBounds_toArray, List.set_cons_succ, List.set_cons_zero]
  have hpost : PPost L pb hbn hbr room n s s w Y1 := ⟨hX.inv, ha, hF, hc.more, hX.stp, hfl⟩
  clear hX hY0 hC hCof hK hlens hvr F0 F1 F2 F3 F4 F5 F6 F7 F8 F9 F10 F11 F12 F13 F14 F15
  have HP : Hid _ := hpost
  clear hpost
  go_wp2_with fail
  go_ret
  exact ⟨rfl, s, HP.out⟩
set_option maxRecDepth 100000 in
set_option maxHeartbeats 6400000 in
theorem plays_send {L pb hbn hbr room n : Nat} {s : PS} (w : World) (h : PInv L pb hbn hbr room s w) (ha : PAg room s) (hF : PFull s) (hc : PCnt n s) (hroom : room ≤ 1024) (hLw : L ≤ w.heap.size) (hLb : L ≤ pb ∧ L ≤ hbn ∧ L ≤ hbr) (hfl : s.fl = []) (o : OpA) (hk : o.kind = 1)
    (hln : o.l.bs.length ≤ 1048576) (hnil : o.l.ao = none → o.l.bs.length = 0 ∧ o.l.cap = 0) (hsrc : From w o.l.ao o.l.bs) (hlow : 0 < o.l.bs.length → ∀ b q, o.l.ao = some ⟨b, q, none⟩ → b < w.heap.size ∧ ¬ s.has pb hbn hbr b) :
    Calls Try.prog 23 #[.pointer (some ⟨pb, 0, none⟩), .agg (opC o)] w fun e w' => e = .returned (.bool true) ∧ ∃ s', PPost L pb hbn hbr room n s s' w w' := by
  obtain ⟨kind, who, oi, oj, ol⟩ := o
  simp only at hk
  subst hk
  have hY0 : YSt L pb hbn hbr room s s (opC ⟨1, who, oi, oj, ol⟩) w (w.alloc (.cells (opC ⟨1, who, oi, oj, ol⟩) 43)) := ⟨h.below ((Below.refl _ _).alloc (Nat.le_refl _) _), PStp.ofBelow ((Below.refl _ _).alloc (Nat.le_refl _) _), heap_alloc_new w _, fun q => by have := h.lt _ q; omega⟩
  show Calls Try.prog 23 #[.pointer (some ⟨pb, 0, none⟩), .agg #[.int .i64 1, .int .i64 who, .int .i64 oi, .int .i64 oj, .int .i64 ol.f, .int .i64 ol.t, .slice ol.ao ol.bs.length ol.cap]] w _
  have hsend := sends_any _ hY0.inv ha hroom (Nat.le_trans hLw hY0.stp.size) hLb ol.f ol.t ol.ao ol.cap ol.bs hln hnil (hsrc.alloc _) (fun h0 b q e => ⟨Nat.lt_of_lt_of_le (hlow h0 b q e).1 hY0.stp.size, (hlow h0 b q e).2⟩)
  have e4 : (w.alloc (.cells (opC ⟨1, who, oi, oj, ol⟩) 43)).cell? ⟨w.heap.size, 4, none⟩ = some (.int .i64 ol.f) := hY0.bo.cell 4
  have HY : Hid _ := hY0
  have HS : Hid _ := hsend
  clear hY0 h hsend e4
  go_enter Try.func23, Try.ntmps23
  go_wp2_with fail
  refine (Calls.mono HS.out ?_)
  rintro e32 w' ⟨rfl, s', hP, hA, hSt, hSame⟩
  have hpost : PPost L pb hbn hbr room n s s' w w' := by
    have hr : Rest s s' := ⟨hSame.ks, hSame.ms, hSame.ls, hSame.ws, hSame.mark, hSame.turns, hSame.size⟩
    exact ⟨hP, hA, hr.full hF, (hr.cnt hc).more, HY.out.stp.trans hSt, by rw [hSame.fl]; exact hfl⟩
  have HP : Hid _ := hpost
  clear hpost hP hA hSt hSame HS HY
  go_wp2_with fail
  go_ret
  exact ⟨rfl, s', HP.out⟩
set_option maxRecDepth 100000 in
set_option maxHeartbeats 6400000 in
theorem plays_other {L pb hbn hbr room n : Nat} {s : PS} (w : World) (h : PInv L pb hbn hbr room s w) (ha : PAg room s) (hF : PFull s) (hc : PCnt n s) (hfl : s.fl = []) (o : OpA) (hk : o.kind ≠ 1 ∧ o.kind ≠ 2 ∧ o.kind ≠ 3 ∧ o.kind ≠ 4 ∧ o.kind ≠ 5 ∧ o.kind ≠ 6 ∧ o.kind ≠ 7) :
    Calls Try.prog 23 #[.pointer (some ⟨pb, 0, none⟩), .agg (opC o)] w fun e w' => e = .returned (.bool true) ∧ ∃ s', PPost L pb hbn hbr room n s s' w w' := by
  obtain ⟨kind, who, oi, oj, ol⟩ := o
  obtain ⟨h1, h2, h3, h4, h5, h6, h7⟩ := hk
  simp only at h1 h2 h3 h4 h5 h6 h7
  have hY0 : YSt L pb hbn hbr room s s (opC ⟨kind, who, oi, oj, ol⟩) w (w.alloc (.cells (opC ⟨kind, who, oi, oj, ol⟩) 43)) := ⟨h.below ((Below.refl _ _).alloc (Nat.le_refl _) _), PStp.ofBelow ((Below.refl _ _).alloc (Nat.le_refl _) _), heap_alloc_new w _, fun q => by have := h.lt _ q; omega⟩
  show Calls Try.prog 23 #[.pointer (some ⟨pb, 0, none⟩), .agg #[.int .i64 kind, .int .i64 who, .int .i64 oi, .int .i64 oj, .int .i64 ol.f, .int .i64 ol.t, .slice ol.ao ol.bs.length ol.cap]] w _
  have hpost : PPost L pb hbn hbr room n s s w (w.alloc (.cells (opC ⟨kind, who, oi, oj, ol⟩) 43)) := ⟨hY0.inv, ha, hF, hc.more, hY0.stp, hfl⟩
  have HP : Hid _ := hpost
  clear hY0 h hpost
  go_enter Try.func23, Try.ntmps23
  go_wp2_with fail
  go_ret
  exact ⟨rfl, s, HP.out⟩
end Go.Proofs.Ytehjdkdoalmaeaa
