import Derived.Test.YtkdndfdofhnagaaDoorLed
namespace Go.Proofs.YtkdndfdofhnagaaDoor
open Go.RowKit Go.PlainAid
set_option linter.unusedVariables false
set_option linter.unusedSimpArgs false
structure LS where
  d : Int
  u : Int
  h : Int
  c : Int
  n : Int
def LS.cs (s : LS) : Array Value := #[.int .i64 s.d, .int .i64 s.u, .int .i64 s.h, .int .i64 s.c, .int .i64 s.n]
structure LS.Ok (s : LS) : Prop where
  d0 : 0 ≤ s.d
  u0 : 0 ≤ s.u
  h0 : 0 ≤ s.h
  sum : s.d + s.u + s.h ≤ s.c
  c1 : 1 ≤ s.c
  c2 : s.c ≤ 1099511627776
def LS.get (s : LS) : Nat → Int
  | 0 => s.d
  | 1 => s.u
  | _ => s.h
def LS.put (s : LS) : Nat → Int → LS
  | 0, x => { s with d := x }
  | 1, x => { s with u := x }
  | _, x => { s with h := x }
theorem LS.cs_get (s : LS) (i : Nat) (h : i < 3) : s.cs[i]? = some (.int .i64 (s.get i)) := by
  match i with
  | 0 => rfl
  | 1 => rfl
  | 2 => rfl
theorem LS.cs_put (s : LS) (i : Nat) (h : i < 3) (x : Int) : s.cs.setIfInBounds i (.int .i64 x) = (s.put i x).cs := by
  match i with
  | 0 => rfl
  | 1 => rfl
  | 2 => rfl
def LS.mv (s : LS) (i j : Nat) (k : Int) : LS := (s.put i (s.get i - k)).put j ((s.put i (s.get i - k)).get j + k)
def LS.tcode (s : LS) (i : Nat) (k : Int) : Int := if okAmt k = true then (if s.get i < k then 60 else 0) else 1
def LS.tnext (s : LS) (i j : Nat) (k : Int) : LS := if s.tcode i k = 0 then s.mv i j k else s
theorem LS.tcode_is (s : LS) (i : Nat) (k : Int) : s.tcode i k = 0 ∨ s.tcode i k = 1 ∨ s.tcode i k = 60 ∨ s.tcode i k = 61 := by
  unfold LS.tcode; split
  · split <;> simp
  · simp
theorem LS.get_le (s : LS) (h : s.Ok) (i : Nat) : 0 ≤ s.get i ∧ s.get i ≤ 1099511627776 := by
  obtain ⟨_, _, _, _, _, _⟩ := h
  unfold LS.get
  split <;> omega
theorem LS.tnext_ok (s : LS) (h : s.Ok) (i j : Nat) (hi : i < 3) (hj : j < 3) (hne : i ≠ j) (k : Int) : (s.tnext i j k).Ok := by
  unfold LS.tnext
  split
  · rename_i hc
    have hk : 1 ≤ k ∧ k ≤ s.get i := by
      unfold LS.tcode at hc
      split at hc
      · rename_i ha
        simp [okAmt] at ha
        split at hc
        · simp at hc
        · omega
      · simp at hc
    obtain ⟨h1, h2, h3, h4, h5, h6⟩ := h
    match i, j, hi, hj with
    | 0, 1, _, _ => simp only [LS.get] at hk; exact ⟨by simp [LS.mv, LS.put, LS.get]; omega, by simp [LS.mv, LS.put, LS.get]; omega, by simp [LS.mv, LS.put, LS.get]; omega, by simp [LS.mv, LS.put, LS.get]; omega, h5, h6⟩
    | 0, 2, _, _ => simp only [LS.get] at hk; exact ⟨by simp [LS.mv, LS.put, LS.get]; omega, by simp [LS.mv, LS.put, LS.get]; omega, by simp [LS.mv, LS.put, LS.get]; omega, by simp [LS.mv, LS.put, LS.get]; omega, h5, h6⟩
    | 1, 0, _, _ => simp only [LS.get] at hk; exact ⟨by simp [LS.mv, LS.put, LS.get]; omega, by simp [LS.mv, LS.put, LS.get]; omega, by simp [LS.mv, LS.put, LS.get]; omega, by simp [LS.mv, LS.put, LS.get]; omega, h5, h6⟩
    | 1, 2, _, _ => simp only [LS.get] at hk; exact ⟨by simp [LS.mv, LS.put, LS.get]; omega, by simp [LS.mv, LS.put, LS.get]; omega, by simp [LS.mv, LS.put, LS.get]; omega, by simp [LS.mv, LS.put, LS.get]; omega, h5, h6⟩
    | 2, 0, _, _ => simp only [LS.get] at hk; exact ⟨by simp [LS.mv, LS.put, LS.get]; omega, by simp [LS.mv, LS.put, LS.get]; omega, by simp [LS.mv, LS.put, LS.get]; omega, by simp [LS.mv, LS.put, LS.get]; omega, h5, h6⟩
    | 2, 1, _, _ => simp only [LS.get] at hk; exact ⟨by simp [LS.mv, LS.put, LS.get]; omega, by simp [LS.mv, LS.put, LS.get]; omega, by simp [LS.mv, LS.put, LS.get]; omega, by simp [LS.mv, LS.put, LS.get]; omega, h5, h6⟩
    | 0, 0, _, _ => exact absurd rfl hne
    | 1, 1, _, _ => exact absurd rfl hne
    | 2, 2, _, _ => exact absurd rfl hne
  · exact h
set_option maxRecDepth 100000 in
set_option maxHeartbeats 800000 in
theorem turn_any {S : Sens} {L hb i j : Nat} {s : LS} (w : World) (hS : Sen S L w) (h : Blk w hb s.cs 71) (ho : s.Ok) (hi : i < 3) (hj : j < 3) (hne : i ≠ j) (k : Int) :
    Calls Tryd.prog 56 #[.int .i64 k, .pointer (some ⟨hb, i, none⟩), .pointer (some ⟨hb, j, none⟩)] w fun r w' => r = .returned (errV S (s.tcode i k)) ∧ Blk w' hb (s.tnext i j k).cs 71 ∧ Stq hb w w' := by
  have ha := amount_any k w
  have v0 := hS.v0
  have v2 := hS.v2
  have ci : w.cell? ⟨hb, i, none⟩ = some (.int .i64 (s.get i)) := (h.cell i).trans (s.cs_get i hi)
  have zi := h.frozen i
  have hgi := s.get_le ho i
  have hgj : 0 ≤ (s.put i (s.get i - k)).get j ∧ (s.put i (s.get i - k)).get j ≤ 1099511627776 := by
    have := s.get_le ho j
    match i, j, hi, hj with
    | 0, 1, _, _ => exact this
    | 0, 2, _, _ => exact this
    | 1, 0, _, _ => exact this
    | 1, 2, _, _ => exact this
    | 2, 0, _, _ => exact this
    | 2, 1, _, _ => exact this
    | 0, 0, _, _ => exact absurd rfl hne
    | 1, 1, _, _ => exact absurd rfl hne
    | 2, 2, _, _ => exact absurd rfl hne
  have h1 := h.set i (.int .i64 (s.get i - k))
  rw [s.cs_put i hi] at h1
  have cj : (w.setCell ⟨hb, i, none⟩ (.int .i64 (s.get i - k))).cell? ⟨hb, j, none⟩ = some (.int .i64 ((s.put i (s.get i - k)).get j)) := (h1.cell j).trans (LS.cs_get _ j hj)
  have zj := h1.frozen j
  have h2 := h1.set j (.int .i64 ((s.put i (s.get i - k)).get j + k))
  rw [LS.cs_put _ j hj] at h2
  have H2 : Hid _ := h2
  have HB : Hid _ := h
  clear h1 h2 h ho hS
  by_cases hk : okAmt k = true
  · have hk' : 1 ≤ k ∧ k ≤ 1099511627776 := by simpa [okAmt] using hk
    by_cases hlt : s.get i < k
    · have e : s.tcode i k = 60 := by simp [LS.tcode, hk, hlt]
      rw [e, show s.tnext i j k = s from by simp [LS.tnext, e]]
      show Calls Tryd.prog 56 _ w fun r w' => r = .returned (.iface 143 (.pointer (some S.a2))) ∧ _
      rw [hk] at ha
      generalize s.get i = x at *
      go_enter Tryd.func56, Tryd.ntmps56
      go_wp2_with fail
      refine ha.mono ?_
      rintro e w' ⟨rfl, rfl⟩
      go_wp2_with fail
      go_ret
      exact ⟨rfl, HB.out, Stq.refl _ _⟩
    · have e : s.tcode i k = 0 := by simp [LS.tcode, hk, hlt]
      rw [e, show s.tnext i j k = s.mv i j k from by simp [LS.tnext, e]]
      show Calls Tryd.prog 56 _ w fun r w' => r = .returned .nilIface ∧ _
      rw [hk] at ha
      unfold LS.mv
      generalize (s.put i (s.get i - k)).get j = y at *
      generalize s.get i = x at *
      have H3 : Hid _ := (Stq.set hb i (.int .i64 (x - k)) w).trans (Stq.set hb j (.int .i64 (y + k)) _)
      go_enter Tryd.func56, Tryd.ntmps56
      go_wp2_with fail
      refine ha.mono ?_
      rintro e w' ⟨rfl, rfl⟩
      go_wp2_with fail
      go_ret
      exact ⟨rfl, H2.out, H3.out⟩
  · have hk2 : okAmt k = false := by simpa using hk
    have e : s.tcode i k = 1 := by simp [LS.tcode, hk2]
    rw [e, show s.tnext i j k = s from by simp [LS.tnext, e]]
    show Calls Tryd.prog 56 _ w fun r w' => r = .returned (.iface 143 (.pointer (some S.a0))) ∧ _
    rw [hk2] at ha
    go_enter Tryd.func56, Tryd.ntmps56
    go_wp2_with fail
    refine ha.mono ?_
    rintro e w' ⟨rfl, rfl⟩
    go_wp2_with fail
    go_ret
    exact ⟨rfl, HB.out, Stq.refl _ _⟩
end Go.Proofs.YtkdndfdofhnagaaDoor
namespace Go.Proofs.YtkdndfdofhnagaaDoor
open Go.RowKit Go.PlainAid
set_option linter.unusedVariables false
set_option linter.unusedSimpArgs false
section
variable {ops : Array Oper} {C : World → Prop} {eff : Nat → Bool} {Q : Act → World → Prop} {a : Act} {w w1 : World} {rest : List Oper} {o : Oper} {f : Nat → Value} {N d k z : Nat}
theorem lep (hF : Fr N a f) (he : eff k = true) (hC : C w) (hd : o.dst = some d) (hN : d < N) (hw : Region.wanted o (yielded ops a.tmps) = true) {v : Value} (hr : (execOp a.eval o).run Tryd.prog w = .ok (.value v) w1)
    (h : Fr N (a.put (some d) v) (upd f d v) → wpLex Tryd.prog ops C eff z Q rest (k + 1) (a.put (some d) v) w1) : wpLex Tryd.prog ops C eff z Q (o :: rest) k a w := by
  refine ⟨hC, ?_⟩
  rw [if_pos he]
  exact Or.inl ⟨hw, Or.inl ⟨v, w1, Or.inl hr, by rw [hd]; exact h (hF.put d v hN)⟩⟩
theorem lnp (hF : Fr N a f) (he : eff k = false) (hC : C w) (hd : o.dst = some d) (hN : d < N) (hw : Region.wanted o (yielded ops a.tmps) = false)
    (h : Fr N (a.put (some d) undef) (upd f d undef) → wpLex Tryd.prog ops C eff z Q rest (k + 1) (a.put (some d) undef) w) : wpLex Tryd.prog ops C eff z Q (o :: rest) k a w := by
  refine ⟨hC, ?_⟩
  rw [if_neg (by rw [he]; simp)]
  exact ⟨undef, Or.inr ⟨hw, rfl⟩, by rw [hd]; exact h (hF.put d undef hN)⟩
theorem want_yes {i : Nat} {b : Bool} (hF : Fr N a f) (hg : o.guard = some (i, b)) {e : Nat} (ho : (ops[i]?).bind (·.dst) = some e) (he : e < N) (hb : f e = .bool b) : Region.wanted o (yielded ops a.tmps) = true := by
  rw [wanted_some hg, hF.yields ho he hb]
  simp
theorem want_no {i : Nat} {b c : Bool} (hF : Fr N a f) (hg : o.guard = some (i, b)) {e : Nat} (ho : (ops[i]?).bind (·.dst) = some e) (he : e < N) (hb : f e = .bool c) (hne : c ≠ b) : Region.wanted o (yielded ops a.tmps) = false := by
  rw [wanted_some hg, hF.yields ho he hb]
  simp [hne]
theorem want_not {i : Nat} {b : Bool} (hF : Fr N a f) (hg : o.guard = some (i, b)) {e : Nat} (ho : (ops[i]?).bind (·.dst) = some e) (he : e < N) (hb : f e = undef) : Region.wanted o (yielded ops a.tmps) = false := by
  rw [wanted_some hg, hF.yieldsNot ho he hb]
  rfl
end
set_option maxRecDepth 100000 in
set_option maxHeartbeats 1600000 in
theorem lock_any {S : Sens} {L hb : Nat} {s : LS} (w : World) (hS : Sen S L w) (h : Blk w hb s.cs 71) (ho : s.Ok) (hL : L ≤ hb) (k : Int) :
    Calls Tryd.prog 36 #[.pointer (some ⟨hb, 0, none⟩), .int .i64 k] w fun r w' => r = .returned (.int .i64 (s.tcode 0 k)) ∧ Blk w' hb (s.tnext 0 2 k).cs 71 ∧ Stq hb w w' := by
  have hLw : L ≤ w.heap.size := Nat.le_of_lt (Nat.lt_of_le_of_lt hL h.lt)
  go_enter Tryd.func36, Tryd.ntmps36
  go_wp2_with fail
  rename_i K hK
  try rw [show ∀ a : Act, a.put none undef = a from fun _ => rfl]
  refine wp_region_mix (fun _ => True) (fun i => i == 8 || i == 9 || i == 11) 11 (by kernel_rfl) rfl (by kernel_rfl) (by kernel_rfl) (by kernel_rfl) ?_
  have hC : True := trivial
  have hX : Sen S L ({ w with drawn := w.drawn + 1 } : World) := hS.below ⟨rfl, rfl, rfl, Nat.le_refl _, fun _ _ => rfl⟩
  have hY : Blk ({ w with drawn := w.drawn + 1 } : World) hb s.cs 71 := h
  have hZ : Stq hb w ({ w with drawn := w.drawn + 1 } : World) := ⟨rfl, rfl, rfl, Nat.le_refl _, fun _ _ _ => rfl⟩
  generalize ({ w with drawn := w.drawn + 1 } : World) = X at *
  refine withFrP (N := 15) rfl ?_
  intro f0 F0 hff
  have hs0 : f0 0 = Value.pointer (some ⟨hb, 0, none⟩) := hff 0
  have hs1 : f0 1 = Value.int .i64 k := hff 1
  clear hff
  refine lyp F0 rfl hC rfl (by omega) (wanted_none rfl) (v := Value.int .i64 k) (fun wr hwr => by simp only [execOp, (F0.eval 1 (by omega)).trans (show _ = Value.int .i64 k from by simp [upd, hs0, hs1])]; first | rfl | simp [go_sem]) fun F1 => ?_
  refine lyp F1 rfl hC rfl (by omega) (wanted_none rfl) (v := Value.pointer (some ⟨hb, 0, none⟩)) (fun wr hwr => by simp only [execOp, (F1.eval 0 (by omega)).trans (show _ = Value.pointer (some ⟨hb, 0, none⟩) from by simp [upd, hs0, hs1])]; first | rfl | simp [go_sem]) fun F2 => ?_
  refine lyp F2 rfl hC rfl (by omega) (wanted_none rfl) (v := Value.pointer (some ⟨hb, 0, none⟩)) (fun wr hwr => by simp only [execOp, (F2.eval 6 (by omega)).trans (show _ = Value.pointer (some ⟨hb, 0, none⟩) from by simp [upd, hs0, hs1])]; first | rfl | simp [go_sem]) fun F3 => ?_
  refine lyp F3 rfl hC rfl (by omega) (wanted_none rfl) (v := Value.pointer (some ⟨hb, 0, none⟩)) (fun wr hwr => by simp only [execOp, (F3.eval 7 (by omega)).trans (show _ = Value.pointer (some ⟨hb, 0, none⟩) from by simp [upd, hs0, hs1])]; first | rfl | simp [go_sem]) fun F4 => ?_
  refine lyp F4 rfl hC rfl (by omega) (wanted_none rfl) (v := Value.pointer (some ⟨hb, 0, none⟩)) (fun wr hwr => by simp only [execOp, (F4.eval 8 (by omega)).trans (show _ = Value.pointer (some ⟨hb, 0, none⟩) from by simp [upd, hs0, hs1])]; first | rfl | simp [go_sem]) fun F5 => ?_
  refine lyp F5 rfl hC rfl (by omega) (wanted_none rfl) (v := Value.pointer (some ⟨hb, 0, none⟩)) (fun wr hwr => by simp only [execOp, (F5.eval 0 (by omega)).trans (show _ = Value.pointer (some ⟨hb, 0, none⟩) from by simp [upd, hs0, hs1])]; first | rfl | simp [go_sem]) fun F6 => ?_
  refine lyp F6 rfl hC rfl (by omega) (wanted_none rfl) (v := Value.pointer (some ⟨hb, 0, none⟩)) (fun wr hwr => by simp only [execOp, (F6.eval 10 (by omega)).trans (show _ = Value.pointer (some ⟨hb, 0, none⟩) from by simp [upd, hs0, hs1])]; first | rfl | simp [go_sem]) fun F7 => ?_
  refine lyp F7 rfl hC rfl (by omega) (wanted_none rfl) (v := Value.pointer (some ⟨hb, 2, none⟩)) (fun wr hwr => by simp only [execOp, (F7.eval 11 (by omega)).trans (show _ = Value.pointer (some ⟨hb, 0, none⟩) from by simp [upd, hs0, hs1])]; first | rfl | simp [go_sem]) fun F8 => ?_
  refine lcp F8 rfl hC rfl (by omega) (wanted_none rfl) (g := 56) (args := #[Value.int .i64 k, Value.pointer (some ⟨hb, 0, none⟩), Value.pointer (some ⟨hb, 2, none⟩)]) (by simp only [execOp, resolve, invoke, List.map_toArray, List.map_cons, List.map_nil, (F8.eval 5 (by omega)).trans (show _ = Value.int .i64 k from by simp [upd, hs0, hs1]), (F8.eval 9 (by omega)).trans (show _ = Value.pointer (some ⟨hb, 0, none⟩) from by simp [upd, hs0, hs1]), (F8.eval 12 (by omega)).trans (show _ = Value.pointer (some ⟨hb, 2, none⟩) from by simp [upd, hs0, hs1])]; simp [go_sem, Act.eval]) (turn_any X hX hY ho (i := 0) (j := 2) (by omega) (by omega) (by omega) k) ?_
  rintro e1 w1 ⟨rfl, hB1, hT1⟩
  refine ⟨_, rfl, fun F9 => ?_⟩
  have hX1 := hX.below (hT1.below (L := L) (Nat.le_trans hLw hZ.size) hL)
  refine lcp F9 rfl hC rfl (by omega) (wanted_none rfl) (g := 35) (args := #[errV S (s.tcode 0 k)]) (by simp only [execOp, resolve, invoke, List.map_toArray, List.map_cons, List.map_nil, (F9.eval 13 (by omega)).trans (show _ = errV S (s.tcode 0 k) from by simp [upd, hs0, hs1])]; simp [go_sem, Act.eval]) (told_any w1 hX1 _ (s.tcode_is 0 k)) ?_
  rintro e2 w2 ⟨rfl, rfl⟩
  refine ⟨_, rfl, fun F10 => ?_⟩
  refine lyp F10 rfl hC rfl (by omega) (wanted_none rfl) (v := Value.int .i64 (s.tcode 0 k)) (fun wr hwr => by simp only [execOp, (F10.eval 14 (by omega)).trans (show _ = Value.int .i64 (s.tcode 0 k) from by simp [upd, hs0, hs1])]; first | rfl | simp [go_sem]) fun F11 => ?_
  refine ⟨fun _ => hC, ?_⟩
  refine hK _ _ ?_
  clear F0 F1 F2 F3 F4 F5 F6 F7 F8 F9 F10 F11 hs0 hs1
  simp only [Act.put, List.setIfInBounds_toArray, List.set_cons_succ, List.set_cons_zero]
  have H1 : Hid _ := hB1
  have H2 : Hid _ := hZ.trans hT1
  clear hC hK hB1 hT1 hX hY hZ hX1 h hS ho
  go_wp2_with fail
  go_ret
  exact ⟨rfl, H1.out, H2.out⟩
set_option maxRecDepth 100000 in
set_option maxHeartbeats 1600000 in
theorem free_any {S : Sens} {L hb : Nat} {s : LS} (w : World) (hS : Sen S L w) (h : Blk w hb s.cs 71) (ho : s.Ok) (hL : L ≤ hb) (k : Int) :
    Calls Tryd.prog 40 #[.pointer (some ⟨hb, 0, none⟩), .int .i64 k] w fun r w' => r = .returned (.int .i64 (s.tcode 2 k)) ∧ Blk w' hb (s.tnext 2 0 k).cs 71 ∧ Stq hb w w' := by
  have hLw : L ≤ w.heap.size := Nat.le_of_lt (Nat.lt_of_le_of_lt hL h.lt)
  go_enter Tryd.func40, Tryd.ntmps40
  go_wp2_with fail
  rename_i K hK
  try rw [show ∀ a : Act, a.put none undef = a from fun _ => rfl]
  refine wp_region_mix (fun _ => True) (fun i => i == 8 || i == 9 || i == 11) 11 (by kernel_rfl) rfl (by kernel_rfl) (by kernel_rfl) (by kernel_rfl) ?_
  have hC : True := trivial
  have hX : Sen S L ({ w with drawn := w.drawn + 1 } : World) := hS.below ⟨rfl, rfl, rfl, Nat.le_refl _, fun _ _ => rfl⟩
  have hY : Blk ({ w with drawn := w.drawn + 1 } : World) hb s.cs 71 := h
  have hZ : Stq hb w ({ w with drawn := w.drawn + 1 } : World) := ⟨rfl, rfl, rfl, Nat.le_refl _, fun _ _ _ => rfl⟩
  generalize ({ w with drawn := w.drawn + 1 } : World) = X at *
  refine withFrP (N := 15) rfl ?_
  intro f0 F0 hff
  have hs0 : f0 0 = Value.pointer (some ⟨hb, 0, none⟩) := hff 0
  have hs1 : f0 1 = Value.int .i64 k := hff 1
  clear hff
  refine lyp F0 rfl hC rfl (by omega) (wanted_none rfl) (v := Value.int .i64 k) (fun wr hwr => by simp only [execOp, (F0.eval 1 (by omega)).trans (show _ = Value.int .i64 k from by simp [upd, hs0, hs1])]; first | rfl | simp [go_sem]) fun F1 => ?_
  refine lyp F1 rfl hC rfl (by omega) (wanted_none rfl) (v := Value.pointer (some ⟨hb, 0, none⟩)) (fun wr hwr => by simp only [execOp, (F1.eval 0 (by omega)).trans (show _ = Value.pointer (some ⟨hb, 0, none⟩) from by simp [upd, hs0, hs1])]; first | rfl | simp [go_sem]) fun F2 => ?_
  refine lyp F2 rfl hC rfl (by omega) (wanted_none rfl) (v := Value.pointer (some ⟨hb, 0, none⟩)) (fun wr hwr => by simp only [execOp, (F2.eval 6 (by omega)).trans (show _ = Value.pointer (some ⟨hb, 0, none⟩) from by simp [upd, hs0, hs1])]; first | rfl | simp [go_sem]) fun F3 => ?_
  refine lyp F3 rfl hC rfl (by omega) (wanted_none rfl) (v := Value.pointer (some ⟨hb, 2, none⟩)) (fun wr hwr => by simp only [execOp, (F3.eval 7 (by omega)).trans (show _ = Value.pointer (some ⟨hb, 0, none⟩) from by simp [upd, hs0, hs1])]; first | rfl | simp [go_sem]) fun F4 => ?_
  refine lyp F4 rfl hC rfl (by omega) (wanted_none rfl) (v := Value.pointer (some ⟨hb, 0, none⟩)) (fun wr hwr => by simp only [execOp, (F4.eval 0 (by omega)).trans (show _ = Value.pointer (some ⟨hb, 0, none⟩) from by simp [upd, hs0, hs1])]; first | rfl | simp [go_sem]) fun F5 => ?_
  refine lyp F5 rfl hC rfl (by omega) (wanted_none rfl) (v := Value.pointer (some ⟨hb, 0, none⟩)) (fun wr hwr => by simp only [execOp, (F5.eval 9 (by omega)).trans (show _ = Value.pointer (some ⟨hb, 0, none⟩) from by simp [upd, hs0, hs1])]; first | rfl | simp [go_sem]) fun F6 => ?_
  refine lyp F6 rfl hC rfl (by omega) (wanted_none rfl) (v := Value.pointer (some ⟨hb, 0, none⟩)) (fun wr hwr => by simp only [execOp, (F6.eval 10 (by omega)).trans (show _ = Value.pointer (some ⟨hb, 0, none⟩) from by simp [upd, hs0, hs1])]; first | rfl | simp [go_sem]) fun F7 => ?_
  refine lyp F7 rfl hC rfl (by omega) (wanted_none rfl) (v := Value.pointer (some ⟨hb, 0, none⟩)) (fun wr hwr => by simp only [execOp, (F7.eval 11 (by omega)).trans (show _ = Value.pointer (some ⟨hb, 0, none⟩) from by simp [upd, hs0, hs1])]; first | rfl | simp [go_sem]) fun F8 => ?_
  refine lcp F8 rfl hC rfl (by omega) (wanted_none rfl) (g := 56) (args := #[Value.int .i64 k, Value.pointer (some ⟨hb, 2, none⟩), Value.pointer (some ⟨hb, 0, none⟩)]) (by simp only [execOp, resolve, invoke, List.map_toArray, List.map_cons, List.map_nil, (F8.eval 5 (by omega)).trans (show _ = Value.int .i64 k from by simp [upd, hs0, hs1]), (F8.eval 8 (by omega)).trans (show _ = Value.pointer (some ⟨hb, 2, none⟩) from by simp [upd, hs0, hs1]), (F8.eval 12 (by omega)).trans (show _ = Value.pointer (some ⟨hb, 0, none⟩) from by simp [upd, hs0, hs1])]; simp [go_sem, Act.eval]) (turn_any X hX hY ho (i := 2) (j := 0) (by omega) (by omega) (by omega) k) ?_
  rintro e1 w1 ⟨rfl, hB1, hT1⟩
  refine ⟨_, rfl, fun F9 => ?_⟩
  have hX1 := hX.below (hT1.below (L := L) (Nat.le_trans hLw hZ.size) hL)
  refine lcp F9 rfl hC rfl (by omega) (wanted_none rfl) (g := 35) (args := #[errV S (s.tcode 2 k)]) (by simp only [execOp, resolve, invoke, List.map_toArray, List.map_cons, List.map_nil, (F9.eval 13 (by omega)).trans (show _ = errV S (s.tcode 2 k) from by simp [upd, hs0, hs1])]; simp [go_sem, Act.eval]) (told_any w1 hX1 _ (s.tcode_is 2 k)) ?_
  rintro e2 w2 ⟨rfl, rfl⟩
  refine ⟨_, rfl, fun F10 => ?_⟩
  refine lyp F10 rfl hC rfl (by omega) (wanted_none rfl) (v := Value.int .i64 (s.tcode 2 k)) (fun wr hwr => by simp only [execOp, (F10.eval 14 (by omega)).trans (show _ = Value.int .i64 (s.tcode 2 k) from by simp [upd, hs0, hs1])]; first | rfl | simp [go_sem]) fun F11 => ?_
  refine ⟨fun _ => hC, ?_⟩
  refine hK _ _ ?_
  clear F0 F1 F2 F3 F4 F5 F6 F7 F8 F9 F10 F11 hs0 hs1
  simp only [Act.put, List.setIfInBounds_toArray, List.set_cons_succ, List.set_cons_zero]
  have H1 : Hid _ := hB1
  have H2 : Hid _ := hZ.trans hT1
  clear hC hK hB1 hT1 hX hY hZ hX1 h hS ho
  go_wp2_with fail
  go_ret
  exact ⟨rfl, H1.out, H2.out⟩
set_option maxRecDepth 100000 in
set_option maxHeartbeats 1600000 in
theorem burn_any {S : Sens} {L hb : Nat} {s : LS} (w : World) (hS : Sen S L w) (h : Blk w hb s.cs 71) (ho : s.Ok) (hL : L ≤ hb) (k : Int) :
    Calls Tryd.prog 39 #[.pointer (some ⟨hb, 0, none⟩), .int .i64 k] w fun r w' => r = .returned (.int .i64 (s.tcode 2 k)) ∧ Blk w' hb (s.tnext 2 1 k).cs 71 ∧ Stq hb w w' := by
  have hLw : L ≤ w.heap.size := Nat.le_of_lt (Nat.lt_of_le_of_lt hL h.lt)
  go_enter Tryd.func39, Tryd.ntmps39
  go_wp2_with fail
  rename_i K hK
  try rw [show ∀ a : Act, a.put none undef = a from fun _ => rfl]
  refine wp_region_mix (fun _ => True) (fun i => i == 8 || i == 9 || i == 11) 11 (by kernel_rfl) rfl (by kernel_rfl) (by kernel_rfl) (by kernel_rfl) ?_
  have hC : True := trivial
  have hX : Sen S L ({ w with drawn := w.drawn + 1 } : World) := hS.below ⟨rfl, rfl, rfl, Nat.le_refl _, fun _ _ => rfl⟩
  have hY : Blk ({ w with drawn := w.drawn + 1 } : World) hb s.cs 71 := h
  have hZ : Stq hb w ({ w with drawn := w.drawn + 1 } : World) := ⟨rfl, rfl, rfl, Nat.le_refl _, fun _ _ _ => rfl⟩
  generalize ({ w with drawn := w.drawn + 1 } : World) = X at *
  refine withFrP (N := 15) rfl ?_
  intro f0 F0 hff
  have hs0 : f0 0 = Value.pointer (some ⟨hb, 0, none⟩) := hff 0
  have hs1 : f0 1 = Value.int .i64 k := hff 1
  clear hff
  refine lyp F0 rfl hC rfl (by omega) (wanted_none rfl) (v := Value.int .i64 k) (fun wr hwr => by simp only [execOp, (F0.eval 1 (by omega)).trans (show _ = Value.int .i64 k from by simp [upd, hs0, hs1])]; first | rfl | simp [go_sem]) fun F1 => ?_
  refine lyp F1 rfl hC rfl (by omega) (wanted_none rfl) (v := Value.pointer (some ⟨hb, 0, none⟩)) (fun wr hwr => by simp only [execOp, (F1.eval 0 (by omega)).trans (show _ = Value.pointer (some ⟨hb, 0, none⟩) from by simp [upd, hs0, hs1])]; first | rfl | simp [go_sem]) fun F2 => ?_
  refine lyp F2 rfl hC rfl (by omega) (wanted_none rfl) (v := Value.pointer (some ⟨hb, 0, none⟩)) (fun wr hwr => by simp only [execOp, (F2.eval 6 (by omega)).trans (show _ = Value.pointer (some ⟨hb, 0, none⟩) from by simp [upd, hs0, hs1])]; first | rfl | simp [go_sem]) fun F3 => ?_
  refine lyp F3 rfl hC rfl (by omega) (wanted_none rfl) (v := Value.pointer (some ⟨hb, 2, none⟩)) (fun wr hwr => by simp only [execOp, (F3.eval 7 (by omega)).trans (show _ = Value.pointer (some ⟨hb, 0, none⟩) from by simp [upd, hs0, hs1])]; first | rfl | simp [go_sem]) fun F4 => ?_
  refine lyp F4 rfl hC rfl (by omega) (wanted_none rfl) (v := Value.pointer (some ⟨hb, 0, none⟩)) (fun wr hwr => by simp only [execOp, (F4.eval 0 (by omega)).trans (show _ = Value.pointer (some ⟨hb, 0, none⟩) from by simp [upd, hs0, hs1])]; first | rfl | simp [go_sem]) fun F5 => ?_
  refine lyp F5 rfl hC rfl (by omega) (wanted_none rfl) (v := Value.pointer (some ⟨hb, 0, none⟩)) (fun wr hwr => by simp only [execOp, (F5.eval 9 (by omega)).trans (show _ = Value.pointer (some ⟨hb, 0, none⟩) from by simp [upd, hs0, hs1])]; first | rfl | simp [go_sem]) fun F6 => ?_
  refine lyp F6 rfl hC rfl (by omega) (wanted_none rfl) (v := Value.pointer (some ⟨hb, 0, none⟩)) (fun wr hwr => by simp only [execOp, (F6.eval 10 (by omega)).trans (show _ = Value.pointer (some ⟨hb, 0, none⟩) from by simp [upd, hs0, hs1])]; first | rfl | simp [go_sem]) fun F7 => ?_
  refine lyp F7 rfl hC rfl (by omega) (wanted_none rfl) (v := Value.pointer (some ⟨hb, 1, none⟩)) (fun wr hwr => by simp only [execOp, (F7.eval 11 (by omega)).trans (show _ = Value.pointer (some ⟨hb, 0, none⟩) from by simp [upd, hs0, hs1])]; first | rfl | simp [go_sem]) fun F8 => ?_
  refine lcp F8 rfl hC rfl (by omega) (wanted_none rfl) (g := 56) (args := #[Value.int .i64 k, Value.pointer (some ⟨hb, 2, none⟩), Value.pointer (some ⟨hb, 1, none⟩)]) (by simp only [execOp, resolve, invoke, List.map_toArray, List.map_cons, List.map_nil, (F8.eval 5 (by omega)).trans (show _ = Value.int .i64 k from by simp [upd, hs0, hs1]), (F8.eval 8 (by omega)).trans (show _ = Value.pointer (some ⟨hb, 2, none⟩) from by simp [upd, hs0, hs1]), (F8.eval 12 (by omega)).trans (show _ = Value.pointer (some ⟨hb, 1, none⟩) from by simp [upd, hs0, hs1])]; simp [go_sem, Act.eval]) (turn_any X hX hY ho (i := 2) (j := 1) (by omega) (by omega) (by omega) k) ?_
  rintro e1 w1 ⟨rfl, hB1, hT1⟩
  refine ⟨_, rfl, fun F9 => ?_⟩
  have hX1 := hX.below (hT1.below (L := L) (Nat.le_trans hLw hZ.size) hL)
  refine lcp F9 rfl hC rfl (by omega) (wanted_none rfl) (g := 35) (args := #[errV S (s.tcode 2 k)]) (by simp only [execOp, resolve, invoke, List.map_toArray, List.map_cons, List.map_nil, (F9.eval 13 (by omega)).trans (show _ = errV S (s.tcode 2 k) from by simp [upd, hs0, hs1])]; simp [go_sem, Act.eval]) (told_any w1 hX1 _ (s.tcode_is 2 k)) ?_
  rintro e2 w2 ⟨rfl, rfl⟩
  refine ⟨_, rfl, fun F10 => ?_⟩
  refine lyp F10 rfl hC rfl (by omega) (wanted_none rfl) (v := Value.int .i64 (s.tcode 2 k)) (fun wr hwr => by simp only [execOp, (F10.eval 14 (by omega)).trans (show _ = Value.int .i64 (s.tcode 2 k) from by simp [upd, hs0, hs1])]; first | rfl | simp [go_sem]) fun F11 => ?_
  refine ⟨fun _ => hC, ?_⟩
  refine hK _ _ ?_
  clear F0 F1 F2 F3 F4 F5 F6 F7 F8 F9 F10 F11 hs0 hs1
  simp only [Act.put, List.setIfInBounds_toArray, List.set_cons_succ, List.set_cons_zero]
  have H1 : Hid _ := hB1
  have H2 : Hid _ := hZ.trans hT1
  clear hC hK hB1 hT1 hX hY hZ hX1 h hS ho
  go_wp2_with fail
  go_ret
  exact ⟨rfl, H1.out, H2.out⟩
end Go.Proofs.YtkdndfdofhnagaaDoor
