import Derived.Test.YtkdndfdofhnagaaDoorJD
namespace Go.Proofs.YtkdndfdofhnagaaDoor
open Go.RowKit Go.PlainAid
set_option linter.unusedVariables false
set_option linter.unusedSimpArgs false
theorem okAmt_no {k : Int} (h : okAmt k = false) : k < 1 ∨ 1099511627776 < k := by
  by_cases h1 : k < 1
  · exact Or.inl h1
  · by_cases h2 : 1099511627776 < k
    · exact Or.inr h2
    · rw [show okAmt k = true from by simp [okAmt]; omega] at h; cases h
theorem okAmt_yes {k : Int} (h : okAmt k = true) : 1 ≤ k ∧ k ≤ 1099511627776 := by simpa [okAmt] using h
set_option maxRecDepth 100000 in
set_option maxHeartbeats 800000 in
theorem rnew_any (k : Int) (w : World) (hk : okAmt k = true) : Calls Tryd.prog 29 #[.int .i64 k] w fun r w' => r = .returned (.tuple #[.pointer (some ⟨w.heap.size, 0, none⟩), .int .i64 0]) ∧ w' = w.alloc (.cells (LS.mk 0 0 0 k 0).cs 89) := by
  have ha := okAmt_yes hk
  show Calls Tryd.prog 29 _ w fun r w' => _ ∧ w' = w.alloc (.cells #[.int .i64 0, .int .i64 0, .int .i64 0, .int .i64 k, .int .i64 0] 89)
  go_enter Tryd.func29, Tryd.ntmps29
  go_wp2
  go_ret2
  exact ⟨rfl, rfl⟩
set_option maxRecDepth 100000 in
set_option maxHeartbeats 800000 in
theorem rnew_no (k : Int) (w : World) (hk : okAmt k = false) : Calls Tryd.prog 29 #[.int .i64 k] w fun r w' => r = .returned (.tuple #[.pointer none, .int .i64 1]) ∧ w' = w := by
  by_cases h1 : k < 1
  · go_enter Tryd.func29, Tryd.ntmps29
    go_wp2
    go_ret2
    exact ⟨rfl, rfl⟩
  · have h2 : 1099511627776 < k := by rcases okAmt_no hk with h | h <;> omega
    go_enter Tryd.func29, Tryd.ntmps29
    go_wp2
    go_ret2
    exact ⟨rfl, rfl⟩
set_option maxRecDepth 100000 in
set_option maxHeartbeats 800000 in
theorem rheld_any {hb : Nat} {s : LS} (w : World) (h : Blk w hb s.cs 89) : Calls Tryd.prog 53 #[.pointer (some ⟨hb, 0, none⟩)] w fun r w' => r = .returned (.int .i64 s.h) ∧ w' = w := by
  have c2 : w.cell? ⟨hb, 2, none⟩ = some (.int .i64 s.h) := h.cell 2
  go_enter Tryd.func53, Tryd.ntmps53
  go_wp2
  go_ret
  exact ⟨rfl, rfl⟩
set_option maxRecDepth 100000 in
set_option maxHeartbeats 800000 in
theorem rall_any {hb : Nat} {s : LS} (w : World) (h : Blk w hb s.cs 89) (ho : s.Ok) :
    Calls Tryd.prog 62 #[.pointer (some ⟨hb, 0, none⟩)] w fun r w' => r = .returned (.int .i64 s.all) ∧ ∃ q, w' = w.drewN q := by
  obtain ⟨d, u, x, c, n⟩ := s
  obtain ⟨h1, h2, h3, h4, h5, h6⟩ := ho
  simp only at h1 h2 h3 h4 h5 h6
  have c0 : w.cell? ⟨hb, 0, none⟩ = some (.int .i64 d) := h.cell 0
  have c1 : w.cell? ⟨hb, 1, none⟩ = some (.int .i64 u) := h.cell 1
  have c2 : w.cell? ⟨hb, 2, none⟩ = some (.int .i64 x) := h.cell 2
  have e1 : IntKind.i64.wrap (d + u) = d + u := by rw [IntKind.wrap_i64]; omega
  have e2 : IntKind.i64.wrap (d + u + x) = d + u + x := by rw [IntKind.wrap_i64]; omega
  show Calls Tryd.prog 62 _ w fun r w' => r = .returned (.int .i64 (d + u + x)) ∧ _
  clear h
  go_enter Tryd.func62, Tryd.ntmps62
  go_wp2
  go_quiet (fail)
  go_wp2
  go_ret
  exact ⟨rfl, _, rfl⟩
theorem LS.news_cases (s : LS) (a b : Int) (h : s.news a b = false) : a < 1 ∨ (1 ≤ a ∧ 1099511627776 < a) ∨ (1 ≤ a ∧ a ≤ 1099511627776 ∧ b ≤ s.n) := by
  by_cases h1 : a < 1
  · exact Or.inl h1
  · by_cases h2 : 1099511627776 < a
    · exact Or.inr (Or.inl (by omega))
    · by_cases h3 : b ≤ s.n
      · exact Or.inr (Or.inr (by omega))
      · rw [show s.news a b = true from by simp [LS.news, okAmt]; omega] at h; cases h
end Go.Proofs.YtkdndfdofhnagaaDoor
namespace Go.Proofs.YtkdndfdofhnagaaDoor
open Go.RowKit Go.PlainAid
set_option linter.unusedVariables false
set_option linter.unusedSimpArgs false
set_option maxRecDepth 100000 in
set_option maxHeartbeats 1600000 in
theorem rturn_any {hb i j : Nat} {s : LS} (w : World) (h : Blk w hb s.cs 89) (ho : s.Ok) (hi : i < 3) (hj : j < 3) (hij : i ≠ j) (k : Int) :
    Calls Tryd.prog 63 #[.pointer (some ⟨hb, 0, none⟩), .int .i64 k, .int .i64 (i : Nat), .int .i64 (j : Nat)] w fun r w' => r = .returned (.int .i64 (s.tcode i k)) ∧ Blk w' hb (s.tnext i j k).cs 89 ∧ Stq hb w w' := by
  have hgi := s.get_le ho i
  have hgj : 0 ≤ (s.put i (s.get i - k)).get j ∧ (s.put i (s.get i - k)).get j ≤ 1099511627776 := by
    have := s.get_le ho j
    match i, j, hi, hj with
    | 0, 1, _, _ => exact this
    | 0, 2, _, _ => exact this
    | 1, 0, _, _ => exact this
    | 1, 2, _, _ => exact this
    | 2, 0, _, _ => exact this
    | 2, 1, _, _ => exact this
    | 0, 0, _, _ => exact absurd rfl hij
    | 1, 1, _, _ => exact absurd rfl hij
    | 2, 2, _, _ => exact absurd rfl hij
  have ci : w.cell? ⟨hb, i, none⟩ = some (.int .i64 (s.get i)) := (h.cell i).trans (s.cs_get i hi)
  have HB : Hid _ := h
  unfold LS.tnext
  by_cases hk : okAmt k = true
  · have hk' := okAmt_yes hk
    by_cases hlt : s.get i < k
    · rw [show s.tcode i k = 60 from by simp [LS.tcode, hk, hlt], if_neg (by decide)]
      clear h hk ho
      generalize s.get i = x at *
      go_enter Tryd.func63, Tryd.ntmps63
      go_wp2
      go_ret
      exact ⟨rfl, HB.out, Stq.refl _ _⟩
    · rw [show s.tcode i k = 0 from by simp [LS.tcode, hk, hlt], if_pos rfl]
      clear hk ho
      have hcs : s.cs.setIfInBounds i (.int .i64 (s.get i - k)) = (s.put i (s.get i - k)).cs := s.cs_put i hi _
      have hcs2 : (s.put i (s.get i - k)).cs.setIfInBounds j (.int .i64 ((s.put i (s.get i - k)).get j + k)) = (s.mv i j k).cs := LS.cs_put _ j hj _
      have hgi2 : s.cs[i]? = some (.int .i64 (s.get i)) := s.cs_get i hi
      have hgj2 : (s.put i (s.get i - k)).cs[j]? = some (.int .i64 ((s.put i (s.get i - k)).get j)) := LS.cs_get _ j hj
      generalize s.mv i j k = s3 at *
      generalize s.put i (s.get i - k) = s2 at *
      generalize s2.get j = y at *
      generalize s.get i = x at *
      have HC1 : Hid _ := hcs
      have HC2 : Hid _ := hcs2
      have HI2 : Hid _ := hgi2
      have HJ2 : Hid _ := hgj2
      clear h hcs hcs2 hgi2 hgj2
      go_enter Tryd.func63, Tryd.ntmps63
      go_wp2_with fail
      rename_i K hK
      try rw [show ∀ a : Act, a.put none undef = a from fun _ => rfl]
      have hX0 : Blk ({ w with drawn := w.drawn + 1 } : World) hb s.cs 89 := HB.out
      have hQ0 : Stq hb w ({ w with drawn := w.drawn + 1 } : World) := ⟨(Stq.refl hb w).os, (Stq.refl hb w).tape, (Stq.refl hb w).output, (Stq.refl hb w).size, (Stq.refl hb w).block⟩
      refine wp_region_mix (fun wr => wr.heap = ({ w with drawn := w.drawn + 1 } : World).heap) (fun i => i == 13) 13 (by kernel_rfl) rfl (by kernel_rfl) (by kernel_rfl) (by kernel_rfl) ?_
      generalize ({ w with drawn := w.drawn + 1 } : World) = X0 at *
      have hC : X0.heap = X0.heap := rfl
      have hci0 : X0.cell? ⟨hb, i, none⟩ = some (.int .i64 x) := (hX0.cell i).trans HI2.out
      have hzi0 := hX0.frozen i
      refine withFrP (N := 49) rfl ?_
      intro f0 F0 hff
      have hs0 : f0 0 = Value.pointer (some ⟨hb, 0, none⟩) := hff 0
      have hs1 : f0 1 = Value.int .i64 k := hff 1
      have hs2 : f0 2 = Value.int .i64 (i : Nat) := hff 2
      have hs3 : f0 3 = Value.int .i64 (j : Nat) := hff 3
      clear hff
      refine lyp F0 rfl hC rfl (by omega) (wanted_none rfl) (v := Value.pointer (some ⟨hb, 0, none⟩)) (fun wr hwr => by simp only [execOp, (F0.eval 0 (by omega)).trans (show _ = Value.pointer (some ⟨hb, 0, none⟩) from by simp [upd, hs0, hs1, hs2, hs3])]; first | rfl | simp [go_sem]) fun Fr01 => ?_
      refine lyp Fr01 rfl hC rfl (by omega) (wanted_none rfl) (v := Value.int .i64 (i : Nat)) (fun wr hwr => by simp only [execOp, (Fr01.eval 2 (by omega)).trans (show _ = Value.int .i64 (i : Nat) from by simp [upd, hs0, hs1, hs2, hs3])]; first | rfl | simp [go_sem]) fun Fr02 => ?_
      refine lyp Fr02 rfl hC rfl (by omega) (wanted_none rfl) (v := Value.pointer (some ⟨hb, 0, none⟩)) (fun wr hwr => by simp only [execOp, (Fr02.eval 0 (by omega)).trans (show _ = Value.pointer (some ⟨hb, 0, none⟩) from by simp [upd, hs0, hs1, hs2, hs3])]; first | rfl | simp [go_sem]) fun Fr03 => ?_
      refine lyp Fr03 rfl hC rfl (by omega) (wanted_none rfl) (v := Value.int .i64 (i : Nat)) (fun wr hwr => by simp only [execOp, (Fr03.eval 2 (by omega)).trans (show _ = Value.int .i64 (i : Nat) from by simp [upd, hs0, hs1, hs2, hs3])]; first | rfl | simp [go_sem]) fun Fr04 => ?_
      refine lyp Fr04 rfl hC rfl (by omega) (wanted_none rfl) (v := Value.pointer (some ⟨hb, 0, none⟩)) (fun wr hwr => by simp only [execOp, (Fr04.eval 25 (by omega)).trans (show _ = Value.pointer (some ⟨hb, 0, none⟩) from by simp [upd, hs0, hs1, hs2, hs3])]; first | rfl | simp [go_sem]) fun Fr05 => ?_
      refine lyp Fr05 rfl hC rfl (by omega) (wanted_none rfl) (v := Value.pointer (some ⟨hb, 0, none⟩)) (fun wr hwr => by simp only [execOp, (Fr05.eval 27 (by omega)).trans (show _ = Value.pointer (some ⟨hb, 0, none⟩) from by simp [upd, hs0, hs1, hs2, hs3])]; first | rfl | simp [go_sem]) fun Fr06 => ?_
      refine lyp Fr06 rfl hC rfl (by omega) (wanted_none rfl) (v := Value.pointer (some ⟨hb, i, none⟩)) (fun wr hwr => by simp only [execOp, (Fr06.eval 28 (by omega)).trans (show _ = Value.pointer (some ⟨hb, 0, none⟩) from by simp [upd, hs0, hs1, hs2, hs3]), (Fr06.eval 26 (by omega)).trans (show _ = Value.int .i64 (i : Nat) from by simp [upd, hs0, hs1, hs2, hs3])]; simp [go_sem, Act.eval]; intro hq; exfalso; omega) fun Fr07 => ?_
      refine lyp Fr07 rfl hC rfl (by omega) (wanted_none rfl) (v := Value.int .i64 x) (fun wr hwr => by simp only [execOp, (Fr07.eval 29 (by omega)).trans (show _ = Value.pointer (some ⟨hb, i, none⟩) from by simp [upd, hs0, hs1, hs2, hs3])]; simp [go_sem, ((cell_heap hwr ⟨hb, i, none⟩).trans hci0)]) fun Fr08 => ?_
      refine lyp Fr08 rfl hC rfl (by omega) (wanted_none rfl) (v := Value.int .i64 k) (fun wr hwr => by simp only [execOp, (Fr08.eval 1 (by omega)).trans (show _ = Value.int .i64 k from by simp [upd, hs0, hs1, hs2, hs3])]; first | rfl | simp [go_sem]) fun Fr09 => ?_
      refine lyp Fr09 rfl hC rfl (by omega) (wanted_none rfl) (v := Value.int .i64 (x - k)) (fun wr hwr => by simp only [execOp, (Fr09.eval 30 (by omega)).trans (show _ = Value.int .i64 x from by simp [upd, hs0, hs1, hs2, hs3]), (Fr09.eval 31 (by omega)).trans (show _ = Value.int .i64 k from by simp [upd, hs0, hs1, hs2, hs3])]; simp [go_sem, Act.eval, show IntKind.i64.wrap (x - k) = x - k from by rw [IntKind.wrap_i64]; omega]) fun Fr010 => ?_
      refine lyp Fr010 rfl hC rfl (by omega) (wanted_none rfl) (v := Value.pointer (some ⟨hb, 0, none⟩)) (fun wr hwr => by simp only [execOp, (Fr010.eval 23 (by omega)).trans (show _ = Value.pointer (some ⟨hb, 0, none⟩) from by simp [upd, hs0, hs1, hs2, hs3])]; first | rfl | simp [go_sem]) fun Fr011 => ?_
      refine lyp Fr011 rfl hC rfl (by omega) (wanted_none rfl) (v := Value.pointer (some ⟨hb, 0, none⟩)) (fun wr hwr => by simp only [execOp, (Fr011.eval 33 (by omega)).trans (show _ = Value.pointer (some ⟨hb, 0, none⟩) from by simp [upd, hs0, hs1, hs2, hs3])]; first | rfl | simp [go_sem]) fun Fr012 => ?_
      refine lyp Fr012 rfl hC rfl (by omega) (wanted_none rfl) (v := Value.pointer (some ⟨hb, i, none⟩)) (fun wr hwr => by simp only [execOp, (Fr012.eval 34 (by omega)).trans (show _ = Value.pointer (some ⟨hb, 0, none⟩) from by simp [upd, hs0, hs1, hs2, hs3]), (Fr012.eval 24 (by omega)).trans (show _ = Value.int .i64 (i : Nat) from by simp [upd, hs0, hs1, hs2, hs3])]; simp [go_sem, Act.eval]; intro hq; exfalso; omega) fun Fr013 => ?_
      refine lst rfl hC rfl (wanted_none rfl) (w1 := X0.setCell ⟨hb, i, none⟩ (Value.int .i64 (x - k))) (by simp only [execOp, (Fr013.eval 35 (by omega)).trans (show _ = Value.pointer (some ⟨hb, i, none⟩) from by simp [upd, hs0, hs1, hs2, hs3]), (Fr013.eval 32 (by omega)).trans (show _ = Value.int .i64 (x - k) from by simp [upd, hs0, hs1, hs2, hs3])]; simp [go_sem, hci0, hzi0]) ?_
      have hY0 := hX0.set i (Value.int .i64 (x - k))
      rw [HC1.out] at hY0
      have hZ0 : Blk (X0.setCell ⟨hb, i, none⟩ (Value.int .i64 (x - k))) hb s2.cs 89 := hY0
      have hR0 : Stq hb w (X0.setCell ⟨hb, i, none⟩ (Value.int .i64 (x - k))) := hQ0.trans (Stq.set hb i (Value.int .i64 (x - k)) X0)
      generalize X0.setCell ⟨hb, i, none⟩ (Value.int .i64 (x - k)) = Y0 at *
      refine ⟨fun h => by omega, ?_⟩
      refine hK _ _ ?_
      clear F0 Fr01 Fr02 Fr03 Fr04 Fr05 Fr06 Fr07 Fr08 Fr09 Fr010 Fr011 Fr012 Fr013 hs0 hs1 hs2 hs3 hK hC hci0 hzi0 hX0  hQ0 hY0
      simp only [Act.put, List.setIfInBounds_toArray, List.set_cons_succ, List.set_cons_zero]
      have HB1 : Hid _ := hZ0
      have HQ1 : Hid _ := hR0
      clear hZ0 hR0 HB ci
      go_wp2_with fail
      rename_i K hK
      try rw [show ∀ a : Act, a.put none undef = a from fun _ => rfl]
      have hX1 : Blk ({ Y0 with drawn := Y0.drawn + 1 } : World) hb s2.cs 89 := HB1.out
      have hQ1 : Stq hb w ({ Y0 with drawn := Y0.drawn + 1 } : World) := ⟨(HQ1.out).os, (HQ1.out).tape, (HQ1.out).output, (HQ1.out).size, (HQ1.out).block⟩
      refine wp_region_mix (fun wr => wr.heap = ({ Y0 with drawn := Y0.drawn + 1 } : World).heap) (fun i => i == 13) 13 (by kernel_rfl) rfl (by kernel_rfl) (by kernel_rfl) (by kernel_rfl) ?_
      generalize ({ Y0 with drawn := Y0.drawn + 1 } : World) = X1 at *
      have hC : X1.heap = X1.heap := rfl
      have hci1 : X1.cell? ⟨hb, j, none⟩ = some (.int .i64 y) := (hX1.cell j).trans HJ2.out
      have hzi1 := hX1.frozen j
      refine withFrP (N := 49) rfl ?_
      intro f0 F0 hff
      have hs0 : f0 0 = Value.pointer (some ⟨hb, 0, none⟩) := hff 0
      have hs1 : f0 1 = Value.int .i64 k := hff 1
      have hs2 : f0 2 = Value.int .i64 (i : Nat) := hff 2
      have hs3 : f0 3 = Value.int .i64 (j : Nat) := hff 3
      clear hff
      refine lyp F0 rfl hC rfl (by omega) (wanted_none rfl) (v := Value.pointer (some ⟨hb, 0, none⟩)) (fun wr hwr => by simp only [execOp, (F0.eval 0 (by omega)).trans (show _ = Value.pointer (some ⟨hb, 0, none⟩) from by simp [upd, hs0, hs1, hs2, hs3])]; first | rfl | simp [go_sem]) fun Fr11 => ?_
      refine lyp Fr11 rfl hC rfl (by omega) (wanted_none rfl) (v := Value.int .i64 (j : Nat)) (fun wr hwr => by simp only [execOp, (Fr11.eval 3 (by omega)).trans (show _ = Value.int .i64 (j : Nat) from by simp [upd, hs0, hs1, hs2, hs3])]; first | rfl | simp [go_sem]) fun Fr12 => ?_
      refine lyp Fr12 rfl hC rfl (by omega) (wanted_none rfl) (v := Value.pointer (some ⟨hb, 0, none⟩)) (fun wr hwr => by simp only [execOp, (Fr12.eval 0 (by omega)).trans (show _ = Value.pointer (some ⟨hb, 0, none⟩) from by simp [upd, hs0, hs1, hs2, hs3])]; first | rfl | simp [go_sem]) fun Fr13 => ?_
      refine lyp Fr13 rfl hC rfl (by omega) (wanted_none rfl) (v := Value.int .i64 (j : Nat)) (fun wr hwr => by simp only [execOp, (Fr13.eval 3 (by omega)).trans (show _ = Value.int .i64 (j : Nat) from by simp [upd, hs0, hs1, hs2, hs3])]; first | rfl | simp [go_sem]) fun Fr14 => ?_
      refine lyp Fr14 rfl hC rfl (by omega) (wanted_none rfl) (v := Value.pointer (some ⟨hb, 0, none⟩)) (fun wr hwr => by simp only [execOp, (Fr14.eval 38 (by omega)).trans (show _ = Value.pointer (some ⟨hb, 0, none⟩) from by simp [upd, hs0, hs1, hs2, hs3])]; first | rfl | simp [go_sem]) fun Fr15 => ?_
      refine lyp Fr15 rfl hC rfl (by omega) (wanted_none rfl) (v := Value.pointer (some ⟨hb, 0, none⟩)) (fun wr hwr => by simp only [execOp, (Fr15.eval 40 (by omega)).trans (show _ = Value.pointer (some ⟨hb, 0, none⟩) from by simp [upd, hs0, hs1, hs2, hs3])]; first | rfl | simp [go_sem]) fun Fr16 => ?_
      refine lyp Fr16 rfl hC rfl (by omega) (wanted_none rfl) (v := Value.pointer (some ⟨hb, j, none⟩)) (fun wr hwr => by simp only [execOp, (Fr16.eval 41 (by omega)).trans (show _ = Value.pointer (some ⟨hb, 0, none⟩) from by simp [upd, hs0, hs1, hs2, hs3]), (Fr16.eval 39 (by omega)).trans (show _ = Value.int .i64 (j : Nat) from by simp [upd, hs0, hs1, hs2, hs3])]; simp [go_sem, Act.eval]; intro hq; exfalso; omega) fun Fr17 => ?_
      refine lyp Fr17 rfl hC rfl (by omega) (wanted_none rfl) (v := Value.int .i64 y) (fun wr hwr => by simp only [execOp, (Fr17.eval 42 (by omega)).trans (show _ = Value.pointer (some ⟨hb, j, none⟩) from by simp [upd, hs0, hs1, hs2, hs3])]; simp [go_sem, ((cell_heap hwr ⟨hb, j, none⟩).trans hci1)]) fun Fr18 => ?_
      refine lyp Fr18 rfl hC rfl (by omega) (wanted_none rfl) (v := Value.int .i64 k) (fun wr hwr => by simp only [execOp, (Fr18.eval 1 (by omega)).trans (show _ = Value.int .i64 k from by simp [upd, hs0, hs1, hs2, hs3])]; first | rfl | simp [go_sem]) fun Fr19 => ?_
      refine lyp Fr19 rfl hC rfl (by omega) (wanted_none rfl) (v := Value.int .i64 (y + k)) (fun wr hwr => by simp only [execOp, (Fr19.eval 43 (by omega)).trans (show _ = Value.int .i64 y from by simp [upd, hs0, hs1, hs2, hs3]), (Fr19.eval 44 (by omega)).trans (show _ = Value.int .i64 k from by simp [upd, hs0, hs1, hs2, hs3])]; simp [go_sem, Act.eval, show IntKind.i64.wrap (y + k) = y + k from by rw [IntKind.wrap_i64]; omega]) fun Fr110 => ?_
      refine lyp Fr110 rfl hC rfl (by omega) (wanted_none rfl) (v := Value.pointer (some ⟨hb, 0, none⟩)) (fun wr hwr => by simp only [execOp, (Fr110.eval 36 (by omega)).trans (show _ = Value.pointer (some ⟨hb, 0, none⟩) from by simp [upd, hs0, hs1, hs2, hs3])]; first | rfl | simp [go_sem]) fun Fr111 => ?_
      refine lyp Fr111 rfl hC rfl (by omega) (wanted_none rfl) (v := Value.pointer (some ⟨hb, 0, none⟩)) (fun wr hwr => by simp only [execOp, (Fr111.eval 46 (by omega)).trans (show _ = Value.pointer (some ⟨hb, 0, none⟩) from by simp [upd, hs0, hs1, hs2, hs3])]; first | rfl | simp [go_sem]) fun Fr112 => ?_
      refine lyp Fr112 rfl hC rfl (by omega) (wanted_none rfl) (v := Value.pointer (some ⟨hb, j, none⟩)) (fun wr hwr => by simp only [execOp, (Fr112.eval 47 (by omega)).trans (show _ = Value.pointer (some ⟨hb, 0, none⟩) from by simp [upd, hs0, hs1, hs2, hs3]), (Fr112.eval 37 (by omega)).trans (show _ = Value.int .i64 (j : Nat) from by simp [upd, hs0, hs1, hs2, hs3])]; simp [go_sem, Act.eval]; intro hq; exfalso; omega) fun Fr113 => ?_
      refine lst rfl hC rfl (wanted_none rfl) (w1 := X1.setCell ⟨hb, j, none⟩ (Value.int .i64 (y + k))) (by simp only [execOp, (Fr113.eval 48 (by omega)).trans (show _ = Value.pointer (some ⟨hb, j, none⟩) from by simp [upd, hs0, hs1, hs2, hs3]), (Fr113.eval 45 (by omega)).trans (show _ = Value.int .i64 (y + k) from by simp [upd, hs0, hs1, hs2, hs3])]; simp [go_sem, hci1, hzi1]) ?_
      have hY1 := hX1.set j (Value.int .i64 (y + k))
      rw [HC2.out] at hY1
      have hZ1 : Blk (X1.setCell ⟨hb, j, none⟩ (Value.int .i64 (y + k))) hb s3.cs 89 := hY1
      have hR1 : Stq hb w (X1.setCell ⟨hb, j, none⟩ (Value.int .i64 (y + k))) := hQ1.trans (Stq.set hb j (Value.int .i64 (y + k)) X1)
      generalize X1.setCell ⟨hb, j, none⟩ (Value.int .i64 (y + k)) = Y1 at *
      refine ⟨fun h => by omega, ?_⟩
      refine hK _ _ ?_
      clear F0 Fr11 Fr12 Fr13 Fr14 Fr15 Fr16 Fr17 Fr18 Fr19 Fr110 Fr111 Fr112 Fr113 hs0 hs1 hs2 hs3 hK hC hci1 hzi1 hX1  hQ1 hY1
      simp only [Act.put, List.setIfInBounds_toArray, List.set_cons_succ, List.set_cons_zero]
      have HB2 : Hid _ := hZ1
      have HQ2 : Hid _ := hR1
      clear hZ1 hR1 HB1 HQ1
      go_wp2_with fail
      go_ret
      exact ⟨rfl, HB2.out, HQ2.out⟩
  · have hk2 : okAmt k = false := by simpa using hk
    rw [show s.tcode i k = 1 from by simp [LS.tcode, hk2], if_neg (by decide)]
    clear h hk ho
    have hc := okAmt_no hk2
    clear hk2
    by_cases h1 : k < 1
    · go_enter Tryd.func63, Tryd.ntmps63
      go_wp2
      go_ret
      exact ⟨rfl, HB.out, Stq.refl _ _⟩
    · have h2 : 1099511627776 < k := by omega
      clear hc
      go_enter Tryd.func63, Tryd.ntmps63
      go_wp2
      go_ret
      exact ⟨rfl, HB.out, Stq.refl _ _⟩
set_option maxRecDepth 100000 in
set_option maxHeartbeats 3200000 in
theorem rin_any {hb : Nat} {s : LS} (w : World) (h : Blk w hb s.cs 89) (ho : s.Ok) (a b : Int) (ha : IntKind.i64.wrap a = a) (hb2 : IntKind.i64.wrap b = b) :
    Calls Tryd.prog 50 #[.pointer (some ⟨hb, 0, none⟩), .agg #[.int .i64 a, .int .i64 b]] w fun r w' => r = .returned (.int .i64 (s.icode a b)) ∧ Blk w' hb (s.inext a b).cs 89 ∧ Stq hb w w' := by
  have hgr : Below w.heap.size w (w.alloc (.cells #[.int .i64 a, .int .i64 b] 42)) := by go_grown
  have hB1 : Blk (w.alloc (.cells #[.int .i64 a, .int .i64 b] 42)) hb s.cs 89 := h.below hgr h.lt
  have hBn : Blk (w.alloc (.cells #[.int .i64 a, .int .i64 b] 42)) w.heap.size #[.int .i64 a, .int .i64 b] 42 := heap_alloc_new w _
  have hne : w.heap.size ≠ hb := Nat.ne_of_gt h.lt
  have k0 : (w.alloc (.cells #[.int .i64 a, .int .i64 b] 42)).cell? ⟨w.heap.size, 0, none⟩ = some (.int .i64 a) := hBn.cell 0
  have k1 : (w.alloc (.cells #[.int .i64 a, .int .i64 b] 42)).cell? ⟨w.heap.size, 1, none⟩ = some (.int .i64 b) := hBn.cell 1
  have c0 : (w.alloc (.cells #[.int .i64 a, .int .i64 b] 42)).cell? ⟨hb, 0, none⟩ = some (.int .i64 s.d) := hB1.cell 0
  have c1 : (w.alloc (.cells #[.int .i64 a, .int .i64 b] 42)).cell? ⟨hb, 1, none⟩ = some (.int .i64 s.u) := hB1.cell 1
  have c3 : (w.alloc (.cells #[.int .i64 a, .int .i64 b] 42)).cell? ⟨hb, 3, none⟩ = some (.int .i64 s.c) := hB1.cell 3
  have hall := fun q : Nat => rall_any ((w.alloc (.cells #[.int .i64 a, .int .i64 b] 42)).drewN q) (show Blk _ hb s.cs 89 from hB1) ho
  have HG : Hid _ := hgr
  have HB1 : Hid _ := hB1
  have HBn : Hid _ := hBn
  clear hgr hB1 hBn h
  unfold LS.inext LS.icode
  by_cases hn : a < 0 ∨ b < 0
  · rw [if_pos hn, if_neg (by decide)]
    clear hall c0 c1 c3 ho
    by_cases h1 : a < 0
    · go_enter Tryd.func50, Tryd.ntmps50
      go_wp2
      go_ret
      exact ⟨rfl, HB1.out, Stq.ofBelow HG.out⟩
    · have h2 : b < 0 := by omega
      go_enter Tryd.func50, Tryd.ntmps50
      go_wp2
      go_ret
      exact ⟨rfl, HB1.out, Stq.ofBelow HG.out⟩
  · have hpa : 0 ≤ a := by omega
    have hpb : 0 ≤ b := by omega
    rw [if_neg hn]
    have hso := ho
    obtain ⟨h1, h2, h3, h4, h5, h6⟩ := ho
    clear hn
    obtain ⟨d, u, x, c, n⟩ := s
    simp only at *
    have hm0 : (LS.mk d u x c n).all = d + u + x := rfl
    rw [hm0]
    simp only [hm0] at hall
    generalize hm : d + u + x = m at *
    have hmd : 0 ≤ m ∧ d + u ≤ m := by omega
    have e1 : IntKind.i64.wrap (c - m) = c - m := by rw [IntKind.wrap_i64]; omega
    clear hm0 hm hso
    by_cases hc : c - m < a + b
    · rw [if_pos hc, if_neg (by decide)]
      by_cases t1 : c - m < a
      · go_enter Tryd.func50, Tryd.ntmps50
        go_wp2
        go_quiet (first | (go_at_call 62; exact Calls.quiet_of (hall _)) | fail)
        go_wp2
        go_ret
        exact ⟨rfl, HB1.out, (Stq.ofBelow HG.out).drewN _⟩
      · have t2 : c - m - a < b := by omega
        have e2 : IntKind.i64.wrap (c - m - a) = c - m - a := by rw [IntKind.wrap_i64]; omega
        go_enter Tryd.func50, Tryd.ntmps50
        go_wp2
        go_quiet (first | (go_at_call 62; exact Calls.quiet_of (hall _)) | fail)
        go_wp2
        go_ret
        exact ⟨rfl, HB1.out, (Stq.ofBelow HG.out).drewN _⟩
    · rw [if_neg hc, if_pos rfl]
      have t1 : a ≤ c - m := by omega
      have t2 : b ≤ c - m - a := by omega
      have e2 : IntKind.i64.wrap (c - m - a) = c - m - a := by rw [IntKind.wrap_i64]; omega
      go_enter Tryd.func50, Tryd.ntmps50
      go_wp2
      go_quiet (first | (go_at_call 62; exact Calls.quiet_of (hall _)) | fail)
      go_wp2
      rename_i K hK
      try rw [show ∀ a : Act, a.put none undef = a from fun _ => rfl]
      have hX0 : Blk ({ ((w.alloc (.cells #[.int .i64 a, .int .i64 b] 42)).drewN nq) with drawn := ((w.alloc (.cells #[.int .i64 a, .int .i64 b] 42)).drewN nq).drawn + 1 } : World) hb (LS.mk d u x c n).cs 89 := HB1.out
      have hN0 : Blk ({ ((w.alloc (.cells #[.int .i64 a, .int .i64 b] 42)).drewN nq) with drawn := ((w.alloc (.cells #[.int .i64 a, .int .i64 b] 42)).drewN nq).drawn + 1 } : World) w.heap.size #[.int .i64 a, .int .i64 b] 42 := HBn.out
      have hQ0 : Stq hb w ({ ((w.alloc (.cells #[.int .i64 a, .int .i64 b] 42)).drewN nq) with drawn := ((w.alloc (.cells #[.int .i64 a, .int .i64 b] 42)).drewN nq).drawn + 1 } : World) := ⟨(((Stq.ofBelow HG.out : Stq hb w _).drewN nq)).os, (((Stq.ofBelow HG.out : Stq hb w _).drewN nq)).tape, (((Stq.ofBelow HG.out : Stq hb w _).drewN nq)).output, (((Stq.ofBelow HG.out : Stq hb w _).drewN nq)).size, (((Stq.ofBelow HG.out : Stq hb w _).drewN nq)).block⟩
      refine wp_region_mix (fun wr => wr.heap = ({ ((w.alloc (.cells #[.int .i64 a, .int .i64 b] 42)).drewN nq) with drawn := ((w.alloc (.cells #[.int .i64 a, .int .i64 b] 42)).drewN nq).drawn + 1 } : World).heap) (fun i => i == 12) 12 (by kernel_rfl) rfl (by kernel_rfl) (by kernel_rfl) (by kernel_rfl) ?_
      generalize ({ ((w.alloc (.cells #[.int .i64 a, .int .i64 b] 42)).drewN nq) with drawn := ((w.alloc (.cells #[.int .i64 a, .int .i64 b] 42)).drewN nq).drawn + 1 } : World) = X0 at *
      have hC : X0.heap = X0.heap := rfl
      have hci0 : X0.cell? ⟨hb, 0, none⟩ = some (.int .i64 d) := hX0.cell 0
      have hbi0 : X0.cell? ⟨w.heap.size, 0, none⟩ = some (.int .i64 a) := hN0.cell 0
      have hzi0 := hX0.frozen 0
      refine withFrP (N := 58) rfl ?_
      intro f0 F0 hff
      have hs0 : f0 0 = Value.pointer (some ⟨hb, 0, none⟩) := hff 0
      have hs3 : f0 3 = Value.pointer (some ⟨w.heap.size, 0, none⟩) := hff 3
      clear hff
      refine lyp F0 rfl hC rfl (by omega) (wanted_none rfl) (v := Value.pointer (some ⟨hb, 0, none⟩)) (fun wr hwr => by simp only [execOp, (F0.eval 0 (by omega)).trans (show _ = Value.pointer (some ⟨hb, 0, none⟩) from by simp [upd, hs0, hs3])]; first | rfl | simp [go_sem]) fun Fr01 => ?_
      refine lyp Fr01 rfl hC rfl (by omega) (wanted_none rfl) (v := Value.pointer (some ⟨hb, 0, none⟩)) (fun wr hwr => by simp only [execOp, (Fr01.eval 0 (by omega)).trans (show _ = Value.pointer (some ⟨hb, 0, none⟩) from by simp [upd, hs0, hs3])]; first | rfl | simp [go_sem]) fun Fr02 => ?_
      refine lyp Fr02 rfl hC rfl (by omega) (wanted_none rfl) (v := Value.pointer (some ⟨hb, 0, none⟩)) (fun wr hwr => by simp only [execOp, (Fr02.eval 35 (by omega)).trans (show _ = Value.pointer (some ⟨hb, 0, none⟩) from by simp [upd, hs0, hs3])]; first | rfl | simp [go_sem]) fun Fr03 => ?_
      refine lyp Fr03 rfl hC rfl (by omega) (wanted_none rfl) (v := Value.pointer (some ⟨hb, 0, none⟩)) (fun wr hwr => by simp only [execOp, (Fr03.eval 36 (by omega)).trans (show _ = Value.pointer (some ⟨hb, 0, none⟩) from by simp [upd, hs0, hs3])]; first | rfl | simp [go_sem]) fun Fr04 => ?_
      refine lyp Fr04 rfl hC rfl (by omega) (wanted_none rfl) (v := Value.pointer (some ⟨hb, 0, none⟩)) (fun wr hwr => by simp only [execOp, (Fr04.eval 37 (by omega)).trans (show _ = Value.pointer (some ⟨hb, 0, none⟩) from by simp [upd, hs0, hs3])]; simp [go_sem, Act.eval]) fun Fr05 => ?_
      refine lyp Fr05 rfl hC rfl (by omega) (wanted_none rfl) (v := Value.int .i64 d) (fun wr hwr => by simp only [execOp, (Fr05.eval 38 (by omega)).trans (show _ = Value.pointer (some ⟨hb, 0, none⟩) from by simp [upd, hs0, hs3])]; simp [go_sem, ((cell_heap hwr ⟨hb, 0, none⟩).trans hci0)]) fun Fr06 => ?_
      refine lyp Fr06 rfl hC rfl (by omega) (wanted_none rfl) (v := Value.pointer (some ⟨w.heap.size, 0, none⟩)) (fun wr hwr => by simp only [execOp, (Fr06.eval 3 (by omega)).trans (show _ = Value.pointer (some ⟨w.heap.size, 0, none⟩) from by simp [upd, hs0, hs3])]; first | rfl | simp [go_sem]) fun Fr07 => ?_
      refine lyp Fr07 rfl hC rfl (by omega) (wanted_none rfl) (v := Value.int .i64 a) (fun wr hwr => by simp only [execOp, (Fr07.eval 40 (by omega)).trans (show _ = Value.pointer (some ⟨w.heap.size, 0, none⟩) from by simp [upd, hs0, hs3])]; simp [go_sem, ((cell_heap hwr ⟨w.heap.size, 0, none⟩).trans hbi0)]) fun Fr08 => ?_
      refine lyp Fr08 rfl hC rfl (by omega) (wanted_none rfl) (v := Value.int .i64 (d + a)) (fun wr hwr => by simp only [execOp, (Fr08.eval 39 (by omega)).trans (show _ = Value.int .i64 d from by simp [upd, hs0, hs3]), (Fr08.eval 41 (by omega)).trans (show _ = Value.int .i64 a from by simp [upd, hs0, hs3])]; simp [go_sem, Act.eval, show IntKind.i64.wrap (d + a) = d + a from by rw [IntKind.wrap_i64]; omega]) fun Fr09 => ?_
      refine lyp Fr09 rfl hC rfl (by omega) (wanted_none rfl) (v := Value.pointer (some ⟨hb, 0, none⟩)) (fun wr hwr => by simp only [execOp, (Fr09.eval 34 (by omega)).trans (show _ = Value.pointer (some ⟨hb, 0, none⟩) from by simp [upd, hs0, hs3])]; first | rfl | simp [go_sem]) fun Fr010 => ?_
      refine lyp Fr010 rfl hC rfl (by omega) (wanted_none rfl) (v := Value.pointer (some ⟨hb, 0, none⟩)) (fun wr hwr => by simp only [execOp, (Fr010.eval 43 (by omega)).trans (show _ = Value.pointer (some ⟨hb, 0, none⟩) from by simp [upd, hs0, hs3])]; first | rfl | simp [go_sem]) fun Fr011 => ?_
      refine lyp Fr011 rfl hC rfl (by omega) (wanted_none rfl) (v := Value.pointer (some ⟨hb, 0, none⟩)) (fun wr hwr => by simp only [execOp, (Fr011.eval 44 (by omega)).trans (show _ = Value.pointer (some ⟨hb, 0, none⟩) from by simp [upd, hs0, hs3])]; simp [go_sem, Act.eval]) fun Fr012 => ?_
      refine lst rfl hC rfl (wanted_none rfl) (w1 := X0.setCell ⟨hb, 0, none⟩ (Value.int .i64 (d + a))) (by simp only [execOp, (Fr012.eval 45 (by omega)).trans (show _ = Value.pointer (some ⟨hb, 0, none⟩) from by simp [upd, hs0, hs3]), (Fr012.eval 42 (by omega)).trans (show _ = Value.int .i64 (d + a) from by simp [upd, hs0, hs3])]; simp [go_sem, hci0, hzi0]) ?_
      have hY0 := hX0.set 0 (Value.int .i64 (d + a))
      have hZ0 : Blk (X0.setCell ⟨hb, 0, none⟩ (Value.int .i64 (d + a))) hb (LS.mk (d + a) u x c n).cs 89 := hY0
      have hM0 : Blk (X0.setCell ⟨hb, 0, none⟩ (Value.int .i64 (d + a))) w.heap.size #[.int .i64 a, .int .i64 b] 42 := (Stq.set hb 0 (Value.int .i64 (d + a)) X0).blk hN0 hne
      have hR0 : Stq hb w (X0.setCell ⟨hb, 0, none⟩ (Value.int .i64 (d + a))) := hQ0.trans (Stq.set hb 0 (Value.int .i64 (d + a)) X0)
      generalize X0.setCell ⟨hb, 0, none⟩ (Value.int .i64 (d + a)) = Y0 at *
      refine ⟨fun h => by omega, ?_⟩
      refine hK _ _ ?_
      clear F0 Fr01 Fr02 Fr03 Fr04 Fr05 Fr06 Fr07 Fr08 Fr09 Fr010 Fr011 Fr012 hs0 hs3 hK hC hci0 hbi0 hzi0 hX0 hN0 hQ0 hY0
      simp only [Act.put, List.setIfInBounds_toArray, List.set_cons_succ, List.set_cons_zero]
      clear HB1 HBn HG k0 k1 c0 c1 c3
      have HB1 : Hid _ := hZ0
      have HBn : Hid _ := hM0
      have HQ : Hid _ := hR0
      clear hZ0 hM0 hR0
      go_wp2_with fail
      rename_i K hK
      try rw [show ∀ a : Act, a.put none undef = a from fun _ => rfl]
      have hX1 : Blk ({ Y0 with drawn := Y0.drawn + 1 } : World) hb (LS.mk (d + a) u x c n).cs 89 := HB1.out
      have hN1 : Blk ({ Y0 with drawn := Y0.drawn + 1 } : World) w.heap.size #[.int .i64 a, .int .i64 b] 42 := HBn.out
      have hQ1 : Stq hb w ({ Y0 with drawn := Y0.drawn + 1 } : World) := ⟨(HQ.out).os, (HQ.out).tape, (HQ.out).output, (HQ.out).size, (HQ.out).block⟩
      refine wp_region_mix (fun wr => wr.heap = ({ Y0 with drawn := Y0.drawn + 1 } : World).heap) (fun i => i == 12) 12 (by kernel_rfl) rfl (by kernel_rfl) (by kernel_rfl) (by kernel_rfl) ?_
      generalize ({ Y0 with drawn := Y0.drawn + 1 } : World) = X1 at *
      have hC : X1.heap = X1.heap := rfl
      have hci1 : X1.cell? ⟨hb, 1, none⟩ = some (.int .i64 u) := hX1.cell 1
      have hbi1 : X1.cell? ⟨w.heap.size, 1, none⟩ = some (.int .i64 b) := hN1.cell 1
      have hzi1 := hX1.frozen 1
      refine withFrP (N := 58) rfl ?_
      intro f0 F0 hff
      have hs0 : f0 0 = Value.pointer (some ⟨hb, 0, none⟩) := hff 0
      have hs3 : f0 3 = Value.pointer (some ⟨w.heap.size, 0, none⟩) := hff 3
      clear hff
      refine lyp F0 rfl hC rfl (by omega) (wanted_none rfl) (v := Value.pointer (some ⟨hb, 0, none⟩)) (fun wr hwr => by simp only [execOp, (F0.eval 0 (by omega)).trans (show _ = Value.pointer (some ⟨hb, 0, none⟩) from by simp [upd, hs0, hs3])]; first | rfl | simp [go_sem]) fun Fr11 => ?_
      refine lyp Fr11 rfl hC rfl (by omega) (wanted_none rfl) (v := Value.pointer (some ⟨hb, 0, none⟩)) (fun wr hwr => by simp only [execOp, (Fr11.eval 0 (by omega)).trans (show _ = Value.pointer (some ⟨hb, 0, none⟩) from by simp [upd, hs0, hs3])]; first | rfl | simp [go_sem]) fun Fr12 => ?_
      refine lyp Fr12 rfl hC rfl (by omega) (wanted_none rfl) (v := Value.pointer (some ⟨hb, 0, none⟩)) (fun wr hwr => by simp only [execOp, (Fr12.eval 47 (by omega)).trans (show _ = Value.pointer (some ⟨hb, 0, none⟩) from by simp [upd, hs0, hs3])]; first | rfl | simp [go_sem]) fun Fr13 => ?_
      refine lyp Fr13 rfl hC rfl (by omega) (wanted_none rfl) (v := Value.pointer (some ⟨hb, 0, none⟩)) (fun wr hwr => by simp only [execOp, (Fr13.eval 48 (by omega)).trans (show _ = Value.pointer (some ⟨hb, 0, none⟩) from by simp [upd, hs0, hs3])]; first | rfl | simp [go_sem]) fun Fr14 => ?_
      refine lyp Fr14 rfl hC rfl (by omega) (wanted_none rfl) (v := Value.pointer (some ⟨hb, 1, none⟩)) (fun wr hwr => by simp only [execOp, (Fr14.eval 49 (by omega)).trans (show _ = Value.pointer (some ⟨hb, 0, none⟩) from by simp [upd, hs0, hs3])]; simp [go_sem, Act.eval]) fun Fr15 => ?_
      refine lyp Fr15 rfl hC rfl (by omega) (wanted_none rfl) (v := Value.int .i64 u) (fun wr hwr => by simp only [execOp, (Fr15.eval 50 (by omega)).trans (show _ = Value.pointer (some ⟨hb, 1, none⟩) from by simp [upd, hs0, hs3])]; simp [go_sem, ((cell_heap hwr ⟨hb, 1, none⟩).trans hci1)]) fun Fr16 => ?_
      refine lyp Fr16 rfl hC rfl (by omega) (wanted_none rfl) (v := Value.pointer (some ⟨w.heap.size, 1, none⟩)) (fun wr hwr => by simp only [execOp, (Fr16.eval 3 (by omega)).trans (show _ = Value.pointer (some ⟨w.heap.size, 0, none⟩) from by simp [upd, hs0, hs3])]; first | rfl | simp [go_sem]) fun Fr17 => ?_
      refine lyp Fr17 rfl hC rfl (by omega) (wanted_none rfl) (v := Value.int .i64 b) (fun wr hwr => by simp only [execOp, (Fr17.eval 52 (by omega)).trans (show _ = Value.pointer (some ⟨w.heap.size, 1, none⟩) from by simp [upd, hs0, hs3])]; simp [go_sem, ((cell_heap hwr ⟨w.heap.size, 1, none⟩).trans hbi1)]) fun Fr18 => ?_
      refine lyp Fr18 rfl hC rfl (by omega) (wanted_none rfl) (v := Value.int .i64 (u + b)) (fun wr hwr => by simp only [execOp, (Fr18.eval 51 (by omega)).trans (show _ = Value.int .i64 u from by simp [upd, hs0, hs3]), (Fr18.eval 53 (by omega)).trans (show _ = Value.int .i64 b from by simp [upd, hs0, hs3])]; simp [go_sem, Act.eval, show IntKind.i64.wrap (u + b) = u + b from by rw [IntKind.wrap_i64]; omega]) fun Fr19 => ?_
      refine lyp Fr19 rfl hC rfl (by omega) (wanted_none rfl) (v := Value.pointer (some ⟨hb, 0, none⟩)) (fun wr hwr => by simp only [execOp, (Fr19.eval 46 (by omega)).trans (show _ = Value.pointer (some ⟨hb, 0, none⟩) from by simp [upd, hs0, hs3])]; first | rfl | simp [go_sem]) fun Fr110 => ?_
      refine lyp Fr110 rfl hC rfl (by omega) (wanted_none rfl) (v := Value.pointer (some ⟨hb, 0, none⟩)) (fun wr hwr => by simp only [execOp, (Fr110.eval 55 (by omega)).trans (show _ = Value.pointer (some ⟨hb, 0, none⟩) from by simp [upd, hs0, hs3])]; first | rfl | simp [go_sem]) fun Fr111 => ?_
      refine lyp Fr111 rfl hC rfl (by omega) (wanted_none rfl) (v := Value.pointer (some ⟨hb, 1, none⟩)) (fun wr hwr => by simp only [execOp, (Fr111.eval 56 (by omega)).trans (show _ = Value.pointer (some ⟨hb, 0, none⟩) from by simp [upd, hs0, hs3])]; simp [go_sem, Act.eval]) fun Fr112 => ?_
      refine lst rfl hC rfl (wanted_none rfl) (w1 := X1.setCell ⟨hb, 1, none⟩ (Value.int .i64 (u + b))) (by simp only [execOp, (Fr112.eval 57 (by omega)).trans (show _ = Value.pointer (some ⟨hb, 1, none⟩) from by simp [upd, hs0, hs3]), (Fr112.eval 54 (by omega)).trans (show _ = Value.int .i64 (u + b) from by simp [upd, hs0, hs3])]; simp [go_sem, hci1, hzi1]) ?_
      have hY1 := hX1.set 1 (Value.int .i64 (u + b))
      have hZ1 : Blk (X1.setCell ⟨hb, 1, none⟩ (Value.int .i64 (u + b))) hb (LS.mk (d + a) (u + b) x c n).cs 89 := hY1
      have hM1 : Blk (X1.setCell ⟨hb, 1, none⟩ (Value.int .i64 (u + b))) w.heap.size #[.int .i64 a, .int .i64 b] 42 := (Stq.set hb 1 (Value.int .i64 (u + b)) X1).blk hN1 hne
      have hR1 : Stq hb w (X1.setCell ⟨hb, 1, none⟩ (Value.int .i64 (u + b))) := hQ1.trans (Stq.set hb 1 (Value.int .i64 (u + b)) X1)
      generalize X1.setCell ⟨hb, 1, none⟩ (Value.int .i64 (u + b)) = Y1 at *
      refine ⟨fun h => by omega, ?_⟩
      refine hK _ _ ?_
      clear F0 Fr11 Fr12 Fr13 Fr14 Fr15 Fr16 Fr17 Fr18 Fr19 Fr110 Fr111 Fr112 hs0 hs3 hK hC hci1 hbi1 hzi1 hX1 hN1 hQ1 hY1
      simp only [Act.put, List.setIfInBounds_toArray, List.set_cons_succ, List.set_cons_zero]
      clear HB1 HBn HQ
      have HB1 : Hid _ := hZ1
      have HQ : Hid _ := hR1
      clear hZ1 hM1 hR1
      go_wp2_with fail
      go_ret
      exact ⟨rfl, HB1.out, HQ.out⟩
end Go.Proofs.YtkdndfdofhnagaaDoor
namespace Go.Proofs.YtkdndfdofhnagaaDoor
open Go.RowKit Go.PlainAid
set_option linter.unusedVariables false
set_option linter.unusedSimpArgs false
theorem Stq.more {hb : Nat} {w v z : World} (h : Stq hb w v) (k : Below w.heap.size v z) : Stq hb w z :=
  ⟨k.os.trans h.os, k.tape.trans h.tape, k.output.trans h.output, Nat.le_trans h.size k.size, fun j hj hn => (k.block j hj).trans (h.block j hj hn)⟩
/-- From which kind, to which. -/
def fromOf (kind : Int) : Nat := if kind = 1 then 0 else if kind = 2 then 1 else if kind = 3 then 0 else 2
def toOf (kind : Int) : Nat := if kind = 1 then 1 else if kind = 2 then 0 else if kind = 3 then 2 else if kind = 4 then 0 else 1
set_option maxRecDepth 100000 in
set_option maxHeartbeats 1600000 in
theorem rTurn_any {hb : Nat} {s : LS} (w : World) (h : Blk w hb s.cs 89) (ho : s.Ok) (kind k : Int) :
    Calls Tryd.prog 51 #[.pointer (some ⟨hb, 0, none⟩), .int .i64 kind, .int .i64 k] w fun r w' => r = .returned (.int .i64 (s.tcode (fromOf kind) k)) ∧ Blk w' hb (s.tnext (fromOf kind) (toOf kind) k).cs 89 ∧ Stq hb w w' := by
  by_cases h1 : kind = 1
  · rw [show fromOf kind = 0 from by simp [fromOf, h1], show toOf kind = 1 from by simp [toOf, h1]]
    subst h1
    have hc := rturn_any (i := 0) (j := 1) w h ho (by omega) (by omega) (by omega) k
    generalize s.tcode 0 k = ec at *
    generalize (s.tnext 0 1 k).cs = C at *
    clear h ho
    go_enter Tryd.func51, Tryd.ntmps51
    go_wp2_with fail
    refine hc.mono ?_
    rintro e1 w1 ⟨rfl, hB, hT⟩
    have HB : Hid _ := hB
    have HT : Hid _ := hT
    clear hB hT hc
    go_wp2_with fail
    go_ret
    exact ⟨rfl, HB.out, HT.out⟩
  · by_cases h2 : kind = 2
    · rw [show fromOf kind = 1 from by simp [fromOf, h1, h2], show toOf kind = 0 from by simp [toOf, h1, h2]]
      subst h2
      have hc := rturn_any (i := 1) (j := 0) w h ho (by omega) (by omega) (by omega) k
      generalize s.tcode 1 k = ec at *
      generalize (s.tnext 1 0 k).cs = C at *
      clear h ho
      go_enter Tryd.func51, Tryd.ntmps51
      go_wp2_with fail
      refine hc.mono ?_
      rintro e1 w1 ⟨rfl, hB, hT⟩
      have HB : Hid _ := hB
      have HT : Hid _ := hT
      clear hB hT hc
      go_wp2_with fail
      go_ret
      exact ⟨rfl, HB.out, HT.out⟩
    · by_cases h3 : kind = 3
      · rw [show fromOf kind = 0 from by simp [fromOf, h1, h2, h3], show toOf kind = 2 from by simp [toOf, h1, h2, h3]]
        subst h3
        have hc := rturn_any (i := 0) (j := 2) w h ho (by omega) (by omega) (by omega) k
        generalize s.tcode 0 k = ec at *
        generalize (s.tnext 0 2 k).cs = C at *
        clear h ho
        go_enter Tryd.func51, Tryd.ntmps51
        go_wp2_with fail
        refine hc.mono ?_
        rintro e1 w1 ⟨rfl, hB, hT⟩
        have HB : Hid _ := hB
        have HT : Hid _ := hT
        clear hB hT hc
        go_wp2_with fail
        go_ret
        exact ⟨rfl, HB.out, HT.out⟩
      · by_cases h4 : kind = 4
        · rw [show fromOf kind = 2 from by simp [fromOf, h1, h2, h3, h4], show toOf kind = 0 from by simp [toOf, h1, h2, h3, h4]]
          subst h4
          have hc := rturn_any (i := 2) (j := 0) w h ho (by omega) (by omega) (by omega) k
          generalize s.tcode 2 k = ec at *
          generalize (s.tnext 2 0 k).cs = C at *
          clear h ho
          go_enter Tryd.func51, Tryd.ntmps51
          go_wp2_with fail
          refine hc.mono ?_
          rintro e1 w1 ⟨rfl, hB, hT⟩
          have HB : Hid _ := hB
          have HT : Hid _ := hT
          clear hB hT hc
          go_wp2_with fail
          go_ret
          exact ⟨rfl, HB.out, HT.out⟩
        · rw [show fromOf kind = 2 from by simp [fromOf, h1, h2, h3, h4], show toOf kind = 1 from by simp [toOf, h1, h2, h3, h4]]
          have hc := rturn_any (i := 2) (j := 1) w h ho (by omega) (by omega) (by omega) k
          generalize s.tcode 2 k = ec at *
          generalize (s.tnext 2 1 k).cs = C at *
          clear h ho
          go_enter Tryd.func51, Tryd.ntmps51
          go_wp2_with fail
          refine hc.mono ?_
          rintro e1 w1 ⟨rfl, hB, hT⟩
          have HB : Hid _ := hB
          have HT : Hid _ := hT
          clear hB hT hc
          go_wp2_with fail
          go_ret
          exact ⟨rfl, HB.out, HT.out⟩
theorem from_lt (kind : Int) : fromOf kind < 3 := by
  unfold fromOf
  repeat' split
  all_goals omega
theorem to_lt (kind : Int) : toOf kind < 3 := by
  unfold toOf
  repeat' split
  all_goals omega
theorem fromto (kind : Int) : fromOf kind ≠ toOf kind := by
  unfold fromOf toOf
  by_cases h1 : kind = 1
  · simp [h1]
  · by_cases h2 : kind = 2
    · simp [h2]
    · by_cases h3 : kind = 3
      · simp [h3]
      · by_cases h4 : kind = 4
        · simp [h4]
        · simp [h1, h2, h3, h4]
set_option maxRecDepth 100000 in
set_option maxHeartbeats 1600000 in
theorem rrights_any {hb : Nat} {s : LS} (w : World) (h : Blk w hb s.cs 89) :
    Calls Tryd.prog 52 #[.pointer (some ⟨hb, 0, none⟩)] w fun r w' => r = .returned (.agg #[.int .i64 s.d, .int .i64 s.u]) ∧ Below w.heap.size w w' := by
  have hgr : Below w.heap.size w (w.alloc (.cells #[.int .i64 0, .int .i64 0] 42)) := by go_grown
  have hB1 : Blk (w.alloc (.cells #[.int .i64 0, .int .i64 0] 42)) hb s.cs 89 := h.below hgr h.lt
  have hBn : Blk (w.alloc (.cells #[.int .i64 0, .int .i64 0] 42)) w.heap.size #[.int .i64 0, .int .i64 0] 42 := heap_alloc_new w _
  obtain ⟨d, u, x, c, n⟩ := s
  simp only
  have HG : Hid _ := hgr
  have HB1 : Hid _ := hB1
  have HBn : Hid _ := hBn
  clear hgr hB1 hBn h
  go_enter Tryd.func52, Tryd.ntmps52
  go_wp2_with fail
  rename_i K hK
  try rw [show ∀ a : Act, a.put none undef = a from fun _ => rfl]
  have hX : Blk ({ (w.alloc (.cells #[.int .i64 0, .int .i64 0] 42)) with drawn := (w.alloc (.cells #[.int .i64 0, .int .i64 0] 42)).drawn + 1 } : World) hb (LS.mk d u x c n).cs 89 := HB1.out
  have hN : Blk ({ (w.alloc (.cells #[.int .i64 0, .int .i64 0] 42)) with drawn := (w.alloc (.cells #[.int .i64 0, .int .i64 0] 42)).drawn + 1 } : World) w.heap.size #[.int .i64 0, .int .i64 0] 42 := HBn.out
  have hQ : Below w.heap.size w ({ (w.alloc (.cells #[.int .i64 0, .int .i64 0] 42)) with drawn := (w.alloc (.cells #[.int .i64 0, .int .i64 0] 42)).drawn + 1 } : World) := ⟨HG.out.os, HG.out.tape, HG.out.output, HG.out.size, HG.out.block⟩
  refine wp_region_mix (fun wr => wr.heap = ({ (w.alloc (.cells #[.int .i64 0, .int .i64 0] 42)) with drawn := (w.alloc (.cells #[.int .i64 0, .int .i64 0] 42)).drawn + 1 } : World).heap) (fun i => i == 11) 11 (by kernel_rfl) rfl (by kernel_rfl) (by kernel_rfl) (by kernel_rfl) ?_
  generalize ({ (w.alloc (.cells #[.int .i64 0, .int .i64 0] 42)) with drawn := (w.alloc (.cells #[.int .i64 0, .int .i64 0] 42)).drawn + 1 } : World) = X at *
  have hC : X.heap = X.heap := rfl
  have hc0 : X.cell? ⟨hb, 0, none⟩ = some (.int .i64 d) := hX.cell 0
  have hc1 : X.cell? ⟨hb, 1, none⟩ = some (.int .i64 u) := hX.cell 1
  have hz0 := hN.frozen 0
  have hk0 : X.cell? ⟨w.heap.size, 0, none⟩ = some (.int .i64 0) := hN.cell 0
  have hN1 := hN.set 0 (.int .i64 d)
  have hz1 := hN1.frozen 1
  have hk1 : (X.setCell ⟨w.heap.size, 0, none⟩ (.int .i64 d)).cell? ⟨w.heap.size, 1, none⟩ = some (.int .i64 0) := hN1.cell 1
  refine withFrP (N := 14) rfl ?_
  intro f0 F0 hff
  have hs0 : f0 0 = Value.pointer (some ⟨hb, 0, none⟩) := hff 0
  have hs2 : f0 2 = Value.pointer (some ⟨w.heap.size, 0, none⟩) := hff 2
  clear hff
  refine lyp F0 rfl hC rfl (by omega) (wanted_none rfl) (v := Value.pointer (some ⟨hb, 0, none⟩)) (fun wr hwr => by simp only [execOp, (F0.eval 0 (by omega)).trans (show _ = Value.pointer (some ⟨hb, 0, none⟩) from by simp [upd, hs0, hs2])]; first | rfl | simp [go_sem]) fun F1 => ?_
  refine lyp F1 rfl hC rfl (by omega) (wanted_none rfl) (v := Value.pointer (some ⟨hb, 0, none⟩)) (fun wr hwr => by simp only [execOp, (F1.eval 3 (by omega)).trans (show _ = Value.pointer (some ⟨hb, 0, none⟩) from by simp [upd, hs0, hs2])]; first | rfl | simp [go_sem]) fun F2 => ?_
  refine lyp F2 rfl hC rfl (by omega) (wanted_none rfl) (v := Value.pointer (some ⟨hb, 0, none⟩)) (fun wr hwr => by simp only [execOp, (F2.eval 4 (by omega)).trans (show _ = Value.pointer (some ⟨hb, 0, none⟩) from by simp [upd, hs0, hs2])]; first | rfl | simp [go_sem]) fun F3 => ?_
  refine lyp F3 rfl hC rfl (by omega) (wanted_none rfl) (v := Value.pointer (some ⟨hb, 0, none⟩)) (fun wr hwr => by simp only [execOp, (F3.eval 5 (by omega)).trans (show _ = Value.pointer (some ⟨hb, 0, none⟩) from by simp [upd, hs0, hs2])]; simp [go_sem, Act.eval]) fun F4 => ?_
  refine lyp F4 rfl hC rfl (by omega) (wanted_none rfl) (v := Value.int .i64 d) (fun wr hwr => by simp only [execOp, (F4.eval 6 (by omega)).trans (show _ = Value.pointer (some ⟨hb, 0, none⟩) from by simp [upd, hs0, hs2])]; simp [go_sem, ((cell_heap hwr ⟨hb, 0, none⟩).trans hc0)]) fun F5 => ?_
  refine lyp F5 rfl hC rfl (by omega) (wanted_none rfl) (v := Value.pointer (some ⟨hb, 0, none⟩)) (fun wr hwr => by simp only [execOp, (F5.eval 0 (by omega)).trans (show _ = Value.pointer (some ⟨hb, 0, none⟩) from by simp [upd, hs0, hs2])]; first | rfl | simp [go_sem]) fun F6 => ?_
  refine lyp F6 rfl hC rfl (by omega) (wanted_none rfl) (v := Value.pointer (some ⟨hb, 0, none⟩)) (fun wr hwr => by simp only [execOp, (F6.eval 8 (by omega)).trans (show _ = Value.pointer (some ⟨hb, 0, none⟩) from by simp [upd, hs0, hs2])]; first | rfl | simp [go_sem]) fun F7 => ?_
  refine lyp F7 rfl hC rfl (by omega) (wanted_none rfl) (v := Value.pointer (some ⟨hb, 0, none⟩)) (fun wr hwr => by simp only [execOp, (F7.eval 9 (by omega)).trans (show _ = Value.pointer (some ⟨hb, 0, none⟩) from by simp [upd, hs0, hs2])]; first | rfl | simp [go_sem]) fun F8 => ?_
  refine lyp F8 rfl hC rfl (by omega) (wanted_none rfl) (v := Value.pointer (some ⟨hb, 1, none⟩)) (fun wr hwr => by simp only [execOp, (F8.eval 10 (by omega)).trans (show _ = Value.pointer (some ⟨hb, 0, none⟩) from by simp [upd, hs0, hs2])]; simp [go_sem, Act.eval]) fun F9 => ?_
  refine lyp F9 rfl hC rfl (by omega) (wanted_none rfl) (v := Value.int .i64 u) (fun wr hwr => by simp only [execOp, (F9.eval 11 (by omega)).trans (show _ = Value.pointer (some ⟨hb, 1, none⟩) from by simp [upd, hs0, hs2])]; simp [go_sem, ((cell_heap hwr ⟨hb, 1, none⟩).trans hc1)]) fun F10 => ?_
  refine lyp F10 rfl hC rfl (by omega) (wanted_none rfl) (v := Value.agg #[.int .i64 d, .int .i64 u]) (fun wr hwr => by simp only [execOp, List.map_toArray, List.map_cons, List.map_nil, (F10.eval 7 (by omega)).trans (show _ = Value.int .i64 d from by simp [upd, hs0, hs2]), (F10.eval 12 (by omega)).trans (show _ = Value.int .i64 u from by simp [upd, hs0, hs2])]; simp [go_sem, Act.eval, (F10.eval 7 (by omega)).trans (show _ = Value.int .i64 d from by simp [upd, hs0, hs2]), (F10.eval 12 (by omega)).trans (show _ = Value.int .i64 u from by simp [upd, hs0, hs2])]) fun F11 => ?_
  refine lst rfl hC rfl (wanted_none rfl) (w1 := (X.setCell ⟨w.heap.size, 0, none⟩ (.int .i64 d)).setCell ⟨w.heap.size, 1, none⟩ (.int .i64 u)) (by simp only [execOp, (F11.eval 2 (by omega)).trans (show _ = Value.pointer (some ⟨w.heap.size, 0, none⟩) from by simp [upd, hs0, hs2]), (F11.eval 13 (by omega)).trans (show _ = Value.agg #[.int .i64 d, .int .i64 u] from by simp [upd, hs0, hs2])]; simp [go_sem, hk0, hz0, hk1, hz1]) ?_
  have hE : Blk ((X.setCell ⟨w.heap.size, 0, none⟩ (.int .i64 d)).setCell ⟨w.heap.size, 1, none⟩ (.int .i64 u)) w.heap.size #[.int .i64 d, .int .i64 u] 42 := hN1.set 1 (.int .i64 u)
  have hL : Below w.heap.size w ((X.setCell ⟨w.heap.size, 0, none⟩ (.int .i64 d)).setCell ⟨w.heap.size, 1, none⟩ (.int .i64 u)) := (hQ.setCell (Nat.le_refl _) _).setCell (Nat.le_refl _) _
  generalize (X.setCell ⟨w.heap.size, 0, none⟩ (.int .i64 d)).setCell ⟨w.heap.size, 1, none⟩ (.int .i64 u) = Y at *
  refine ⟨fun h => by omega, ?_⟩
  refine hK _ _ ?_
  clear F0 F1 F2 F3 F4 F5 F6 F7 F8 F9 F10 F11 hs0 hs2 hK hC hc0 hc1 hz0 hk0 hz1 hk1 hN1 hN hX hQ HG HB1 HBn
  simp only [Act.put, List.setIfInBounds_toArray, List.set_cons_succ, List.set_cons_zero]
  have HE : Hid _ := hE
  have HL : Hid _ := hL
  clear hE hL
  go_wp2_with fail
  exact bodyPost_ret (results_cell_row Tryd.results52 _ _ (w.heap.size) 42 _ (0, 0) _ rfl HE.out Tryd.underlying42 rfl (by kernel_rfl)) rfl ⟨rfl, HL.out⟩
end Go.Proofs.YtkdndfdofhnagaaDoor
