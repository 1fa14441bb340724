import Derived.Test.YtgajmiibkakobaaSo0
import Derived.Deep.Cut
namespace Go.Proofs.Ytgajmiibkakobaa
open Go.RowKit Go.PlainAid Go.MapKept
set_option linter.unusedVariables false
set_option linter.unusedSimpArgs false
theorem neq45 (a b c : Int) (d : Bool) (w : World) : (binOp .neq 45 (.agg #[.int .i64 a, .int .i64 b, .int .i64 c, .bool d]) (.agg #[.int .i64 a, .int .i64 b, .int .i64 c, .bool d])).run Try.prog w = .ok (.bool false) w := by
  simp [go_sem]
set_option maxRecDepth 100000 in
set_option maxHeartbeats 3200000 in
theorem same_yes {B1 B2 : Nat} (v1 v2 : Value) (ls : List Lk) (w : World) (h1 : w.ownsRow B1 45 4 v1 ls.length (flatL ls)) (h2 : w.ownsRow B2 45 4 v2 ls.length (flatL ls)) (h3 : ls.length ≤ 300) :
    Calls Try.prog 17 #[v1, v2] w fun e w' => e = .returned (.bool true) ∧ Below w.heap.size w w' := by
  obtain ⟨M, hM⟩ : ∃ M, M = ls.length := ⟨_, rfl⟩
  rw [← hM] at h1 h2 h3
  obtain ⟨o1, k1, e1, _⟩ := own_slice h1
  obtain ⟨o2, k2, e2, _⟩ := own_slice h2
  subst e1
  subst e2
  have H1 : Hid (w.ownsRow B1 45 4 (.slice o1 M k1) M (flatL ls)) := h1
  have H2 : Hid (w.ownsRow B2 45 4 (.slice o2 M k2) M (flatL ls)) := h2
  have HM : Hid (M = ls.length) := hM
  clear h1 h2 hM
  go_enter Try.func17, Try.ntmps17
  go_wp2_with fail
  go_loopw [5] (fun s5 wr => ∃ (q : Nat), q ≤ M ∧ s5 = .int .i64 q ∧ Below w.heap.size w wr) (fun s5 _ => M - (intOf s5).toNat)
  case atStart => exact ⟨0, Nat.zero_le _, rfl, Below.refl _ _⟩
  case round =>
    obtain ⟨q, hqM, rfl, hbw⟩ := hrel
    have HB : Hid (Below w.heap.size w wr) := hbw
    by_cases hlt : q < M
    · obtain ⟨x, hx⟩ : ∃ x, ls[q]? = some x := ⟨_, List.getElem?_eq_getElem (by rw [← HM.out]; exact hlt)⟩
      obtain ⟨g1, c1, e1, _, _, hl1, hc1⟩ := own_at H1.out (by omega)
      obtain ⟨g2, c2, e2, _, _, hl2, hc2⟩ := own_at H2.out (by omega)
      cases e1
      cases e2
      have a0 : wr.cell? ⟨g1, q * 4, none⟩ = some (.int .i64 x.val) := (hbw.cell (p := ⟨g1, q * 4, none⟩) hl1).trans (hc1 (q * 4) _ (flatL_at 0 hx (by decide)))
      have a1 : wr.cell? ⟨g1, q * 4 + 1, none⟩ = some (.int .i64 x.held) := (hbw.cell (p := ⟨g1, q * 4 + 1, none⟩) hl1).trans (hc1 (q * 4 + 1) _ (flatL_at 1 hx (by decide)))
      have a2 : wr.cell? ⟨g1, q * 4 + 2, none⟩ = some (.int .i64 x.lim) := (hbw.cell (p := ⟨g1, q * 4 + 2, none⟩) hl1).trans (hc1 (q * 4 + 2) _ (flatL_at 2 hx (by decide)))
      have a3 : wr.cell? ⟨g1, q * 4 + 3, none⟩ = some (.bool x.is) := (hbw.cell (p := ⟨g1, q * 4 + 3, none⟩) hl1).trans (hc1 (q * 4 + 3) _ (flatL_at 3 hx (by decide)))
      have b0 : wr.cell? ⟨g2, q * 4, none⟩ = some (.int .i64 x.val) := (hbw.cell (p := ⟨g2, q * 4, none⟩) hl2).trans (hc2 (q * 4) _ (flatL_at 0 hx (by decide)))
      have b1 : wr.cell? ⟨g2, q * 4 + 1, none⟩ = some (.int .i64 x.held) := (hbw.cell (p := ⟨g2, q * 4 + 1, none⟩) hl2).trans (hc2 (q * 4 + 1) _ (flatL_at 1 hx (by decide)))
      have b2 : wr.cell? ⟨g2, q * 4 + 2, none⟩ = some (.int .i64 x.lim) := (hbw.cell (p := ⟨g2, q * 4 + 2, none⟩) hl2).trans (hc2 (q * 4 + 2) _ (flatL_at 2 hx (by decide)))
      have b3 : wr.cell? ⟨g2, q * 4 + 3, none⟩ = some (.bool x.is) := (hbw.cell (p := ⟨g2, q * 4 + 3, none⟩) hl2).trans (hc2 (q * 4 + 3) _ (flatL_at 3 hx (by decide)))
      clear hbw hx hc1 hc2 hl1 hl2
      go_wp2_with fail
      rename_i K hK
      try rw [show ∀ a : Act, a.put none undef = a from fun _ => rfl]
      refine wp_region_mix (fun wq => wq.cell? ⟨g1, q * 4, none⟩ = some (.int .i64 x.val) ∧ wq.cell? ⟨g1, q * 4 + 1, none⟩ = some (.int .i64 x.held) ∧ wq.cell? ⟨g1, q * 4 + 2, none⟩ = some (.int .i64 x.lim) ∧ wq.cell? ⟨g1, q * 4 + 3, none⟩ = some (.bool x.is) ∧ wq.cell? ⟨g2, q * 4, none⟩ = some (.int .i64 x.val) ∧ wq.cell? ⟨g2, q * 4 + 1, none⟩ = some (.int .i64 x.held) ∧ wq.cell? ⟨g2, q * 4 + 2, none⟩ = some (.int .i64 x.lim) ∧ wq.cell? ⟨g2, q * 4 + 3, none⟩ = some (.bool x.is)) (fun i => i == 99) 99 (by kernel_rfl) rfl (by kernel_rfl) (by kernel_rfl) (by kernel_rfl) ?_
      refine withFrP (N := 26) rfl ?_
      intro f0 F0 hff
      have ee0 : f0 0 = Value.slice (some ⟨g1, 0, none⟩) M k1 := hff 0
      have ee1 : f0 1 = Value.slice (some ⟨g2, 0, none⟩) M k2 := hff 1
      have ee5 : f0 5 = Value.int .i64 (q : Nat) := hff 5
      clear hff
      have HCC : (fun wq => wq.cell? ⟨g1, q * 4, none⟩ = some (.int .i64 x.val) ∧ wq.cell? ⟨g1, q * 4 + 1, none⟩ = some (.int .i64 x.held) ∧ wq.cell? ⟨g1, q * 4 + 2, none⟩ = some (.int .i64 x.lim) ∧ wq.cell? ⟨g1, q * 4 + 3, none⟩ = some (.bool x.is) ∧ wq.cell? ⟨g2, q * 4, none⟩ = some (.int .i64 x.val) ∧ wq.cell? ⟨g2, q * 4 + 1, none⟩ = some (.int .i64 x.held) ∧ wq.cell? ⟨g2, q * 4 + 2, none⟩ = some (.int .i64 x.lim) ∧ wq.cell? ⟨g2, q * 4 + 3, none⟩ = some (.bool x.is)) (({ wr with drawn := wr.drawn + 1 } : World)) := ⟨a0, a1, a2, a3, b0, b1, b2, b3⟩
      refine lyp F0 rfl HCC rfl (by omega) (wanted_none rfl) (v := Value.slice (some ⟨g1, 0, none⟩) M k1) (fun wr hwr => by simp only [execOp, (F0.eval 0 (by omega)).trans (show _ = Value.slice (some ⟨g1, 0, none⟩) M k1 from by simp [upd, ee0, ee1, ee5])]; first | rfl | simp [go_sem]) fun F1 => ?_
      refine lyp F1 rfl HCC rfl (by omega) (wanted_none rfl) (v := Value.int .i64 (q : Nat)) (fun wr hwr => by simp only [execOp, (F1.eval 5 (by omega)).trans (show _ = Value.int .i64 (q : Nat) from by simp [upd, ee0, ee1, ee5])]; first | rfl | simp [go_sem]) fun F2 => ?_
      refine lyp F2 rfl HCC rfl (by omega) (wanted_none rfl) (v := Value.pointer (some ⟨g1, q * 4, none⟩)) (fun wr hwr => by simp only [execOp, (F2.eval 17 (by omega)).trans (show _ = Value.slice (some ⟨g1, 0, none⟩) M k1 from by simp [upd, ee0, ee1, ee5]), (F2.eval 18 (by omega)).trans (show _ = Value.int .i64 (q : Nat) from by simp [upd, ee0, ee1, ee5])]; simp only [Sem.run_bind, Sem.run_pure, Result.andThen_ok, idx_run 41 45 4 Try.underlying41 (by kernel_rfl) wr g1 0 M k1 q (by omega), Nat.zero_add]; try rfl) fun F3 => ?_
      refine lyp F3 rfl HCC rfl (by omega) (wanted_none rfl) (v := Value.agg #[.int .i64 x.val, .int .i64 x.held, .int .i64 x.lim, .bool x.is]) (fun wr hwr => by simp only [execOp, (F3.eval 19 (by omega)).trans (show _ = Value.pointer (some ⟨g1, q * 4, none⟩) from by simp [upd, ee0, ee1, ee5])]; simp [go_sem, hwr.1, hwr.2.1, hwr.2.2.1, hwr.2.2.2.1]) fun F4 => ?_
      refine lyp F4 rfl HCC rfl (by omega) (wanted_none rfl) (v := Value.slice (some ⟨g2, 0, none⟩) M k2) (fun wr hwr => by simp only [execOp, (F4.eval 1 (by omega)).trans (show _ = Value.slice (some ⟨g2, 0, none⟩) M k2 from by simp [upd, ee0, ee1, ee5])]; first | rfl | simp [go_sem]) fun F5 => ?_
      refine lyp F5 rfl HCC rfl (by omega) (wanted_none rfl) (v := Value.int .i64 (q : Nat)) (fun wr hwr => by simp only [execOp, (F5.eval 5 (by omega)).trans (show _ = Value.int .i64 (q : Nat) from by simp [upd, ee0, ee1, ee5])]; first | rfl | simp [go_sem]) fun F6 => ?_
      refine lyp F6 rfl HCC rfl (by omega) (wanted_none rfl) (v := Value.pointer (some ⟨g2, q * 4, none⟩)) (fun wr hwr => by simp only [execOp, (F6.eval 21 (by omega)).trans (show _ = Value.slice (some ⟨g2, 0, none⟩) M k2 from by simp [upd, ee0, ee1, ee5]), (F6.eval 22 (by omega)).trans (show _ = Value.int .i64 (q : Nat) from by simp [upd, ee0, ee1, ee5])]; simp only [Sem.run_bind, Sem.run_pure, Result.andThen_ok, idx_run 41 45 4 Try.underlying41 (by kernel_rfl) wr g2 0 M k2 q (by omega), Nat.zero_add]; try rfl) fun F7 => ?_
      refine lyp F7 rfl HCC rfl (by omega) (wanted_none rfl) (v := Value.agg #[.int .i64 x.val, .int .i64 x.held, .int .i64 x.lim, .bool x.is]) (fun wr hwr => by simp only [execOp, (F7.eval 23 (by omega)).trans (show _ = Value.pointer (some ⟨g2, q * 4, none⟩) from by simp [upd, ee0, ee1, ee5])]; simp [go_sem, hwr.2.2.2.2.1, hwr.2.2.2.2.2.1, hwr.2.2.2.2.2.2.1, hwr.2.2.2.2.2.2.2]) fun F8 => ?_
      refine lyp F8 rfl HCC rfl (by omega) (wanted_none rfl) (v := Value.bool false) (fun wr hwr => by simp only [execOp, (F8.eval 20 (by omega)).trans (show _ = Value.agg #[.int .i64 x.val, .int .i64 x.held, .int .i64 x.lim, .bool x.is] from by simp [upd, ee0, ee1, ee5]), (F8.eval 24 (by omega)).trans (show _ = Value.agg #[.int .i64 x.val, .int .i64 x.held, .int .i64 x.lim, .bool x.is] from by simp [upd, ee0, ee1, ee5])]; simp [go_sem]) fun F9 => ?_
      refine ⟨fun _ => HCC, ?_⟩
      refine hK _ _ ?_
      clear F0 F1 F2 F3 F4 F5 F6 F7 F8 F9 ee0 ee1 ee5 HCC
      simp only [Act.put, List.setIfInBounds_toArray, List.set_cons_succ, List.set_cons_zero]
      have HB2 : Hid (Below w.heap.size w ({ wr with drawn := wr.drawn + 1 } : World)) := Below.drew HB.out
      go_wp2_with fail
      go_roundw
      case rel => exact ⟨q + 1, by omega, by go_num, HB2.out⟩
      case measure => simp [intOf]; omega
    · clear hbw
      go_wp2_with fail
      go_ret
      exact ⟨rfl, HB.out⟩
end Go.Proofs.Ytgajmiibkakobaa
