import Derived.Test.YtmnihombiabkgaaLst
namespace Go.Proofs.Ytmnihombiabkgaa
open Go.RowKit Go.PlainAid Go.MapKept
set_option linter.unusedVariables false
set_option linter.unusedSimpArgs false
set_option maxRecDepth 100000 in
set_option maxHeartbeats 1600000 in
/-- Two rows that hold the same timers. -/
theorem same_yes {L1 L2 : Nat} {u v : Value} {l : List Tm} (w : World) (hu : w.ownsRow L1 50 4 u l.length (flatT l)) (hv : w.ownsRow L2 50 4 v l.length (flatT l)) (hn : l.length ≤ 1000000) :
    Calls Try.prog 18 #[u, v] w fun r w' => r = .returned (.bool true) ∧ Below w.heap.size w w' := by
  obtain ⟨ao1, cap1, hu1, _⟩ := own_slice hu
  obtain ⟨ao2, cap2, hv1, _⟩ := own_slice hv
  subst hu1 hv1
  have HU : Hid _ := hu
  have HV : Hid _ := hv
  obtain ⟨n, hnn⟩ : ∃ n, n = l.length := ⟨_, rfl⟩
  have HN : Hid (n = l.length) := hnn
  rw [← hnn] at hn ⊢
  clear hu hv hnn
  go_enter Try.func18, Try.ntmps18
  go_wp2_with fail
  go_loopw [5] (fun i wr => ∃ k : Nat, k ≤ n ∧ i = .int .i64 k ∧ Below w.heap.size w wr) (fun i _ => n - (intOf i).toNat)
  case atStart => exact ⟨0, Nat.zero_le _, rfl, Below.refl _ _⟩
  case round =>
    obtain ⟨k, hk, rfl, hbel⟩ := hrel
    have HBE : Hid _ := hbel
    clear hbel
    by_cases hlt : k < n
    · obtain ⟨g1, c1, e1, _, _, _⟩ := own_some HU.out (by rw [← HN.out]; omega)
      obtain ⟨g2, c2, e2, _, _, _⟩ := own_some HV.out (by rw [← HN.out]; omega)
      simp only [Value.slice.injEq] at e1 e2
      obtain ⟨rfl, _, rfl⟩ := e1
      obtain ⟨rfl, _, rfl⟩ := e2
      obtain ⟨t, ht⟩ : ∃ t, l[k]? = some t := ⟨l[k]'(by rw [← HN.out]; exact hlt), List.getElem?_eq_getElem _⟩
      obtain ⟨a0, a1, a2, a3⟩ := cellT HU.out ht
      obtain ⟨b0, b1, b2, b3⟩ := cellT HV.out ht
      have heq : ∀ wz, (Go.Op.equal 50 (.agg #[.int .i64 t.due, .int .i64 t.num, .int .i64 t.kind, .int .i64 t.id]) (.agg #[.int .i64 t.due, .int .i64 t.num, .int .i64 t.kind, .int .i64 t.id])).run Try.prog wz = .ok true wz := fun wz => by
        rw [eqT t t wz]
        simp
      obtain ⟨d, m, kd, id⟩ := t
      clear HU HV HN ht
      simp only at a0 a1 a2 a3 b0 b1 b2 b3 heq
      go_wp2_with fail
      rename_i K hK
      try rw [show ∀ a : Act, a.put none undef = a from fun _ => rfl]
      refine wp_region_mix (fun wz => Below w.heap.size w wz) (fun i => i == 99) 99 (by kernel_rfl) rfl (by kernel_rfl) (by kernel_rfl) (by kernel_rfl) ?_
      refine withFrP (N := 26) rfl ?_
      intro f0 F0 hff
      have e0 : f0 0 = Value.slice (some ⟨g1, 0, none⟩) n cap1 := hff 0
      have e1 : f0 1 = Value.slice (some ⟨g2, 0, none⟩) n cap2 := hff 1
      have e5 : f0 5 = Value.int .i64 (k : Int) := hff 5
      clear hff
      have HCC : (fun wz => Below w.heap.size w wz) (({ wr with drawn := wr.drawn + 1 } : World)) := Below.drew HBE.out
      have V10 : ∀ wz, Below w.heap.size w wz → wz.cell? ⟨g1, k * 4, none⟩ = some (.int .i64 d) := fun wz hw => (hw.cell (p := ⟨g1, k * 4, none⟩) (World.block_lt_of_cell? w _ a0)).trans a0
      have V11 : ∀ wz, Below w.heap.size w wz → wz.cell? ⟨g1, k * 4 + 1, none⟩ = some (.int .i64 m) := fun wz hw => (hw.cell (p := ⟨g1, k * 4 + 1, none⟩) (World.block_lt_of_cell? w _ a1)).trans a1
      have V12 : ∀ wz, Below w.heap.size w wz → wz.cell? ⟨g1, k * 4 + 2, none⟩ = some (.int .i64 kd) := fun wz hw => (hw.cell (p := ⟨g1, k * 4 + 2, none⟩) (World.block_lt_of_cell? w _ a2)).trans a2
      have V13 : ∀ wz, Below w.heap.size w wz → wz.cell? ⟨g1, k * 4 + 3, none⟩ = some (.int .i64 id) := fun wz hw => (hw.cell (p := ⟨g1, k * 4 + 3, none⟩) (World.block_lt_of_cell? w _ a3)).trans a3
      have V20 : ∀ wz, Below w.heap.size w wz → wz.cell? ⟨g2, k * 4, none⟩ = some (.int .i64 d) := fun wz hw => (hw.cell (p := ⟨g2, k * 4, none⟩) (World.block_lt_of_cell? w _ b0)).trans b0
      have V21 : ∀ wz, Below w.heap.size w wz → wz.cell? ⟨g2, k * 4 + 1, none⟩ = some (.int .i64 m) := fun wz hw => (hw.cell (p := ⟨g2, k * 4 + 1, none⟩) (World.block_lt_of_cell? w _ b1)).trans b1
      have V22 : ∀ wz, Below w.heap.size w wz → wz.cell? ⟨g2, k * 4 + 2, none⟩ = some (.int .i64 kd) := fun wz hw => (hw.cell (p := ⟨g2, k * 4 + 2, none⟩) (World.block_lt_of_cell? w _ b2)).trans b2
      have V23 : ∀ wz, Below w.heap.size w wz → wz.cell? ⟨g2, k * 4 + 3, none⟩ = some (.int .i64 id) := fun wz hw => (hw.cell (p := ⟨g2, k * 4 + 3, none⟩) (World.block_lt_of_cell? w _ b3)).trans b3
      refine lyp F0 rfl HCC rfl (by omega) (wanted_none rfl) (v := Value.slice (some ⟨g1, 0, none⟩) n cap1) (fun wr hwr => by simp only [execOp, (F0.eval 0 (by omega)).trans (show _ = Value.slice (some ⟨g1, 0, none⟩) n cap1 from by simp [upd, e0, e1, e5])]; first | rfl | simp [go_sem]) fun F1 => ?_
      refine lyp F1 rfl HCC rfl (by omega) (wanted_none rfl) (v := Value.int .i64 (k : Int)) (fun wr hwr => by simp only [execOp, (F1.eval 5 (by omega)).trans (show _ = Value.int .i64 (k : Int) from by simp [upd, e0, e1, e5])]; first | rfl | simp [go_sem]) fun F2 => ?_
      refine lyp F2 rfl HCC rfl (by omega) (wanted_none rfl) (v := Value.pointer (some ⟨g1, k * 4, none⟩)) (fun wr hwr => by simp only [execOp, (F2.eval 17 (by omega)).trans (show _ = Value.slice (some ⟨g1, 0, none⟩) n cap1 from by simp [upd, e0, e1, e5]), (F2.eval 18 (by omega)).trans (show _ = Value.int .i64 (k : Int) from by simp [upd, e0, e1, e5])]; simp [go_sem, hlt]) fun F3 => ?_
      refine lyp F3 rfl HCC rfl (by omega) (wanted_none rfl) (v := Value.agg #[.int .i64 d, .int .i64 m, .int .i64 kd, .int .i64 id]) (fun wr hwr => by simp only [execOp, (F3.eval 19 (by omega)).trans (show _ = Value.pointer (some ⟨g1, k * 4, none⟩) from by simp [upd, e0, e1, e5])]; simp [go_sem, V10 _ hwr, V11 _ hwr, V12 _ hwr, V13 _ hwr]) fun F4 => ?_
      refine lyp F4 rfl HCC rfl (by omega) (wanted_none rfl) (v := Value.slice (some ⟨g2, 0, none⟩) n cap2) (fun wr hwr => by simp only [execOp, (F4.eval 1 (by omega)).trans (show _ = Value.slice (some ⟨g2, 0, none⟩) n cap2 from by simp [upd, e0, e1, e5])]; first | rfl | simp [go_sem]) fun F5 => ?_
      refine lyp F5 rfl HCC rfl (by omega) (wanted_none rfl) (v := Value.int .i64 (k : Int)) (fun wr hwr => by simp only [execOp, (F5.eval 5 (by omega)).trans (show _ = Value.int .i64 (k : Int) from by simp [upd, e0, e1, e5])]; first | rfl | simp [go_sem]) fun F6 => ?_
      refine lyp F6 rfl HCC rfl (by omega) (wanted_none rfl) (v := Value.pointer (some ⟨g2, k * 4, none⟩)) (fun wr hwr => by simp only [execOp, (F6.eval 21 (by omega)).trans (show _ = Value.slice (some ⟨g2, 0, none⟩) n cap2 from by simp [upd, e0, e1, e5]), (F6.eval 22 (by omega)).trans (show _ = Value.int .i64 (k : Int) from by simp [upd, e0, e1, e5])]; simp [go_sem, hlt]) fun F7 => ?_
      refine lyp F7 rfl HCC rfl (by omega) (wanted_none rfl) (v := Value.agg #[.int .i64 d, .int .i64 m, .int .i64 kd, .int .i64 id]) (fun wr hwr => by simp only [execOp, (F7.eval 23 (by omega)).trans (show _ = Value.pointer (some ⟨g2, k * 4, none⟩) from by simp [upd, e0, e1, e5])]; simp [go_sem, V20 _ hwr, V21 _ hwr, V22 _ hwr, V23 _ hwr]) fun F8 => ?_
      refine lyp F8 rfl HCC rfl (by omega) (wanted_none rfl) (v := Value.bool false) (fun wr hwr => by simp only [execOp, (F8.eval 20 (by omega)).trans (show _ = Value.agg #[.int .i64 d, .int .i64 m, .int .i64 kd, .int .i64 id] from by simp [upd, e0, e1, e5]), (F8.eval 24 (by omega)).trans (show _ = Value.agg #[.int .i64 d, .int .i64 m, .int .i64 kd, .int .i64 id] from by simp [upd, e0, e1, e5])]; simp [go_sem, heq]) fun F9 => ?_
      refine ⟨fun _ => HCC, ?_⟩
      refine hK _ _ ?_
      clear F0 F1 F2 F3 F4 F5 F6 F7 F8 F9 e0 e1 e5 V10 V11 V12 V13 V20 V21 V22 V23
      simp only [Act.put, List.setIfInBounds_toArray, List.set_cons_succ, List.set_cons_zero]
      have HB2 : Hid (Below w.heap.size w ({ wr with drawn := wr.drawn + 1 } : World)) := HCC
      clear HCC a0 a1 a2 a3 b0 b1 b2 b3 heq
      go_wp2_with fail
      go_roundw
      case rel => exact ⟨k + 1, by omega, by go_num, HB2.out⟩
      case measure => simp [intOf]; omega
    · go_wp2_with fail
      go_ret
      exact ⟨rfl, HBE.out⟩
end Go.Proofs.Ytmnihombiabkgaa
