import Derived.Test.YtmnihombiabkgaaPt
namespace Go.Proofs.Ytmnihombiabkgaa
open Go.RowKit Go.PlainAid
set_option linter.unusedVariables false
set_option linter.unusedSimpArgs false
theorem fullT_at {n j : Nat} {m : Int} (hj : j < n) : (List.replicate n (mk9 m))[j]? = some (mk9 m) := by simp [hj]
set_option maxRecDepth 100000 in
set_option maxHeartbeats 3200000 in
/-- All is as it was left. -/
theorem whole_early {L kb : Nat} {vI vM : Value} {e1 : List Ent} (w : World) (hK : KE L kb vI vM e1 e1 w) (hel : e1.length ≤ 1000000) :
    Calls Try.prog 29 #[.pointer (some ⟨kb, 0, none⟩)] w fun r w' => r = .returned (.bool true) ∧ Below w.heap.size w w' := by
  have c0 : w.cell? ⟨kb, 0, none⟩ = some (.bool false) := hK.blk.cell 0
  obtain ⟨io, ci, hii, _⟩ := own_slice hK.xi
  obtain ⟨mo, cm, hmm, _⟩ := own_slice hK.xm
  obtain ⟨ne, hne⟩ : ∃ ne, ne = e1.length := ⟨_, rfl⟩
  have HNE : Hid (ne = e1.length) := hne
  have HK : Hid _ := hK
  rw [← hne] at hii hmm hel
  subst hii hmm
  have c1 : w.cell? ⟨kb, 1, none⟩ = some (.slice io ne ci) := hK.blk.cell 1
  clear hK hne
  go_enter Try.func29, Try.ntmps29
  go_wp2_with fail
  go_loopw [3, 4] (fun s3 _ wr => ∃ i : Nat, i ≤ ne ∧ s3 = .int .i64 (i : Int) ∧ Below w.heap.size w wr) (fun s3 _ _ => ne - (intOf s3).toNat)
  case atStart => exact ⟨0, Nat.zero_le _, rfl, Below.refl _ _⟩
  case round =>
    obtain ⟨i, hie, rfl, hbe⟩ := hrel
    have HBE0 : Hid (Below w.heap.size w wr) := hbe
    have c1' : wr.cell? ⟨kb, 1, none⟩ = some (.slice io ne ci) := (hbe.cell (p := ⟨kb, 1, none⟩) (World.block_lt_of_cell? w _ c1)).trans c1
    clear hbe
    by_cases hi : i < ne
    · obtain ⟨e, he⟩ : ∃ e, e1[i]? = some e := ⟨e1[i]'(by rw [← HNE.out]; exact hi), List.getElem?_eq_getElem _⟩
      have hem := List.mem_of_getElem? he
      have hrow := HK.out.en e hem
      obtain ⟨ev, nv, em⟩ := e
      simp only at hrow
      obtain ⟨vo, cv, hvv, hncv, hcvm, _⟩ := own_read hrow
      have hnv : nv ≤ 9223372036854775807 := by unfold maxLen at hcvm; omega
      clear hncv hcvm
      subst hvv
      have xi := HK.out.xi
      rw [← HNE.out] at xi
      have xm := HK.out.xm
      rw [← HNE.out] at xm
      have hgi : ∃ gi, io = some ⟨gi, 0, none⟩ := by
        rcases xi.2 with ⟨h1, h2⟩ | ⟨g2, c, cur, h1, _⟩
        · omega
        · simp only [Value.slice.injEq] at h1
          exact ⟨g2, h1.1⟩
      have hgm : ∃ gm, mo = some ⟨gm, 0, none⟩ := by
        rcases xm.2 with ⟨h1, h2⟩ | ⟨g2, c, cur, h1, _⟩
        · omega
        · simp only [Value.slice.injEq] at h1
          exact ⟨g2, h1.1⟩
      obtain ⟨gi, rfl⟩ := hgi
      obtain ⟨gm, rfl⟩ := hgm
      have d2 : w.cell? ⟨gi, i, none⟩ = some (.slice vo nv cv) := by
        have := xi.cells (g := gi) rfl i (.slice vo nv cv) (by rw [List.getElem?_map, he]; rfl)
        rwa [addr_add, Nat.zero_add] at this
      have d5 : w.cell? ⟨gm, i, none⟩ = some (.int .i64 em) := by
        have := xm.cells (g := gm) rfl i (I em) (by rw [List.getElem?_map, List.getElem?_map, he]; rfl)
        rwa [addr_add, Nat.zero_add] at this
      have d4 : w.cell? ⟨kb, 3, none⟩ = some (.slice (some ⟨gm, 0, none⟩) ne cm) := HK.out.blk.cell 3
      have HROW : Hid (w.ownsRow L 50 4 (.slice vo nv cv) nv (fullT nv em)) := hrow
      clear xi xm he hem hrow
      have e2' : wr.cell? ⟨gi, i, none⟩ = some (.slice vo nv cv) := (HBE0.out.cell (p := ⟨gi, i, none⟩) (World.block_lt_of_cell? w _ d2)).trans d2
      go_wp2_with fail
      go_loopw [4] (fun s4 wq => ∃ j : Nat, j ≤ nv ∧ s4 = .int .i64 (j : Int) ∧ Below w.heap.size w wq) (fun s4 _ => nv - (intOf s4).toNat)
      case atStart => exact ⟨0, Nat.zero_le _, rfl, HBE0.out⟩
      case round =>
        clear HBE0 c1' e2'
        obtain ⟨j, hjn, rfl, hbe⟩ := hrel
        have HBE : Hid (Below w.heap.size w wr) := hbe
        have V1 : ∀ wz, Below w.heap.size w wz → wz.cell? ⟨kb, 1, none⟩ = some (.slice (some ⟨gi, 0, none⟩) ne ci) := fun wz hw => (hw.cell (p := ⟨kb, 1, none⟩) (World.block_lt_of_cell? w _ c1)).trans c1
        have V2 : ∀ wz, Below w.heap.size w wz → wz.cell? ⟨gi, i, none⟩ = some (.slice vo nv cv) := fun wz hw => (hw.cell (p := ⟨gi, i, none⟩) (World.block_lt_of_cell? w _ d2)).trans d2
        have V4 : ∀ wz, Below w.heap.size w wz → wz.cell? ⟨kb, 3, none⟩ = some (.slice (some ⟨gm, 0, none⟩) ne cm) := fun wz hw => (hw.cell (p := ⟨kb, 3, none⟩) (World.block_lt_of_cell? w _ d4)).trans d4
        have V5 : ∀ wz, Below w.heap.size w wz → wz.cell? ⟨gm, i, none⟩ = some (.int .i64 em) := fun wz hw => (hw.cell (p := ⟨gm, i, none⟩) (World.block_lt_of_cell? w _ d5)).trans d5
        have w1' := V1 wr hbe
        have w2' := V2 wr hbe
        clear hbe
        by_cases hj : j < nv
        · obtain ⟨gv, c, hv, _, _, _⟩ := own_some HROW.out (by omega)
          simp only [Value.slice.injEq] at hv
          obtain ⟨rfl, hzz, hzc⟩ := hv
          clear hzz hzc
          obtain ⟨a0, a1, a2, a3⟩ := cellT HROW.out (fullT_at (m := em) hj)
          replace a0 : w.cell? ⟨gv, j * 4, none⟩ = some (.int .i64 (-9)) := a0
          replace a1 : w.cell? ⟨gv, j * 4 + 1, none⟩ = some (.int .i64 em) := a1
          replace a2 : w.cell? ⟨gv, j * 4 + 2, none⟩ = some (.int .i64 0) := a2
          replace a3 : w.cell? ⟨gv, j * 4 + 3, none⟩ = some (.int .i64 0) := a3
          have V30 : ∀ wz, Below w.heap.size w wz → wz.cell? ⟨gv, j * 4, none⟩ = some (.int .i64 (-9)) := fun wz hw => (hw.cell (p := ⟨gv, j * 4, none⟩) (World.block_lt_of_cell? w _ a0)).trans a0
          have V31 : ∀ wz, Below w.heap.size w wz → wz.cell? ⟨gv, j * 4 + 1, none⟩ = some (.int .i64 em) := fun wz hw => (hw.cell (p := ⟨gv, j * 4 + 1, none⟩) (World.block_lt_of_cell? w _ a1)).trans a1
          have V32 : ∀ wz, Below w.heap.size w wz → wz.cell? ⟨gv, j * 4 + 2, none⟩ = some (.int .i64 0) := fun wz hw => (hw.cell (p := ⟨gv, j * 4 + 2, none⟩) (World.block_lt_of_cell? w _ a2)).trans a2
          have V33 : ∀ wz, Below w.heap.size w wz → wz.cell? ⟨gv, j * 4 + 3, none⟩ = some (.int .i64 0) := fun wz hw => (hw.cell (p := ⟨gv, j * 4 + 3, none⟩) (World.block_lt_of_cell? w _ a3)).trans a3
          have heq : ∀ wz, (Go.Op.equal 50 (.agg #[.int .i64 (-9), .int .i64 em, .int .i64 0, .int .i64 0]) (.agg #[.int .i64 (-9), .int .i64 em, .int .i64 0, .int .i64 0])).run Try.prog wz = .ok true wz := fun wz => by
            have := eqT (mk9 em) (mk9 em) wz
            rw [decide_eq_true rfl] at this
            exact this
          clear HROW
          go_wp2_with fail
          rename_i K hK
          try rw [show ∀ a : Act, a.put none undef = a from fun _ => rfl]
          refine wp_region_mix (fun wz => Below w.heap.size w wz) (fun i => i == 99) 99 (by kernel_rfl) rfl (by kernel_rfl) (by kernel_rfl) (by kernel_rfl) ?_
          refine withFrP (N := 51) rfl ?_
          intro f0 F0 hff
          have e0 : f0 0 = Value.pointer (some ⟨kb, 0, none⟩) := hff 0
          have e3 : f0 3 = Value.int .i64 (i : Int) := hff 3
          have e4 : f0 4 = Value.int .i64 (j : Int) := hff 4
          clear hff
          have HCC : (fun wz => Below w.heap.size w wz) (({ wr with drawn := wr.drawn + 1 } : World)) := Below.drew HBE.out
          refine lyp F0 rfl HCC rfl (by omega) (wanted_none rfl) (v := Value.pointer (some ⟨kb, 0, none⟩)) (fun wr hwr => by simp only [execOp, (F0.eval 0 (by omega)).trans (show _ = Value.pointer (some ⟨kb, 0, none⟩) from by simp [upd, e0, e3, e4])]; first | rfl | simp [go_sem]) fun Fp1 => ?_
          refine lyp Fp1 rfl HCC rfl (by omega) (wanted_none rfl) (v := Value.pointer (some ⟨kb, 0, none⟩)) (fun wr hwr => by simp only [execOp, (Fp1.eval 32 (by omega)).trans (show _ = Value.pointer (some ⟨kb, 0, none⟩) from by simp [upd, e0, e3, e4])]; simp [go_sem]) fun Fp2 => ?_
          refine lyp Fp2 rfl HCC rfl (by omega) (wanted_none rfl) (v := Value.pointer (some ⟨kb, 1, none⟩)) (fun wr hwr => by simp only [execOp, (Fp2.eval 33 (by omega)).trans (show _ = Value.pointer (some ⟨kb, 0, none⟩) from by simp [upd, e0, e3, e4])]; simp [go_sem]) fun Fp3 => ?_
          refine lyp Fp3 rfl HCC rfl (by omega) (wanted_none rfl) (v := Value.slice (some ⟨gi, 0, none⟩) ne ci) (fun wr hwr => by simp only [execOp, (Fp3.eval 34 (by omega)).trans (show _ = Value.pointer (some ⟨kb, 1, none⟩) from by simp [upd, e0, e3, e4])]; simp [go_sem, V1 _ hwr]) fun Fp4 => ?_
          refine lyp Fp4 rfl HCC rfl (by omega) (wanted_none rfl) (v := Value.int .i64 (i : Int)) (fun wr hwr => by simp only [execOp, (Fp4.eval 3 (by omega)).trans (show _ = Value.int .i64 (i : Int) from by simp [upd, e0, e3, e4])]; first | rfl | simp [go_sem]) fun Fp5 => ?_
          refine lyp Fp5 rfl HCC rfl (by omega) (wanted_none rfl) (v := Value.pointer (some ⟨gi, i, none⟩)) (fun wr hwr => by simp only [execOp, (Fp5.eval 35 (by omega)).trans (show _ = Value.slice (some ⟨gi, 0, none⟩) ne ci from by simp [upd, e0, e3, e4]), (Fp5.eval 36 (by omega)).trans (show _ = Value.int .i64 (i : Int) from by simp [upd, e0, e3, e4])]; simp [go_sem, hi]) fun Fp6 => ?_
          refine lyp Fp6 rfl HCC rfl (by omega) (wanted_none rfl) (v := Value.slice (some ⟨gv, 0, none⟩) nv cv) (fun wr hwr => by simp only [execOp, (Fp6.eval 37 (by omega)).trans (show _ = Value.pointer (some ⟨gi, i, none⟩) from by simp [upd, e0, e3, e4])]; simp [go_sem, V2 _ hwr]) fun Fp7 => ?_
          refine lyp Fp7 rfl HCC rfl (by omega) (wanted_none rfl) (v := Value.int .i64 (j : Int)) (fun wr hwr => by simp only [execOp, (Fp7.eval 4 (by omega)).trans (show _ = Value.int .i64 (j : Int) from by simp [upd, e0, e3, e4])]; first | rfl | simp [go_sem]) fun Fp8 => ?_
          refine lyp Fp8 rfl HCC rfl (by omega) (wanted_none rfl) (v := Value.pointer (some ⟨gv, j * 4, none⟩)) (fun wr hwr => by simp only [execOp, (Fp8.eval 38 (by omega)).trans (show _ = Value.slice (some ⟨gv, 0, none⟩) nv cv from by simp [upd, e0, e3, e4]), (Fp8.eval 39 (by omega)).trans (show _ = Value.int .i64 (j : Int) from by simp [upd, e0, e3, e4])]; simp [go_sem, hj]) fun Fp9 => ?_
          refine lyp Fp9 rfl HCC rfl (by omega) (wanted_none rfl) (v := Value.agg #[.int .i64 (-9), .int .i64 em, .int .i64 0, .int .i64 0]) (fun wr hwr => by simp only [execOp, (Fp9.eval 40 (by omega)).trans (show _ = Value.pointer (some ⟨gv, j * 4, none⟩) from by simp [upd, e0, e3, e4])]; simp [go_sem, V30 _ hwr, V31 _ hwr, V32 _ hwr, V33 _ hwr]) fun Fp10 => ?_
          refine lyp Fp10 rfl HCC rfl (by omega) (wanted_none rfl) (v := Value.pointer (some ⟨kb, 0, none⟩)) (fun wr hwr => by simp only [execOp, (Fp10.eval 0 (by omega)).trans (show _ = Value.pointer (some ⟨kb, 0, none⟩) from by simp [upd, e0, e3, e4])]; first | rfl | simp [go_sem]) fun Fp11 => ?_
          refine lyp Fp11 rfl HCC rfl (by omega) (wanted_none rfl) (v := Value.pointer (some ⟨kb, 0, none⟩)) (fun wr hwr => by simp only [execOp, (Fp11.eval 42 (by omega)).trans (show _ = Value.pointer (some ⟨kb, 0, none⟩) from by simp [upd, e0, e3, e4])]; simp [go_sem]) fun Fp12 => ?_
          refine lyp Fp12 rfl HCC rfl (by omega) (wanted_none rfl) (v := Value.pointer (some ⟨kb, 3, none⟩)) (fun wr hwr => by simp only [execOp, (Fp12.eval 43 (by omega)).trans (show _ = Value.pointer (some ⟨kb, 0, none⟩) from by simp [upd, e0, e3, e4])]; simp [go_sem]) fun Fp13 => ?_
          refine lyp Fp13 rfl HCC rfl (by omega) (wanted_none rfl) (v := Value.slice (some ⟨gm, 0, none⟩) ne cm) (fun wr hwr => by simp only [execOp, (Fp13.eval 44 (by omega)).trans (show _ = Value.pointer (some ⟨kb, 3, none⟩) from by simp [upd, e0, e3, e4])]; simp [go_sem, V4 _ hwr]) fun Fp14 => ?_
          refine lyp Fp14 rfl HCC rfl (by omega) (wanted_none rfl) (v := Value.int .i64 (i : Int)) (fun wr hwr => by simp only [execOp, (Fp14.eval 3 (by omega)).trans (show _ = Value.int .i64 (i : Int) from by simp [upd, e0, e3, e4])]; first | rfl | simp [go_sem]) fun Fp15 => ?_
          refine lyp Fp15 rfl HCC rfl (by omega) (wanted_none rfl) (v := Value.pointer (some ⟨gm, i, none⟩)) (fun wr hwr => by simp only [execOp, (Fp15.eval 45 (by omega)).trans (show _ = Value.slice (some ⟨gm, 0, none⟩) ne cm from by simp [upd, e0, e3, e4]), (Fp15.eval 46 (by omega)).trans (show _ = Value.int .i64 (i : Int) from by simp [upd, e0, e3, e4])]; simp [go_sem, hi]) fun Fp16 => ?_
          refine lyp Fp16 rfl HCC rfl (by omega) (wanted_none rfl) (v := Value.int .i64 em) (fun wr hwr => by simp only [execOp, (Fp16.eval 47 (by omega)).trans (show _ = Value.pointer (some ⟨gm, i, none⟩) from by simp [upd, e0, e3, e4])]; simp [go_sem, V5 _ hwr]) fun Fp17 => ?_
          refine lyp Fp17 rfl HCC rfl (by omega) (wanted_none rfl) (v := Value.agg #[.int .i64 (-9), .int .i64 em, .int .i64 0, .int .i64 0]) (fun wr hwr => by simp only [execOp, List.map_toArray, List.map_cons, List.map_nil, (Fp17.eval 48 (by omega)).trans (show _ = Value.int .i64 em from by simp [upd, e0, e3, e4])]; simp [go_sem, zero50, Act.eval]) fun Fp18 => ?_
          refine lyp Fp18 rfl HCC rfl (by omega) (wanted_none rfl) (v := Value.bool false) (fun wr hwr => by simp only [execOp, (Fp18.eval 41 (by omega)).trans (show _ = Value.agg #[.int .i64 (-9), .int .i64 em, .int .i64 0, .int .i64 0] from by simp [upd, e0, e3, e4]), (Fp18.eval 49 (by omega)).trans (show _ = Value.agg #[.int .i64 (-9), .int .i64 em, .int .i64 0, .int .i64 0] from by simp [upd, e0, e3, e4])]; simp [go_sem, heq]) fun Fp19 => ?_
          refine ⟨fun _ => HCC, ?_⟩
          refine hK _ _ ?_
          clear F0 Fp1 Fp2 Fp3 Fp4 Fp5 Fp6 Fp7 Fp8 Fp9 Fp10 Fp11 Fp12 Fp13 Fp14 Fp15 Fp16 Fp17 Fp18 Fp19 e0 e3 e4 
          simp only [Act.put, List.setIfInBounds_toArray, List.set_cons_succ, List.set_cons_zero]
          have HB2 : Hid (Below w.heap.size w ({ wr with drawn := wr.drawn + 1 } : World)) := HCC
          clear HCC a0 a1 a2 a3 heq V1 V2 V4 V5 V30 V31 V32 V33
          go_wp2_with fail
          go_roundw
          case rel => exact ⟨j + 1, by omega, by go_num, HB2.out⟩
          case measure => simp [intOf]; omega
        · clear V1 V2 V4 V5
          go_wp2_with fail
          go_roundw
          case rel => exact ⟨i + 1, by omega, by go_num, HBE.out⟩
          case measure => simp [intOf]; omega
    · go_wp2_with fail
      go_ret
      exact ⟨rfl, HBE0.out⟩
end Go.Proofs.Ytmnihombiabkgaa
