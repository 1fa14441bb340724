import Derived.Test.YtdblbjcdnkiepaaKns
namespace Go.Proofs.Ytdblbjcdnkiepaa
open Go.RowKit Go.PlainAid Go.MapKept
set_option linter.unusedVariables false
set_option linter.unusedSimpArgs false
/-- The marks of apart: each list has its own. -/
def vmk (mark : Int) (n : Nat) : List Ent := (List.range n).map fun (k : Nat) => ⟨0, [], k, 0, mark, 0, 0, 0⟩
def rmk (mark : Int) (n : Nat) : List (Int × Int) := (List.range n).map fun (k : Nat) => (mark, (k : Int))
theorem vmk_len (mark : Int) (n : Nat) : (vmk mark n).length = n := by simp [vmk]
theorem rmk_len (mark : Int) (n : Nat) : (rmk mark n).length = n := by simp [rmk]
theorem vmk_at {mark : Int} {n i : Nat} (h : i < n) : (vmk mark n)[i]? = some ⟨0, [], i, 0, mark, 0, 0, 0⟩ := by simp [vmk, h]
theorem rmk_at {mark : Int} {n i : Nat} (h : i < n) : (rmk mark n)[i]? = some (mark, (i : Int)) := by simp [rmk, h]
set_option maxRecDepth 100000 in
set_option maxHeartbeats 3200000 in
theorem viewed_any {La n : Nat} {v : Value} (mark : Int) (w : World) (hd : w.ownsRow La 46 7 v n (flatV (vmk mark n))) (h1 : n ≤ 100000) :
    Calls Try.prog 49 #[v, .int .i64 mark] w fun e w' => e = .returned (.bool true) ∧ w' = w := by
  obtain ⟨da, dc, hdv, _, _, hdc⟩ := own_read hd
  subst hdv
  have HDC : Hid (0 < n → ∃ g, da = some ⟨g, 0, none⟩ ∧ La ≤ g ∧ g < w.heap.size ∧ ∀ j u, (flatV (vmk mark n))[j]? = some u → w.cell? ⟨g, j, none⟩ = some u) := hdc
  clear hd hdc
  go_enter Try.func49, Try.ntmps49
  go_wp2_with fail
  go_loopw [5] (fun i wr => ∃ q : Nat, q ≤ n ∧ i = .int .i64 q ∧ wr = w) (fun i _ => n - (intOf i).toNat)
  case atStart => exact ⟨0, Nat.zero_le _, rfl, rfl⟩
  case round =>
    obtain ⟨q, hq, rfl, hwr⟩ := hrel
    replace hwr := hwr.symm
    subst hwr
    by_cases hlt : q < n
    · obtain ⟨g, hg, _, _, hc⟩ := HDC.out (by omega)
      subst hg
      have d0 : w.cell? ⟨g, q * 7, none⟩ = some (.string ⟨#[]⟩) := hc (q * 7) _ (flatV_get _ q 0 _ (vmk_at hlt) (by decide))
      have d1 : w.cell? ⟨g, q * 7 + 1, none⟩ = some (.int .i64 (q : Int)) := hc (q * 7 + 1) _ (flatV_get _ q 1 _ (vmk_at hlt) (by decide))
      have d3 : w.cell? ⟨g, q * 7 + 3, none⟩ = some (.int .i64 mark) := hc (q * 7 + 3) _ (flatV_get _ q 3 _ (vmk_at hlt) (by decide))
      clear hc HDC
      go_wp2_with fail
      go_roundw
      case rel => exact ⟨q + 1, by omega, by go_num, by first | rfl | trivial⟩
      case measure => simp [intOf]; omega
    · clear HDC
      go_wp2_with fail
      go_ret
      exact ⟨rfl, rfl⟩
set_option maxRecDepth 100000 in
set_option maxHeartbeats 3200000 in
theorem righted_any {La n : Nat} {v : Value} (mark : Int) (w : World) (hd : w.ownsRow La 44 2 v n (flatR (rmk mark n))) (h1 : n ≤ 100000) :
    Calls Try.prog 50 #[v, .int .i64 mark] w fun e w' => e = .returned (.bool true) ∧ w' = w := by
  obtain ⟨da, dc, hdv, _, _, hdc⟩ := own_read hd
  subst hdv
  have HDC : Hid (0 < n → ∃ g, da = some ⟨g, 0, none⟩ ∧ La ≤ g ∧ g < w.heap.size ∧ ∀ j u, (flatR (rmk mark n))[j]? = some u → w.cell? ⟨g, j, none⟩ = some u) := hdc
  clear hd hdc
  go_enter Try.func50, Try.ntmps50
  go_wp2_with fail
  go_loopw [5] (fun i wr => ∃ q : Nat, q ≤ n ∧ i = .int .i64 q ∧ wr = w) (fun i _ => n - (intOf i).toNat)
  case atStart => exact ⟨0, Nat.zero_le _, rfl, rfl⟩
  case round =>
    obtain ⟨q, hq, rfl, hwr⟩ := hrel
    replace hwr := hwr.symm
    subst hwr
    by_cases hlt : q < n
    · obtain ⟨g, hg, _, _, hc⟩ := HDC.out (by omega)
      subst hg
      obtain ⟨e0, e1⟩ := flatR_get _ q _ (rmk_at (mark := mark) hlt)
      have d0 : w.cell? ⟨g, q * 2, none⟩ = some (.int .i64 mark) := hc _ _ e0
      have d1 : w.cell? ⟨g, q * 2 + 1, none⟩ = some (.int .i64 (q : Int)) := hc _ _ e1
      clear hc HDC e0 e1
      go_wp2_with fail
      go_roundw
      case rel => exact ⟨q + 1, by omega, by go_num, by first | rfl | trivial⟩
      case measure => simp [intOf]; omega
    · clear HDC
      go_wp2_with fail
      go_ret
      exact ⟨rfl, rfl⟩
set_option maxRecDepth 100000 in
set_option maxHeartbeats 3200000 in
theorem rights_yes (aa ab : Option Addr) (KK ca cb La Lb : Nat) (rs : List (Int × Int)) (w : World) (hl : rs.length = KK) (hK : KK ≤ 100000) (ha : w.ownsRow La 44 2 (.slice aa KK ca) KK (flatR rs)) (hb : w.ownsRow Lb 44 2 (.slice ab KK cb) KK (flatR rs)) :
    Calls Try.prog 48 #[.slice aa KK ca, .slice ab KK cb] w fun e w' => e = .returned (.bool true) ∧ Below w.heap.size w w' := by
  have HL : Hid (rs.length = KK) := hl
  have HA : Hid (World.ownsRow w La 44 2 (.slice aa KK ca) KK (flatR rs)) := ha
  have HBB : Hid (World.ownsRow w Lb 44 2 (.slice ab KK cb) KK (flatR rs)) := hb
  have HSR : Hid (∀ (a b : Int) W, Calls Try.prog 18 #[.agg #[.int .i64 a, .int .i64 b], .agg #[.int .i64 a, .int .i64 b]] W fun e w' => e = .returned (.bool true) ∧ Below W.heap.size W w') := fun a b W => by have := sameRights_any a b a b W; simpa using this
  clear hl ha hb
  go_enter Try.func48, Try.ntmps48
  go_wp2_with fail
  go_loopw [5] (fun i wr => ∃ (q : Nat), q ≤ KK ∧ i = .int .i64 q ∧ Below w.heap.size w wr) (fun i _ => KK - (intOf i).toNat)
  case atStart => exact ⟨0, Nat.zero_le _, rfl, Below.refl _ _⟩
  case round =>
    obtain ⟨q, hq, rfl, hbel⟩ := hrel
    have HB : Hid (Below w.heap.size w wr) := hbel
    by_cases hlt : q < KK
    · obtain ⟨ga, hga, r0', r1'⟩ := row_two HA.out (q := q) (by rw [HL.out]; exact hlt)
      obtain ⟨gb, hgb, s0', s1'⟩ := row_two HBB.out (q := q) (by rw [HL.out]; exact hlt)
      subst hga
      subst hgb
      have r0 := cell_below hbel r0'
      have r1 := cell_below hbel r1'
      have s0 := cell_below hbel s0'
      have s1 := cell_below hbel s1'
      generalize rs[q]'(by rw [HL.out]; exact hlt) = dq at *
      clear hbel r0' r1' s0' s1'
      go_wp2_with fail
      rename_i K hK
      try rw [show ∀ a : Act, a.put none undef = a from fun _ => rfl]
      refine wp_region_mix (fun wq => wq.cell? ⟨ga, q * 2, none⟩ = some (.int .i64 dq.1) ∧ wq.cell? ⟨ga, q * 2 + 1, none⟩ = some (.int .i64 dq.2) ∧ wq.cell? ⟨gb, q * 2, none⟩ = some (.int .i64 dq.1) ∧ wq.cell? ⟨gb, q * 2 + 1, none⟩ = some (.int .i64 dq.2)) (fun i => i == 8 || i == 99) 99 (by kernel_rfl) rfl (by kernel_rfl) (by kernel_rfl) (by kernel_rfl) ?_
      refine withFrP (N := 27) rfl ?_
      intro f0 F0 hff
      have ee0 : f0 0 = Value.slice (some ⟨ga, 0, none⟩) KK ca := hff 0
      have ee1 : f0 1 = Value.slice (some ⟨gb, 0, none⟩) KK cb := hff 1
      have ee5 : f0 5 = Value.int .i64 ((q : Nat) : Int) := hff 5
      clear hff
      have HCC : (fun wq => wq.cell? ⟨ga, q * 2, none⟩ = some (.int .i64 dq.1) ∧ wq.cell? ⟨ga, q * 2 + 1, none⟩ = some (.int .i64 dq.2) ∧ wq.cell? ⟨gb, q * 2, none⟩ = some (.int .i64 dq.1) ∧ wq.cell? ⟨gb, q * 2 + 1, none⟩ = some (.int .i64 dq.2)) (({ wr with drawn := wr.drawn + 1 } : World)) := ⟨r0, r1, s0, s1⟩
      refine lyp F0 rfl HCC rfl (by omega) (wanted_none rfl) (v := Value.slice (some ⟨ga, 0, none⟩) KK ca) (fun wr hwr => by simp only [execOp, (F0.eval 0 (by omega)).trans (show _ = Value.slice (some ⟨ga, 0, none⟩) KK ca from by simp [upd, ee0, ee1, ee5])]; first | rfl | simp [go_sem]) fun F1 => ?_
      refine lyp F1 rfl HCC rfl (by omega) (wanted_none rfl) (v := Value.int .i64 ((q : Nat) : Int)) (fun wr hwr => by simp only [execOp, (F1.eval 5 (by omega)).trans (show _ = Value.int .i64 ((q : Nat) : Int) from by simp [upd, ee0, ee1, ee5])]; first | rfl | simp [go_sem]) fun F2 => ?_
      refine lyp F2 rfl HCC rfl (by omega) (wanted_none rfl) (v := Value.pointer (some ⟨ga, q * 2, none⟩)) (fun wr hwr => by simp only [execOp, (F2.eval 17 (by omega)).trans (show _ = Value.slice (some ⟨ga, 0, none⟩) KK ca from by simp [upd, ee0, ee1, ee5]), (F2.eval 18 (by omega)).trans (show _ = Value.int .i64 ((q : Nat) : Int) from by simp [upd, ee0, ee1, ee5])]; simp only [Sem.run_bind, Sem.run_pure, Result.andThen_ok, idx_run 42 44 2 Try.underlying42 info44s wr ga 0 KK ca q hlt, Nat.zero_add]; try rfl) fun F3 => ?_
      refine lyp F3 rfl HCC rfl (by omega) (wanted_none rfl) (v := Value.agg #[.int .i64 dq.1, .int .i64 dq.2]) (fun wr hwr => by simp only [execOp, (F3.eval 19 (by omega)).trans (show _ = Value.pointer (some ⟨ga, q * 2, none⟩) from by simp [upd, ee0, ee1, ee5])]; simp [go_sem, hwr.1, hwr.2.1]) fun F4 => ?_
      refine lyp F4 rfl HCC rfl (by omega) (wanted_none rfl) (v := Value.slice (some ⟨gb, 0, none⟩) KK cb) (fun wr hwr => by simp only [execOp, (F4.eval 1 (by omega)).trans (show _ = Value.slice (some ⟨gb, 0, none⟩) KK cb from by simp [upd, ee0, ee1, ee5])]; first | rfl | simp [go_sem]) fun F5 => ?_
      refine lyp F5 rfl HCC rfl (by omega) (wanted_none rfl) (v := Value.int .i64 ((q : Nat) : Int)) (fun wr hwr => by simp only [execOp, (F5.eval 5 (by omega)).trans (show _ = Value.int .i64 ((q : Nat) : Int) from by simp [upd, ee0, ee1, ee5])]; first | rfl | simp [go_sem]) fun F6 => ?_
      refine lyp F6 rfl HCC rfl (by omega) (wanted_none rfl) (v := Value.pointer (some ⟨gb, q * 2, none⟩)) (fun wr hwr => by simp only [execOp, (F6.eval 21 (by omega)).trans (show _ = Value.slice (some ⟨gb, 0, none⟩) KK cb from by simp [upd, ee0, ee1, ee5]), (F6.eval 22 (by omega)).trans (show _ = Value.int .i64 ((q : Nat) : Int) from by simp [upd, ee0, ee1, ee5])]; simp only [Sem.run_bind, Sem.run_pure, Result.andThen_ok, idx_run 42 44 2 Try.underlying42 info44s wr gb 0 KK cb q hlt, Nat.zero_add]; try rfl) fun F7 => ?_
      refine lyp F7 rfl HCC rfl (by omega) (wanted_none rfl) (v := Value.agg #[.int .i64 dq.1, .int .i64 dq.2]) (fun wr hwr => by simp only [execOp, (F7.eval 23 (by omega)).trans (show _ = Value.pointer (some ⟨gb, q * 2, none⟩) from by simp [upd, ee0, ee1, ee5])]; simp [go_sem, hwr.2.2.1, hwr.2.2.2]) fun F8 => ?_
      refine lcp F8 rfl HCC rfl (by omega) (wanted_none rfl) (g := 18) (args := #[Value.agg #[.int .i64 dq.1, .int .i64 dq.2], Value.agg #[.int .i64 dq.1, .int .i64 dq.2]]) (by simp only [execOp, resolve, invoke, List.map_toArray, List.map_cons, List.map_nil, (F8.eval 20 (by omega)).trans (show _ = Value.agg #[.int .i64 dq.1, .int .i64 dq.2] from by simp [upd, ee0, ee1, ee5]), (F8.eval 24 (by omega)).trans (show _ = Value.agg #[.int .i64 dq.1, .int .i64 dq.2] from by simp [upd, ee0, ee1, ee5])]; simp [go_sem, Act.eval]) (HSR.out dq.1 dq.2 (({ wr with drawn := wr.drawn + 1 } : World))) ?_
      rintro e9 Y ⟨rfl, hbY⟩
      refine ⟨_, rfl, fun F9 => ?_⟩
      have HC2 : (fun wq => wq.cell? ⟨ga, q * 2, none⟩ = some (.int .i64 dq.1) ∧ wq.cell? ⟨ga, q * 2 + 1, none⟩ = some (.int .i64 dq.2) ∧ wq.cell? ⟨gb, q * 2, none⟩ = some (.int .i64 dq.1) ∧ wq.cell? ⟨gb, q * 2 + 1, none⟩ = some (.int .i64 dq.2)) Y := ⟨cell_below hbY HCC.1, cell_below hbY HCC.2.1, cell_below hbY HCC.2.2.1, cell_below hbY HCC.2.2.2⟩
      refine lyp F9 rfl HC2 rfl (by omega) (wanted_none rfl) (v := Value.bool false) (fun wr hwr => by simp only [execOp, (F9.eval 25 (by omega)).trans (show _ = Value.bool true from by simp [upd, ee0, ee1, ee5])]; simp [go_sem, Act.eval]) fun F10 => ?_
      refine ⟨fun _ => HC2, ?_⟩
      refine hK _ _ ?_
      clear F0 F1 F2 F3 F4 F5 F6 F7 F8 F9 F10 ee0 ee1 ee5 HCC HC2
      simp only [Act.put, List.setIfInBounds_toArray, List.set_cons_succ, List.set_cons_zero]
      have HB2 : Hid (Below w.heap.size w Y) := HB.out.trans ((show Below wr.heap.size wr Y from (Below.drew (Below.refl _ _)).trans hbY).mono HB.out.size)
      clear hbY r0 r1 s0 s1
      go_wp2_with fail
      go_roundw
      case rel => exact ⟨q + 1, by omega, by go_num, HB2.out⟩
      case measure => simp [intOf]; omega
    · clear hbel
      go_wp2_with fail
      go_ret
      exact ⟨rfl, HB.out⟩
end Go.Proofs.Ytdblbjcdnkiepaa
