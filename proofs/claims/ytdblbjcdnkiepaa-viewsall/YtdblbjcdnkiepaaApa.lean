import Derived.Test.YtdblbjcdnkiepaaAp3
namespace Go.Proofs.Ytdblbjcdnkiepaa
open Go.RowKit Go.PlainAid Go.MapKept
set_option linter.unusedVariables false
set_option linter.unusedSimpArgs false
set_option maxRecDepth 100000 in
set_option maxHeartbeats 12800000 in
theorem apart_any {L0 kb : Nat} {ds ks : Value} {us vs : List UU} (w : World) (hh : Held (kPs L0 46 7 106 mV ds 0 0 us (boxP L0 kb #[ds, ks] 90 :: kPs L0 44 2 109 mR ks 0 0 vs [])) w)
    (hu : ∀ u ∈ us, ∃ D, u.xs = flatV D ∧ D.length = u.n ∧ u.n ≤ 40000 ∧ u.mo = .slice none 0 0) (hv : ∀ u ∈ vs, ∃ D, u.xs = flatR D ∧ D.length = u.n ∧ u.n ≤ 1000 ∧ u.mo = .slice none 0 0) (hus : us.length ≤ 1000) (hvs : vs.length ≤ 1000) :
    Calls Try.prog 34 #[.pointer (some ⟨kb, 0, none⟩)] w fun e w' => e = .returned (.bool true) ∧ Chg (has (kPs L0 46 7 106 mV ds 0 0 us (boxP L0 kb #[ds, ks] 90 :: kPs L0 44 2 109 mR ks 0 0 vs []))) w w' := by
  obtain ⟨own0, hown0⟩ : ∃ own0, own0 = has (kPs L0 46 7 106 mV ds 0 0 us (boxP L0 kb #[ds, ks] 90 :: kPs L0 44 2 109 mR ks 0 0 vs [])) := ⟨_, rfl⟩
  have hst0 : AS own0 w (kPs L0 46 7 106 mV ds 0 0 us (boxP L0 kb #[ds, ks] 90 :: kPs L0 44 2 109 mR ks 0 0 vs [])) w := ⟨hh, Chg.refl _ _, fun k hk => Or.inl (by rw [hown0]; exact hk)⟩
  obtain ⟨da, dc, hds, _⟩ := own_slice (kPs_row hst0)
  obtain ⟨ka, kc, hks, _⟩ := own_slice (kPs_row (hst0.perm kPs_swap))
  subst hds
  subst hks
  have HST0 : Hid (AS own0 w (kPs L0 46 7 106 mV (.slice da us.length dc) 0 0 us (boxP L0 kb #[.slice da us.length dc, .slice ka vs.length kc] 90 :: kPs L0 44 2 109 mR (.slice ka vs.length kc) 0 0 vs [])) w) := hst0
  have HDU : Hid (∀ u ∈ us, ∃ D, u.xs = flatV D ∧ D.length = u.n ∧ u.n ≤ 40000 ∧ u.mo = .slice none 0 0) := hu
  have HKU : Hid (∀ u ∈ vs, ∃ D, u.xs = flatR D ∧ D.length = u.n ∧ u.n ≤ 1000 ∧ u.mo = .slice none 0 0) := hv
  have HOWN : Hid (own0 = has (kPs L0 46 7 106 mV (.slice da us.length dc) 0 0 us (boxP L0 kb #[.slice da us.length dc, .slice ka vs.length kc] 90 :: kPs L0 44 2 109 mR (.slice ka vs.length kc) 0 0 vs []))) := hown0
  have c0 : w.cell? ⟨kb, 0, none⟩ = some (.slice da us.length dc) := (kPs_y hst0 (e := boxP L0 kb #[.slice da us.length dc, .slice ka vs.length kc] 90) (List.mem_cons_self ..)).1.cell 0
  clear hh hst0 hu hv hown0
  go_enter Try.func34, Try.ntmps34
  go_wp2_with fail
  go_loopw [3, 4] (fun s3 s wr => ∃ k : Nat, k ≤ us.length ∧ s3 = .bool true ∧ s = .int .i64 k ∧ AS own0 w (kPs L0 46 7 106 mV (.slice da us.length dc) 0 0 us (boxP L0 kb #[.slice da us.length dc, .slice ka vs.length kc] 90 :: kPs L0 44 2 109 mR (.slice ka vs.length kc) 0 0 vs [])) wr) (fun _ s _ => us.length - (intOf s).toNat)
  case atStart => exact ⟨0, Nat.zero_le _, rfl, rfl, HST0.out⟩
  case round =>
    obtain ⟨k, hk, rfl, rfl, hst⟩ := hrel
    have b0 : wr.cell? ⟨kb, 0, none⟩ = some (.slice da us.length dc) := (kPs_y hst (e := boxP L0 kb #[.slice da us.length dc, .slice ka vs.length kc] 90) (List.mem_cons_self ..)).1.cell 0
    by_cases hlt : k < us.length
    · obtain ⟨u, hu⟩ : ∃ u, us[k]? = some u := ⟨_, List.getElem?_eq_getElem hlt⟩
      obtain ⟨g, hg, u0, u1, _⟩ := row_three (kPs_row hst) hu
      subst hg
      obtain ⟨D, hD, hDl, hDn, _⟩ := HDU.out u (List.mem_of_getElem? hu)
      have r1 : wr.ownsRow L0 46 7 u.l u.n (flatV D) := by have h9 := (kPs_unit hst hu).1; rw [if_neg (by omega), hD] at h9; exact h9
      have r2 : wr.ownsRow L0 46 7 u.w u.n (flatV D) := by have h9 := kPs_w hst (List.mem_of_getElem? hu); rw [hD] at h9; exact h9
      obtain ⟨la, lc, hla, _⟩ := own_slice r1
      obtain ⟨wa, wc, hwa, _⟩ := own_slice r2
      rw [hla] at r1 u0
      rw [hwa] at r2 u1
      have HYES : Hid (∀ W, W = ({ wr with drawn := wr.drawn + 1 } : World) → Calls Try.prog 47 #[.slice la u.n lc, .slice wa u.n wc] W fun e w' => e = .returned (.bool true) ∧ Below W.heap.size W w') := fun W hW => by
          subst hW
          obtain ⟨_, _, e1, _, _, f1, _⟩ := own_fromV (base := L0) (show World.ownsRow ({ wr with drawn := wr.drawn + 1 } : World) L0 46 7 (.slice la u.n lc) u.n (flatV D) from ownsRow_same r1 (fun _ _ => rfl))
          cases e1
          obtain ⟨_, _, e2, _, _, f2, _⟩ := own_fromV (base := L0) (show World.ownsRow ({ wr with drawn := wr.drawn + 1 } : World) L0 46 7 (.slice wa u.n wc) u.n (flatV D) from ownsRow_same r2 (fun _ _ => rfl))
          cases e2
          exact all_yes la wa u.n lc wc D _ hDl (by unfold maxLen; omega) f1 f2
      have HST : Hid (AS own0 w (kPs L0 46 7 106 mV (.slice (some ⟨g, 0, none⟩) us.length dc) 0 0 us (boxP L0 kb #[.slice (some ⟨g, 0, none⟩) us.length dc, .slice ka vs.length kc] 90 :: kPs L0 44 2 109 mR (.slice ka vs.length kc) 0 0 vs [])) wr) := hst
      clear hst r1 r2 hla hwa hu hD hDl hDn
      go_wp2_with fail
      rename_i K hK
      try rw [show ∀ a : Act, a.put none undef = a from fun _ => rfl]
      refine wp_region_mix (fun wq => wq.cell? ⟨kb, 0, none⟩ = some (.slice (some ⟨g, 0, none⟩) us.length dc) ∧ wq.cell? ⟨g, k * 3, none⟩ = some (.slice la u.n lc) ∧ wq.cell? ⟨g, k * 3 + 1, none⟩ = some (.slice wa u.n wc)) (fun i => i == 18 || i == 99) 99 (by kernel_rfl) rfl (by kernel_rfl) (by kernel_rfl) (by kernel_rfl) ?_
      refine withFrP (N := 333) rfl ?_
      intro f0 F0 hff
      have ee0 : f0 0 = Value.pointer (some ⟨kb, 0, none⟩) := hff 0
      have ee3 : f0 3 = Value.bool true := hff 3
      have ee4 : f0 4 = Value.int .i64 ((k : Nat) : Int) := hff 4
      clear hff
      have HCC : (fun wq => wq.cell? ⟨kb, 0, none⟩ = some (.slice (some ⟨g, 0, none⟩) us.length dc) ∧ wq.cell? ⟨g, k * 3, none⟩ = some (.slice la u.n lc) ∧ wq.cell? ⟨g, k * 3 + 1, none⟩ = some (.slice wa u.n wc)) (({ wr with drawn := wr.drawn + 1 } : World)) := ⟨b0, u0, u1⟩
      refine lyp F0 rfl HCC rfl (by omega) (wanted_none rfl) (v := Value.bool true) (fun wr hwr => by simp only [execOp, (F0.eval 3 (by omega)).trans (show _ = Value.bool true from by simp [upd, ee0, ee3, ee4])]; first | rfl | simp [go_sem]) fun F1 => ?_
      refine lyp F1 rfl HCC rfl (by omega) (wanted_none rfl) (v := Value.bool true) (fun wr hwr => by simp only [execOp, (F1.eval 27 (by omega)).trans (show _ = Value.bool true from by simp [upd, ee0, ee3, ee4])]; first | rfl | simp [go_sem]) fun F2 => ?_
      refine lyp F2 rfl HCC rfl (by omega) (want_yes F2 rfl (e := 28) rfl (by omega) (show _ = Value.bool true from by simp [upd, ee0, ee3, ee4])) (v := Value.pointer (some ⟨kb, 0, none⟩)) (fun wr hwr => by simp only [execOp, (F2.eval 0 (by omega)).trans (show _ = Value.pointer (some ⟨kb, 0, none⟩) from by simp [upd, ee0, ee3, ee4])]; first | rfl | simp [go_sem]) fun F3 => ?_
      refine lyp F3 rfl HCC rfl (by omega) (want_yes F3 rfl (e := 28) rfl (by omega) (show _ = Value.bool true from by simp [upd, ee0, ee3, ee4])) (v := Value.pointer (some ⟨kb, 0, none⟩)) (fun wr hwr => by simp only [execOp, (F3.eval 29 (by omega)).trans (show _ = Value.pointer (some ⟨kb, 0, none⟩) from by simp [upd, ee0, ee3, ee4])]; simp [go_sem]) fun F4 => ?_
      refine lyp F4 rfl HCC rfl (by omega) (want_yes F4 rfl (e := 28) rfl (by omega) (show _ = Value.bool true from by simp [upd, ee0, ee3, ee4])) (v := Value.pointer (some ⟨kb, 0, none⟩)) (fun wr hwr => by simp only [execOp, (F4.eval 30 (by omega)).trans (show _ = Value.pointer (some ⟨kb, 0, none⟩) from by simp [upd, ee0, ee3, ee4])]; simp [go_sem]) fun F5 => ?_
      refine lyp F5 rfl HCC rfl (by omega) (want_yes F5 rfl (e := 28) rfl (by omega) (show _ = Value.bool true from by simp [upd, ee0, ee3, ee4])) (v := Value.slice (some ⟨g, 0, none⟩) us.length dc) (fun wr hwr => by simp only [execOp, (F5.eval 31 (by omega)).trans (show _ = Value.pointer (some ⟨kb, 0, none⟩) from by simp [upd, ee0, ee3, ee4])]; simp [go_sem, hwr.1]) fun F6 => ?_
      refine lyp F6 rfl HCC rfl (by omega) (want_yes F6 rfl (e := 28) rfl (by omega) (show _ = Value.bool true from by simp [upd, ee0, ee3, ee4])) (v := Value.int .i64 ((k : Nat) : Int)) (fun wr hwr => by simp only [execOp, (F6.eval 4 (by omega)).trans (show _ = Value.int .i64 ((k : Nat) : Int) from by simp [upd, ee0, ee3, ee4])]; first | rfl | simp [go_sem]) fun F7 => ?_
      refine lyp F7 rfl HCC rfl (by omega) (want_yes F7 rfl (e := 28) rfl (by omega) (show _ = Value.bool true from by simp [upd, ee0, ee3, ee4])) (v := Value.pointer (some ⟨g, k * 3, none⟩)) (fun wr hwr => by simp only [execOp, (F7.eval 32 (by omega)).trans (show _ = Value.slice (some ⟨g, 0, none⟩) us.length dc from by simp [upd, ee0, ee3, ee4]), (F7.eval 33 (by omega)).trans (show _ = Value.int .i64 ((k : Nat) : Int) from by simp [upd, ee0, ee3, ee4])]; simp only [Sem.run_bind, Sem.run_pure, Result.andThen_ok, idx_run 87 106 3 Try.underlying87 info106s wr g 0 us.length dc k hlt, Nat.zero_add, Nat.mul_one]; try rfl) fun F8 => ?_
      refine lyp F8 rfl HCC rfl (by omega) (want_yes F8 rfl (e := 28) rfl (by omega) (show _ = Value.bool true from by simp [upd, ee0, ee3, ee4])) (v := Value.pointer (some ⟨g, k * 3, none⟩)) (fun wr hwr => by simp only [execOp, (F8.eval 34 (by omega)).trans (show _ = Value.pointer (some ⟨g, k * 3, none⟩) from by simp [upd, ee0, ee3, ee4])]; simp [go_sem]) fun F9 => ?_
      refine lyp F9 rfl HCC rfl (by omega) (want_yes F9 rfl (e := 28) rfl (by omega) (show _ = Value.bool true from by simp [upd, ee0, ee3, ee4])) (v := Value.slice la u.n lc) (fun wr hwr => by simp only [execOp, (F9.eval 35 (by omega)).trans (show _ = Value.pointer (some ⟨g, k * 3, none⟩) from by simp [upd, ee0, ee3, ee4])]; simp [go_sem, hwr.2.1]) fun F10 => ?_
      refine lyp F10 rfl HCC rfl (by omega) (want_yes F10 rfl (e := 28) rfl (by omega) (show _ = Value.bool true from by simp [upd, ee0, ee3, ee4])) (v := Value.pointer (some ⟨kb, 0, none⟩)) (fun wr hwr => by simp only [execOp, (F10.eval 0 (by omega)).trans (show _ = Value.pointer (some ⟨kb, 0, none⟩) from by simp [upd, ee0, ee3, ee4])]; first | rfl | simp [go_sem]) fun F11 => ?_
      refine lyp F11 rfl HCC rfl (by omega) (want_yes F11 rfl (e := 28) rfl (by omega) (show _ = Value.bool true from by simp [upd, ee0, ee3, ee4])) (v := Value.pointer (some ⟨kb, 0, none⟩)) (fun wr hwr => by simp only [execOp, (F11.eval 37 (by omega)).trans (show _ = Value.pointer (some ⟨kb, 0, none⟩) from by simp [upd, ee0, ee3, ee4])]; simp [go_sem]) fun F12 => ?_
      refine lyp F12 rfl HCC rfl (by omega) (want_yes F12 rfl (e := 28) rfl (by omega) (show _ = Value.bool true from by simp [upd, ee0, ee3, ee4])) (v := Value.pointer (some ⟨kb, 0, none⟩)) (fun wr hwr => by simp only [execOp, (F12.eval 38 (by omega)).trans (show _ = Value.pointer (some ⟨kb, 0, none⟩) from by simp [upd, ee0, ee3, ee4])]; simp [go_sem]) fun F13 => ?_
      refine lyp F13 rfl HCC rfl (by omega) (want_yes F13 rfl (e := 28) rfl (by omega) (show _ = Value.bool true from by simp [upd, ee0, ee3, ee4])) (v := Value.slice (some ⟨g, 0, none⟩) us.length dc) (fun wr hwr => by simp only [execOp, (F13.eval 39 (by omega)).trans (show _ = Value.pointer (some ⟨kb, 0, none⟩) from by simp [upd, ee0, ee3, ee4])]; simp [go_sem, hwr.1]) fun F14 => ?_
      refine lyp F14 rfl HCC rfl (by omega) (want_yes F14 rfl (e := 28) rfl (by omega) (show _ = Value.bool true from by simp [upd, ee0, ee3, ee4])) (v := Value.int .i64 ((k : Nat) : Int)) (fun wr hwr => by simp only [execOp, (F14.eval 4 (by omega)).trans (show _ = Value.int .i64 ((k : Nat) : Int) from by simp [upd, ee0, ee3, ee4])]; first | rfl | simp [go_sem]) fun F15 => ?_
      refine lyp F15 rfl HCC rfl (by omega) (want_yes F15 rfl (e := 28) rfl (by omega) (show _ = Value.bool true from by simp [upd, ee0, ee3, ee4])) (v := Value.pointer (some ⟨g, k * 3, none⟩)) (fun wr hwr => by simp only [execOp, (F15.eval 40 (by omega)).trans (show _ = Value.slice (some ⟨g, 0, none⟩) us.length dc from by simp [upd, ee0, ee3, ee4]), (F15.eval 41 (by omega)).trans (show _ = Value.int .i64 ((k : Nat) : Int) from by simp [upd, ee0, ee3, ee4])]; simp only [Sem.run_bind, Sem.run_pure, Result.andThen_ok, idx_run 87 106 3 Try.underlying87 info106s wr g 0 us.length dc k hlt, Nat.zero_add, Nat.mul_one]; try rfl) fun F16 => ?_
      refine lyp F16 rfl HCC rfl (by omega) (want_yes F16 rfl (e := 28) rfl (by omega) (show _ = Value.bool true from by simp [upd, ee0, ee3, ee4])) (v := Value.pointer (some ⟨g, k * 3 + 1, none⟩)) (fun wr hwr => by simp only [execOp, (F16.eval 42 (by omega)).trans (show _ = Value.pointer (some ⟨g, k * 3, none⟩) from by simp [upd, ee0, ee3, ee4])]; simp [go_sem]) fun F17 => ?_
      refine lyp F17 rfl HCC rfl (by omega) (want_yes F17 rfl (e := 28) rfl (by omega) (show _ = Value.bool true from by simp [upd, ee0, ee3, ee4])) (v := Value.slice wa u.n wc) (fun wr hwr => by simp only [execOp, (F17.eval 43 (by omega)).trans (show _ = Value.pointer (some ⟨g, k * 3 + 1, none⟩) from by simp [upd, ee0, ee3, ee4])]; simp [go_sem, hwr.2.2]) fun F18 => ?_
      refine lcp F18 rfl HCC rfl (by omega) (want_yes F18 rfl (e := 28) rfl (by omega) (show _ = Value.bool true from by simp [upd, ee0, ee3, ee4])) (g := 47) (args := #[Value.slice la u.n lc, Value.slice wa u.n wc]) (by simp only [execOp, resolve, invoke, List.map_toArray, List.map_cons, List.map_nil, (F18.eval 36 (by omega)).trans (show _ = Value.slice la u.n lc from by simp [upd, ee0, ee3, ee4]), (F18.eval 44 (by omega)).trans (show _ = Value.slice wa u.n wc from by simp [upd, ee0, ee3, ee4])]; simp [go_sem, Act.eval]) (HYES.out (({ wr with drawn := wr.drawn + 1 } : World)) rfl) ?_
      rintro e9 Y ⟨rfl, hbY⟩
      refine ⟨_, rfl, fun F19 => ?_⟩
      have HC2 : (fun wq => wq.cell? ⟨kb, 0, none⟩ = some (.slice (some ⟨g, 0, none⟩) us.length dc) ∧ wq.cell? ⟨g, k * 3, none⟩ = some (.slice la u.n lc) ∧ wq.cell? ⟨g, k * 3 + 1, none⟩ = some (.slice wa u.n wc)) Y := ⟨cell_below hbY HCC.1, cell_below hbY HCC.2.1, cell_below hbY HCC.2.2⟩
      refine lyp F19 rfl HC2 rfl (by omega) (wanted_none rfl) (v := Value.bool true) (fun wr hwr => by simp only [execOp, (F19.eval 28 (by omega)).trans (show _ = Value.bool true from by simp [upd, ee0, ee3, ee4]), (F19.eval 45 (by omega)).trans (show _ = Value.bool true from by simp [upd, ee0, ee3, ee4])]; simp [go_sem, Act.eval]) fun F20 => ?_
      refine lyp F20 rfl HC2 rfl (by omega) (wanted_none rfl) (v := Value.bool true) (fun wr hwr => by simp only [execOp, (F20.eval 46 (by omega)).trans (show _ = Value.bool true from by simp [upd, ee0, ee3, ee4])]; first | rfl | simp [go_sem]) fun F21 => ?_
      refine ⟨fun _ => HC2, ?_⟩
      refine hK _ _ ?_
      clear F0 F1 F2 F3 F4 F5 F6 F7 F8 F9 F10 F11 F12 F13 F14 F15 F16 F17 F18 F19 F20 F21 ee0 ee3 ee4 HCC HC2
      simp only [Act.put, List.setIfInBounds_toArray, List.set_cons_succ, List.set_cons_zero]
      have HS9 : Hid (AS own0 w (kPs L0 46 7 106 mV (.slice (some ⟨g, 0, none⟩) us.length dc) 0 0 us (boxP L0 kb #[.slice (some ⟨g, 0, none⟩) us.length dc, .slice ka vs.length kc] 90 :: kPs L0 44 2 109 mR (.slice ka vs.length kc) 0 0 vs [])) Y) := HST.out.more ((Below.drew (Below.refl _ _)).trans hbY)
      clear hbY HST b0 u0 u1 HYES
      go_wp2_with fail
      go_roundw
      case rel => exact ⟨k + 1, by omega, rfl, by go_num, HS9.out⟩
      case measure => simp [intOf]; omega
    · have HSN : Hid (AS own0 w (kPs L0 44 2 109 mR (.slice ka vs.length kc) 0 0 vs (boxP L0 kb #[.slice da us.length dc, .slice ka vs.length kc] 90 :: kPs L0 46 7 106 mV (.slice da us.length dc) 0 0 us [])) wr) := hst.perm kPs_swap
      clear hst HST0
      go_wp2_with fail
      go_loopw [3, 5] (fun s3 s wr => ∃ k : Nat, k ≤ vs.length ∧ s3 = .bool true ∧ s = .int .i64 k ∧ AS own0 w (kPs L0 44 2 109 mR (.slice ka vs.length kc) 0 0 vs (boxP L0 kb #[.slice da us.length dc, .slice ka vs.length kc] 90 :: kPs L0 46 7 106 mV (.slice da us.length dc) 0 0 us [])) wr) (fun _ s _ => vs.length - (intOf s).toNat)
      case atStart => exact ⟨0, Nat.zero_le _, rfl, rfl, HSN.out⟩
      case round =>
        obtain ⟨k, hk, rfl, rfl, hst⟩ := hrel
        have b0 : wr.cell? ⟨kb, 1, none⟩ = some (.slice ka vs.length kc) := (kPs_y hst (e := boxP L0 kb #[.slice da us.length dc, .slice ka vs.length kc] 90) (List.mem_cons_self ..)).1.cell 1
        by_cases hlt : k < vs.length
        · obtain ⟨u, hu⟩ : ∃ u, vs[k]? = some u := ⟨_, List.getElem?_eq_getElem hlt⟩
          obtain ⟨g, hg, u0, u1, _⟩ := row_three (kPs_row hst) hu
          subst hg
          obtain ⟨D, hD, hDl, hDn, _⟩ := HKU.out u (List.mem_of_getElem? hu)
          have r1 : wr.ownsRow L0 44 2 u.l u.n (flatR D) := by have h9 := (kPs_unit hst hu).1; rw [if_neg (by omega), hD] at h9; exact h9
          have r2 : wr.ownsRow L0 44 2 u.w u.n (flatR D) := by have h9 := kPs_w hst (List.mem_of_getElem? hu); rw [hD] at h9; exact h9
          obtain ⟨la, lc, hla, _⟩ := own_slice r1
          obtain ⟨wa, wc, hwa, _⟩ := own_slice r2
          rw [hla] at r1 u0
          rw [hwa] at r2 u1
          have HYES : Hid (∀ W, W = ({ wr with drawn := wr.drawn + 1 } : World) → Calls Try.prog 48 #[.slice la u.n lc, .slice wa u.n wc] W fun e w' => e = .returned (.bool true) ∧ Below W.heap.size W w') := fun W hW => by
              subst hW
              exact rights_yes la wa u.n lc wc L0 L0 D _ hDl (by omega) (ownsRow_same r1 (fun _ _ => rfl)) (ownsRow_same r2 (fun _ _ => rfl))
          have HST : Hid (AS own0 w (kPs L0 44 2 109 mR (.slice (some ⟨g, 0, none⟩) vs.length kc) 0 0 vs (boxP L0 kb #[.slice da us.length dc, .slice (some ⟨g, 0, none⟩) vs.length kc] 90 :: kPs L0 46 7 106 mV (.slice da us.length dc) 0 0 us [])) wr) := hst
          clear hst r1 r2 hla hwa hu hD hDl hDn
          go_wp2_with fail
          rename_i K hK
          try rw [show ∀ a : Act, a.put none undef = a from fun _ => rfl]
          refine wp_region_mix (fun wq => wq.cell? ⟨kb, 1, none⟩ = some (.slice (some ⟨g, 0, none⟩) vs.length kc) ∧ wq.cell? ⟨g, k * 3, none⟩ = some (.slice la u.n lc) ∧ wq.cell? ⟨g, k * 3 + 1, none⟩ = some (.slice wa u.n wc)) (fun i => i == 18 || i == 99) 99 (by kernel_rfl) rfl (by kernel_rfl) (by kernel_rfl) (by kernel_rfl) ?_
          refine withFrP (N := 333) rfl ?_
          intro f0 F0 hff
          have ee0 : f0 0 = Value.pointer (some ⟨kb, 0, none⟩) := hff 0
          have ee3 : f0 3 = Value.bool true := hff 3
          have ee5 : f0 5 = Value.int .i64 ((k : Nat) : Int) := hff 5
          clear hff
          have HCC : (fun wq => wq.cell? ⟨kb, 1, none⟩ = some (.slice (some ⟨g, 0, none⟩) vs.length kc) ∧ wq.cell? ⟨g, k * 3, none⟩ = some (.slice la u.n lc) ∧ wq.cell? ⟨g, k * 3 + 1, none⟩ = some (.slice wa u.n wc)) (({ wr with drawn := wr.drawn + 1 } : World)) := ⟨b0, u0, u1⟩
          refine lyp F0 rfl HCC rfl (by omega) (wanted_none rfl) (v := Value.bool true) (fun wr hwr => by simp only [execOp, (F0.eval 3 (by omega)).trans (show _ = Value.bool true from by simp [upd, ee0, ee3, ee5])]; first | rfl | simp [go_sem]) fun F1 => ?_
          refine lyp F1 rfl HCC rfl (by omega) (wanted_none rfl) (v := Value.bool true) (fun wr hwr => by simp only [execOp, (F1.eval 56 (by omega)).trans (show _ = Value.bool true from by simp [upd, ee0, ee3, ee5])]; first | rfl | simp [go_sem]) fun F2 => ?_
          refine lyp F2 rfl HCC rfl (by omega) (want_yes F2 rfl (e := 57) rfl (by omega) (show _ = Value.bool true from by simp [upd, ee0, ee3, ee5])) (v := Value.pointer (some ⟨kb, 0, none⟩)) (fun wr hwr => by simp only [execOp, (F2.eval 0 (by omega)).trans (show _ = Value.pointer (some ⟨kb, 0, none⟩) from by simp [upd, ee0, ee3, ee5])]; first | rfl | simp [go_sem]) fun F3 => ?_
          refine lyp F3 rfl HCC rfl (by omega) (want_yes F3 rfl (e := 57) rfl (by omega) (show _ = Value.bool true from by simp [upd, ee0, ee3, ee5])) (v := Value.pointer (some ⟨kb, 0, none⟩)) (fun wr hwr => by simp only [execOp, (F3.eval 58 (by omega)).trans (show _ = Value.pointer (some ⟨kb, 0, none⟩) from by simp [upd, ee0, ee3, ee5])]; simp [go_sem]) fun F4 => ?_
          refine lyp F4 rfl HCC rfl (by omega) (want_yes F4 rfl (e := 57) rfl (by omega) (show _ = Value.bool true from by simp [upd, ee0, ee3, ee5])) (v := Value.pointer (some ⟨kb, 1, none⟩)) (fun wr hwr => by simp only [execOp, (F4.eval 59 (by omega)).trans (show _ = Value.pointer (some ⟨kb, 0, none⟩) from by simp [upd, ee0, ee3, ee5])]; simp [go_sem]) fun F5 => ?_
          refine lyp F5 rfl HCC rfl (by omega) (want_yes F5 rfl (e := 57) rfl (by omega) (show _ = Value.bool true from by simp [upd, ee0, ee3, ee5])) (v := Value.slice (some ⟨g, 0, none⟩) vs.length kc) (fun wr hwr => by simp only [execOp, (F5.eval 60 (by omega)).trans (show _ = Value.pointer (some ⟨kb, 1, none⟩) from by simp [upd, ee0, ee3, ee5])]; simp [go_sem, hwr.1]) fun F6 => ?_
          refine lyp F6 rfl HCC rfl (by omega) (want_yes F6 rfl (e := 57) rfl (by omega) (show _ = Value.bool true from by simp [upd, ee0, ee3, ee5])) (v := Value.int .i64 ((k : Nat) : Int)) (fun wr hwr => by simp only [execOp, (F6.eval 5 (by omega)).trans (show _ = Value.int .i64 ((k : Nat) : Int) from by simp [upd, ee0, ee3, ee5])]; first | rfl | simp [go_sem]) fun F7 => ?_
          refine lyp F7 rfl HCC rfl (by omega) (want_yes F7 rfl (e := 57) rfl (by omega) (show _ = Value.bool true from by simp [upd, ee0, ee3, ee5])) (v := Value.pointer (some ⟨g, k * 3, none⟩)) (fun wr hwr => by simp only [execOp, (F7.eval 61 (by omega)).trans (show _ = Value.slice (some ⟨g, 0, none⟩) vs.length kc from by simp [upd, ee0, ee3, ee5]), (F7.eval 62 (by omega)).trans (show _ = Value.int .i64 ((k : Nat) : Int) from by simp [upd, ee0, ee3, ee5])]; simp only [Sem.run_bind, Sem.run_pure, Result.andThen_ok, idx_run 88 109 3 Try.underlying88 info109s wr g 0 vs.length kc k hlt, Nat.zero_add, Nat.mul_one]; try rfl) fun F8 => ?_
          refine lyp F8 rfl HCC rfl (by omega) (want_yes F8 rfl (e := 57) rfl (by omega) (show _ = Value.bool true from by simp [upd, ee0, ee3, ee5])) (v := Value.pointer (some ⟨g, k * 3, none⟩)) (fun wr hwr => by simp only [execOp, (F8.eval 63 (by omega)).trans (show _ = Value.pointer (some ⟨g, k * 3, none⟩) from by simp [upd, ee0, ee3, ee5])]; simp [go_sem]) fun F9 => ?_
          refine lyp F9 rfl HCC rfl (by omega) (want_yes F9 rfl (e := 57) rfl (by omega) (show _ = Value.bool true from by simp [upd, ee0, ee3, ee5])) (v := Value.slice la u.n lc) (fun wr hwr => by simp only [execOp, (F9.eval 64 (by omega)).trans (show _ = Value.pointer (some ⟨g, k * 3, none⟩) from by simp [upd, ee0, ee3, ee5])]; simp [go_sem, hwr.2.1]) fun F10 => ?_
          refine lyp F10 rfl HCC rfl (by omega) (want_yes F10 rfl (e := 57) rfl (by omega) (show _ = Value.bool true from by simp [upd, ee0, ee3, ee5])) (v := Value.pointer (some ⟨kb, 0, none⟩)) (fun wr hwr => by simp only [execOp, (F10.eval 0 (by omega)).trans (show _ = Value.pointer (some ⟨kb, 0, none⟩) from by simp [upd, ee0, ee3, ee5])]; first | rfl | simp [go_sem]) fun F11 => ?_
          refine lyp F11 rfl HCC rfl (by omega) (want_yes F11 rfl (e := 57) rfl (by omega) (show _ = Value.bool true from by simp [upd, ee0, ee3, ee5])) (v := Value.pointer (some ⟨kb, 0, none⟩)) (fun wr hwr => by simp only [execOp, (F11.eval 66 (by omega)).trans (show _ = Value.pointer (some ⟨kb, 0, none⟩) from by simp [upd, ee0, ee3, ee5])]; simp [go_sem]) fun F12 => ?_
          refine lyp F12 rfl HCC rfl (by omega) (want_yes F12 rfl (e := 57) rfl (by omega) (show _ = Value.bool true from by simp [upd, ee0, ee3, ee5])) (v := Value.pointer (some ⟨kb, 1, none⟩)) (fun wr hwr => by simp only [execOp, (F12.eval 67 (by omega)).trans (show _ = Value.pointer (some ⟨kb, 0, none⟩) from by simp [upd, ee0, ee3, ee5])]; simp [go_sem]) fun F13 => ?_
          refine lyp F13 rfl HCC rfl (by omega) (want_yes F13 rfl (e := 57) rfl (by omega) (show _ = Value.bool true from by simp [upd, ee0, ee3, ee5])) (v := Value.slice (some ⟨g, 0, none⟩) vs.length kc) (fun wr hwr => by simp only [execOp, (F13.eval 68 (by omega)).trans (show _ = Value.pointer (some ⟨kb, 1, none⟩) from by simp [upd, ee0, ee3, ee5])]; simp [go_sem, hwr.1]) fun F14 => ?_
          refine lyp F14 rfl HCC rfl (by omega) (want_yes F14 rfl (e := 57) rfl (by omega) (show _ = Value.bool true from by simp [upd, ee0, ee3, ee5])) (v := Value.int .i64 ((k : Nat) : Int)) (fun wr hwr => by simp only [execOp, (F14.eval 5 (by omega)).trans (show _ = Value.int .i64 ((k : Nat) : Int) from by simp [upd, ee0, ee3, ee5])]; first | rfl | simp [go_sem]) fun F15 => ?_
          refine lyp F15 rfl HCC rfl (by omega) (want_yes F15 rfl (e := 57) rfl (by omega) (show _ = Value.bool true from by simp [upd, ee0, ee3, ee5])) (v := Value.pointer (some ⟨g, k * 3, none⟩)) (fun wr hwr => by simp only [execOp, (F15.eval 69 (by omega)).trans (show _ = Value.slice (some ⟨g, 0, none⟩) vs.length kc from by simp [upd, ee0, ee3, ee5]), (F15.eval 70 (by omega)).trans (show _ = Value.int .i64 ((k : Nat) : Int) from by simp [upd, ee0, ee3, ee5])]; simp only [Sem.run_bind, Sem.run_pure, Result.andThen_ok, idx_run 88 109 3 Try.underlying88 info109s wr g 0 vs.length kc k hlt, Nat.zero_add, Nat.mul_one]; try rfl) fun F16 => ?_
          refine lyp F16 rfl HCC rfl (by omega) (want_yes F16 rfl (e := 57) rfl (by omega) (show _ = Value.bool true from by simp [upd, ee0, ee3, ee5])) (v := Value.pointer (some ⟨g, k * 3 + 1, none⟩)) (fun wr hwr => by simp only [execOp, (F16.eval 71 (by omega)).trans (show _ = Value.pointer (some ⟨g, k * 3, none⟩) from by simp [upd, ee0, ee3, ee5])]; simp [go_sem]) fun F17 => ?_
          refine lyp F17 rfl HCC rfl (by omega) (want_yes F17 rfl (e := 57) rfl (by omega) (show _ = Value.bool true from by simp [upd, ee0, ee3, ee5])) (v := Value.slice wa u.n wc) (fun wr hwr => by simp only [execOp, (F17.eval 72 (by omega)).trans (show _ = Value.pointer (some ⟨g, k * 3 + 1, none⟩) from by simp [upd, ee0, ee3, ee5])]; simp [go_sem, hwr.2.2]) fun F18 => ?_
          refine lcp F18 rfl HCC rfl (by omega) (want_yes F18 rfl (e := 57) rfl (by omega) (show _ = Value.bool true from by simp [upd, ee0, ee3, ee5])) (g := 48) (args := #[Value.slice la u.n lc, Value.slice wa u.n wc]) (by simp only [execOp, resolve, invoke, List.map_toArray, List.map_cons, List.map_nil, (F18.eval 65 (by omega)).trans (show _ = Value.slice la u.n lc from by simp [upd, ee0, ee3, ee5]), (F18.eval 73 (by omega)).trans (show _ = Value.slice wa u.n wc from by simp [upd, ee0, ee3, ee5])]; simp [go_sem, Act.eval]) (HYES.out (({ wr with drawn := wr.drawn + 1 } : World)) rfl) ?_
          rintro e9 Y ⟨rfl, hbY⟩
          refine ⟨_, rfl, fun F19 => ?_⟩
          have HC2 : (fun wq => wq.cell? ⟨kb, 1, none⟩ = some (.slice (some ⟨g, 0, none⟩) vs.length kc) ∧ wq.cell? ⟨g, k * 3, none⟩ = some (.slice la u.n lc) ∧ wq.cell? ⟨g, k * 3 + 1, none⟩ = some (.slice wa u.n wc)) Y := ⟨cell_below hbY HCC.1, cell_below hbY HCC.2.1, cell_below hbY HCC.2.2⟩
          refine lyp F19 rfl HC2 rfl (by omega) (wanted_none rfl) (v := Value.bool true) (fun wr hwr => by simp only [execOp, (F19.eval 57 (by omega)).trans (show _ = Value.bool true from by simp [upd, ee0, ee3, ee5]), (F19.eval 74 (by omega)).trans (show _ = Value.bool true from by simp [upd, ee0, ee3, ee5])]; simp [go_sem, Act.eval]) fun F20 => ?_
          refine lyp F20 rfl HC2 rfl (by omega) (wanted_none rfl) (v := Value.bool true) (fun wr hwr => by simp only [execOp, (F20.eval 75 (by omega)).trans (show _ = Value.bool true from by simp [upd, ee0, ee3, ee5])]; first | rfl | simp [go_sem]) fun F21 => ?_
          refine ⟨fun _ => HC2, ?_⟩
          refine hK _ _ ?_
          clear F0 F1 F2 F3 F4 F5 F6 F7 F8 F9 F10 F11 F12 F13 F14 F15 F16 F17 F18 F19 F20 F21 ee0 ee3 ee5 HCC HC2
          simp only [Act.put, List.setIfInBounds_toArray, List.set_cons_succ, List.set_cons_zero]
          have HS9 : Hid (AS own0 w (kPs L0 44 2 109 mR (.slice (some ⟨g, 0, none⟩) vs.length kc) 0 0 vs (boxP L0 kb #[.slice da us.length dc, .slice (some ⟨g, 0, none⟩) vs.length kc] 90 :: kPs L0 46 7 106 mV (.slice da us.length dc) 0 0 us [])) Y) := HST.out.more ((Below.drew (Below.refl _ _)).trans hbY)
          clear hbY HST b0 u0 u1 HYES
          go_wp2_with fail
          go_roundw
          case rel => exact ⟨k + 1, by omega, rfl, by go_num, HS9.out⟩
          case measure => simp [intOf]; omega
        · obtain rfl : k = vs.length := by omega
          have HSN3 : Hid (AS own0 w (kPs L0 46 7 106 mV (.slice da us.length dc) 0 0 us (boxP L0 kb #[.slice da us.length dc, .slice ka vs.length kc] 90 :: kPs L0 44 2 109 mR (.slice ka vs.length kc) 0 0 vs [])) wr) := hst.perm kPs_swap
          clear hst HSN
          go_wp2_with fail
          go_loopw [6, 7] (fun s t wr => ∃ (k : Nat) (x : Value), x = t ∧ k ≤ us.length ∧ s = .int .i64 k ∧ AS own0 w (kPs L0 46 7 106 mV (.slice da us.length dc) k 0 us (boxP L0 kb #[.slice da us.length dc, .slice ka vs.length kc] 90 :: kPs L0 44 2 109 mR (.slice ka vs.length kc) 0 0 vs [])) wr) (fun s _ _ => us.length - (intOf s).toNat)
          case atStart => exact ⟨0, _, rfl, Nat.zero_le _, rfl, HSN3.out⟩
          case round =>
            obtain ⟨k, x, rfl, hk, rfl, hst⟩ := hrel
            have b0 : wr.cell? ⟨kb, 0, none⟩ = some (.slice da us.length dc) := (kPs_y hst (e := boxP L0 kb #[.slice da us.length dc, .slice ka vs.length kc] 90) (List.mem_cons_self ..)).1.cell 0
            by_cases hlt : k < us.length
            · obtain ⟨u, hu⟩ : ∃ u, us[k]? = some u := ⟨_, List.getElem?_eq_getElem hlt⟩
              obtain ⟨g, hg, u0, _, _⟩ := row_three (kPs_row hst) hu
              subst hg
              obtain ⟨D, hD, hDl, hDn, hmo⟩ := HDU.out u (List.mem_of_getElem? hu)
              have hin0 : AS own0 w (uPt L0 46 7 mV k 0 k u :: kRest L0 46 7 106 mV (.slice (some ⟨g, 0, none⟩) us.length dc) k 0 k us (boxP L0 kb #[.slice (some ⟨g, 0, none⟩) us.length dc, .slice ka vs.length kc] 90 :: kPs L0 44 2 109 mR (.slice ka vs.length kc) 0 0 vs [])) wr := hst.perm (kPs_focus hu)
              obtain ⟨la, lc, hla, _⟩ := own_slice hin0.head.1
              have HEQ : Hid (uPt L0 46 7 mV (k + 1) 0 k u = unitP L0 46 7 (.slice la u.n lc) u.n (flatV (vmk (-1000 - (k : Int)) u.n ++ D.drop u.n)) (.slice none 0 0) 0 []) := by
                show uPt L0 46 7 mV (k + 1) 0 k u = _
                unfold uPt
                rw [if_pos (Nat.lt_succ_self k), if_neg (Nat.not_lt_zero k), if_neg (Nat.not_lt_zero k), hla, hmo, List.drop_of_length_le (by omega), List.append_nil]
                rfl
              have HIN0 : Hid (AS own0 w (unitP L0 46 7 (.slice la u.n lc) u.n (flatV (vmk (-1000 - (k : Int)) 0 ++ D.drop 0)) (.slice none 0 0) 0 [] :: kRest L0 46 7 106 mV (.slice (some ⟨g, 0, none⟩) us.length dc) k 0 k us (boxP L0 kb #[.slice (some ⟨g, 0, none⟩) us.length dc, .slice ka vs.length kc] 90 :: kPs L0 44 2 109 mR (.slice ka vs.length kc) 0 0 vs [])) wr) := by
                show AS own0 w _ wr
                unfold uPt at hin0
                rw [if_neg (Nat.lt_irrefl k), if_neg (Nat.not_lt_zero k), if_neg (Nat.not_lt_zero k), hla, hmo, hD] at hin0
                exact hin0
              have HDL : Hid (D.length = u.n) := hDl
              have HU : Hid (us[k]? = some u) := hu
              have HLA : Hid (u.l = .slice la u.n lc) := hla
              rw [hla] at u0
              clear hst hin0 hD hDl hmo hu hla
              go_wp2_with fail
              go_loopw [7] (fun t wr => ∃ q : Nat, q ≤ u.n ∧ t = .int .i64 q ∧ AS own0 w (unitP L0 46 7 (.slice la u.n lc) u.n (flatV (vmk (-1000 - (k : Int)) q ++ D.drop q)) (.slice none 0 0) 0 [] :: kRest L0 46 7 106 mV (.slice (some ⟨g, 0, none⟩) us.length dc) k 0 k us (boxP L0 kb #[.slice (some ⟨g, 0, none⟩) us.length dc, .slice ka vs.length kc] 90 :: kPs L0 44 2 109 mR (.slice ka vs.length kc) 0 0 vs [])) wr) (fun t _ => u.n - (intOf t).toNat)
              case atStart => exact ⟨0, Nat.zero_le _, rfl, HIN0.out⟩
              clear b0 u0 HIN0
              case round =>
                obtain ⟨q, hq, rfl, hin⟩ := hrel
                have b0 : wr.cell? ⟨kb, 0, none⟩ = some (.slice (some ⟨g, 0, none⟩) us.length dc) := (kR_y hin (e' := boxP L0 kb #[.slice (some ⟨g, 0, none⟩) us.length dc, .slice ka vs.length kc] 90) (List.mem_cons_self ..)).1.cell 0
                have u0 : wr.cell? ⟨g, k * 3, none⟩ = some (.slice la u.n lc) := by
                  obtain ⟨g9, hg9, h9, _, _⟩ := row_three (kR_row hin) HU.out
                  cases hg9
                  rw [HLA.out] at h9
                  exact h9
                by_cases hql : q < u.n
                · obtain ⟨lg, hlg⟩ : ∃ lg, la = some ⟨lg, 0, none⟩ := by
                    obtain ⟨_, _, e, _, _, h⟩ := own_read hin.head.1
                    cases e
                    obtain ⟨g9, e, _⟩ := h (by omega)
                    exact ⟨g9, e⟩
                  subst hlg
                  obtain ⟨hcell, hfz, hs6⟩ := unit_markV hin HDL.out hql
                  obtain ⟨v0, c0⟩ := hcell 0 (by decide)
                  rw [Nat.add_zero] at c0
                  obtain ⟨v1, c1⟩ := hcell 1 (by decide)
                  obtain ⟨v2, c2⟩ := hcell 2 (by decide)
                  obtain ⟨v3, c3⟩ := hcell 3 (by decide)
                  obtain ⟨v4, c4⟩ := hcell 4 (by decide)
                  obtain ⟨v5, c5⟩ := hcell 5 (by decide)
                  obtain ⟨v6, c6⟩ := hcell 6 (by decide)
                  have f0 := hfz (q * 7)
                  have f1 := hfz (q * 7 + 1)
                  have f2 := hfz (q * 7 + 2)
                  have f3 := hfz (q * 7 + 3)
                  have f4 := hfz (q * 7 + 4)
                  have f5 := hfz (q * 7 + 5)
                  have f6 := hfz (q * 7 + 6)
                  have HS6 : Hid (AS own0 w (unitP L0 46 7 (.slice (some ⟨lg, 0, none⟩) u.n lc) u.n (flatV (vmk (-1000 - (k : Int)) (q + 1) ++ D.drop (q + 1))) (.slice none 0 0) 0 [] :: kRest L0 46 7 106 mV (.slice (some ⟨g, 0, none⟩) us.length dc) k 0 k us (boxP L0 kb #[.slice (some ⟨g, 0, none⟩) us.length dc, .slice ka vs.length kc] 90 :: kPs L0 44 2 109 mR (.slice ka vs.length kc) 0 0 vs [])) _) := hs6
                  have hw : IntKind.i64.wrap (-1000 - (k : Int)) = (-1000 - (k : Int)) := by rw [IntKind.wrap_i64]; omega
                  clear hcell hfz hs6 hin
                  go_wp2_with fail
                  go_roundw
                  case rel => exact ⟨q + 1, by omega, by go_num, HS6.out⟩
                  case measure => simp [intOf]; omega
                · obtain rfl : q = u.n := by omega
                  have HS7 : Hid (AS own0 w (kPs L0 46 7 106 mV (.slice (some ⟨g, 0, none⟩) us.length dc) (k + 1) 0 us (boxP L0 kb #[.slice (some ⟨g, 0, none⟩) us.length dc, .slice ka vs.length kc] 90 :: kPs L0 44 2 109 mR (.slice ka vs.length kc) 0 0 vs [])) wr) := by
                    show AS own0 w _ wr
                    rw [← HEQ.out, kRest_mark hk] at hin
                    exact hin.perm (kPs_focus HU.out).symm
                  clear hin
                  go_wp2_with fail
                  go_roundw
                  case rel => exact ⟨k + 1, _, rfl, by omega, by go_num, HS7.out⟩
                  case measure => simp [intOf]; omega
            · obtain rfl : k = us.length := by omega
              have HSN5 : Hid (AS own0 w (kPs L0 44 2 109 mR (.slice ka vs.length kc) 0 0 vs (boxP L0 kb #[.slice da us.length dc, .slice ka vs.length kc] 90 :: kPs L0 46 7 106 mV (.slice da us.length dc) us.length 0 us [])) wr) := hst.perm kPs_swap
              clear hst HSN3
              go_wp2_with fail
              go_loopw [8, 9] (fun s t wr => ∃ (k : Nat) (x : Value), x = t ∧ k ≤ vs.length ∧ s = .int .i64 k ∧ AS own0 w (kPs L0 44 2 109 mR (.slice ka vs.length kc) k 0 vs (boxP L0 kb #[.slice da us.length dc, .slice ka vs.length kc] 90 :: kPs L0 46 7 106 mV (.slice da us.length dc) us.length 0 us [])) wr) (fun s _ _ => vs.length - (intOf s).toNat)
              case atStart => exact ⟨0, _, rfl, Nat.zero_le _, rfl, HSN5.out⟩
              case round =>
                obtain ⟨k, x, rfl, hk, rfl, hst⟩ := hrel
                have b0 : wr.cell? ⟨kb, 1, none⟩ = some (.slice ka vs.length kc) := (kPs_y hst (e := boxP L0 kb #[.slice da us.length dc, .slice ka vs.length kc] 90) (List.mem_cons_self ..)).1.cell 1
                by_cases hlt : k < vs.length
                · obtain ⟨u, hu⟩ : ∃ u, vs[k]? = some u := ⟨_, List.getElem?_eq_getElem hlt⟩
                  obtain ⟨g, hg, u0, _, _⟩ := row_three (kPs_row hst) hu
                  subst hg
                  obtain ⟨D, hD, hDl, hDn, hmo⟩ := HKU.out u (List.mem_of_getElem? hu)
                  have hin0 : AS own0 w (uPt L0 44 2 mR k 0 k u :: kRest L0 44 2 109 mR (.slice (some ⟨g, 0, none⟩) vs.length kc) k 0 k vs (boxP L0 kb #[.slice da us.length dc, .slice (some ⟨g, 0, none⟩) vs.length kc] 90 :: kPs L0 46 7 106 mV (.slice da us.length dc) us.length 0 us [])) wr := hst.perm (kPs_focus hu)
                  obtain ⟨la, lc, hla, _⟩ := own_slice hin0.head.1
                  have HEQ : Hid (uPt L0 44 2 mR (k + 1) 0 k u = unitP L0 44 2 (.slice la u.n lc) u.n (flatR (rmk (-1000 - (k : Int)) u.n ++ D.drop u.n)) (.slice none 0 0) 0 []) := by
                    show uPt L0 44 2 mR (k + 1) 0 k u = _
                    unfold uPt
                    rw [if_pos (Nat.lt_succ_self k), if_neg (Nat.not_lt_zero k), if_neg (Nat.not_lt_zero k), hla, hmo, List.drop_of_length_le (by omega), List.append_nil]
                    rfl
                  have HIN0 : Hid (AS own0 w (unitP L0 44 2 (.slice la u.n lc) u.n (flatR (rmk (-1000 - (k : Int)) 0 ++ D.drop 0)) (.slice none 0 0) 0 [] :: kRest L0 44 2 109 mR (.slice (some ⟨g, 0, none⟩) vs.length kc) k 0 k vs (boxP L0 kb #[.slice da us.length dc, .slice (some ⟨g, 0, none⟩) vs.length kc] 90 :: kPs L0 46 7 106 mV (.slice da us.length dc) us.length 0 us [])) wr) := by
                    show AS own0 w _ wr
                    unfold uPt at hin0
                    rw [if_neg (Nat.lt_irrefl k), if_neg (Nat.not_lt_zero k), if_neg (Nat.not_lt_zero k), hla, hmo, hD] at hin0
                    exact hin0
                  have HDL : Hid (D.length = u.n) := hDl
                  have HU : Hid (vs[k]? = some u) := hu
                  have HLA : Hid (u.l = .slice la u.n lc) := hla
                  rw [hla] at u0
                  clear hst hin0 hD hDl hmo hu hla
                  go_wp2_with fail
                  go_loopw [9] (fun t wr => ∃ q : Nat, q ≤ u.n ∧ t = .int .i64 q ∧ AS own0 w (unitP L0 44 2 (.slice la u.n lc) u.n (flatR (rmk (-1000 - (k : Int)) q ++ D.drop q)) (.slice none 0 0) 0 [] :: kRest L0 44 2 109 mR (.slice (some ⟨g, 0, none⟩) vs.length kc) k 0 k vs (boxP L0 kb #[.slice da us.length dc, .slice (some ⟨g, 0, none⟩) vs.length kc] 90 :: kPs L0 46 7 106 mV (.slice da us.length dc) us.length 0 us [])) wr) (fun t _ => u.n - (intOf t).toNat)
                  case atStart => exact ⟨0, Nat.zero_le _, rfl, HIN0.out⟩
                  clear b0 u0 HIN0
                  case round =>
                    obtain ⟨q, hq, rfl, hin⟩ := hrel
                    have b0 : wr.cell? ⟨kb, 1, none⟩ = some (.slice (some ⟨g, 0, none⟩) vs.length kc) := (kR_y hin (e' := boxP L0 kb #[.slice da us.length dc, .slice (some ⟨g, 0, none⟩) vs.length kc] 90) (List.mem_cons_self ..)).1.cell 1
                    have u0 : wr.cell? ⟨g, k * 3, none⟩ = some (.slice la u.n lc) := by
                      obtain ⟨g9, hg9, h9, _, _⟩ := row_three (kR_row hin) HU.out
                      cases hg9
                      rw [HLA.out] at h9
                      exact h9
                    by_cases hql : q < u.n
                    · obtain ⟨lg, hlg⟩ : ∃ lg, la = some ⟨lg, 0, none⟩ := by
                        obtain ⟨_, _, e, _, _, h⟩ := own_read hin.head.1
                        cases e
                        obtain ⟨g9, e, _⟩ := h (by omega)
                        exact ⟨g9, e⟩
                      subst hlg
                      obtain ⟨hcell, hfz, hs6⟩ := unit_markR hin HDL.out hql
                      obtain ⟨v0, c0⟩ := hcell 0 (by decide)
                      rw [Nat.add_zero] at c0
                      obtain ⟨v1, c1⟩ := hcell 1 (by decide)
                      have f0 := hfz (q * 2)
                      have f1 := hfz (q * 2 + 1)
                      have HS6 : Hid (AS own0 w (unitP L0 44 2 (.slice (some ⟨lg, 0, none⟩) u.n lc) u.n (flatR (rmk (-1000 - (k : Int)) (q + 1) ++ D.drop (q + 1))) (.slice none 0 0) 0 [] :: kRest L0 44 2 109 mR (.slice (some ⟨g, 0, none⟩) vs.length kc) k 0 k vs (boxP L0 kb #[.slice da us.length dc, .slice (some ⟨g, 0, none⟩) vs.length kc] 90 :: kPs L0 46 7 106 mV (.slice da us.length dc) us.length 0 us [])) _) := hs6
                      have hw : IntKind.i64.wrap (-1000 - (k : Int)) = (-1000 - (k : Int)) := by rw [IntKind.wrap_i64]; omega
                      clear hcell hfz hs6 hin
                      go_wp2_with fail
                      go_roundw
                      case rel => exact ⟨q + 1, by omega, by go_num, HS6.out⟩
                      case measure => simp [intOf]; omega
                    · obtain rfl : q = u.n := by omega
                      have HS7 : Hid (AS own0 w (kPs L0 44 2 109 mR (.slice (some ⟨g, 0, none⟩) vs.length kc) (k + 1) 0 vs (boxP L0 kb #[.slice da us.length dc, .slice (some ⟨g, 0, none⟩) vs.length kc] 90 :: kPs L0 46 7 106 mV (.slice da us.length dc) us.length 0 us [])) wr) := by
                        show AS own0 w _ wr
                        rw [← HEQ.out, kRest_mark hk] at hin
                        exact hin.perm (kPs_focus HU.out).symm
                      clear hin
                      go_wp2_with fail
                      go_roundw
                      case rel => exact ⟨k + 1, _, rfl, by omega, by go_num, HS7.out⟩
                      case measure => simp [intOf]; omega
                · obtain rfl : k = vs.length := by omega
                  have HSN7 : Hid (AS own0 w (kPs L0 46 7 106 mV (.slice da us.length dc) us.length 0 us (boxP L0 kb #[.slice da us.length dc, .slice ka vs.length kc] 90 :: kPs L0 44 2 109 mR (.slice ka vs.length kc) vs.length 0 vs [])) wr) := hst.perm kPs_swap
                  clear hst HSN5
                  go_wp2_with fail
                  go_loopw [10, 11, 12] (fun s tx t wr => ∃ (k : Nat) (x y : Value) (uD : List UU), x = tx ∧ y = t ∧ k ≤ us.length ∧ s = .int .i64 k ∧ uD.length = us.length ∧ (∀ u ∈ uD, u.n ≤ 40000) ∧ AS own0 w (kPs L0 46 7 106 mV (.slice da us.length dc) us.length k uD (boxP L0 kb #[.slice da us.length dc, .slice ka vs.length kc] 90 :: kPs L0 44 2 109 mR (.slice ka vs.length kc) vs.length 0 vs [])) wr) (fun s _ _ _ => us.length - (intOf s).toNat)
                  case atStart => exact ⟨0, _, _, us, rfl, rfl, Nat.zero_le _, rfl, rfl, fun u hu => (HDU.out u hu).elim fun D h => h.2.2.1, HSN7.out⟩
                  case round =>
                    obtain ⟨k, x, y, uD, rfl, rfl, hk, rfl, hl', hb', hst⟩ := hrel
                    have b0 : wr.cell? ⟨kb, 0, none⟩ = some (.slice da us.length dc) := (kPs_y hst (e := boxP L0 kb #[.slice da us.length dc, .slice ka vs.length kc] 90) (List.mem_cons_self ..)).1.cell 0
                    by_cases hlt : k < us.length
                    · obtain ⟨u, hu⟩ : ∃ u, uD[k]? = some u := ⟨_, List.getElem?_eq_getElem (by omega)⟩
                      have hun := hb' u (List.mem_of_getElem? hu)
                      have hr0 := kPs_row2 hst hl'
                      obtain ⟨g, hg, u0, u1, u2⟩ := row_three hr0 hu
                      subst hg
                      have fz := World.ownsRow.frozenAt hr0 (k * 3 + 2)
                      obtain ⟨la, lc, hla, _⟩ := own_slice (kPs_unit hst hu).1
                      obtain ⟨wa, wc, hwa, _⟩ := own_slice (kPs_w hst (List.mem_of_getElem? hu))
                      obtain ⟨Z9, hZ9⟩ : ∃ Z9, Z9 = wr.setCell ⟨g, k * 3 + 2, none⟩ u.l := ⟨_, rfl⟩
                      have hs1 := grow_start hst hl' hu hlt
                      rw [← hZ9] at hs1
                      have HS1 : Hid (AS own0 w (unitP L0 46 7 u.l u.n (mV (-1000 - (k : Int)) u.n) u.l (u.n) (mV (-1000 - (k : Int)) (u.n)) :: kRest L0 46 7 106 mV (.slice (some ⟨g, 0, none⟩) us.length dc) us.length k k (uD.set k { u with mo := u.l }) (boxP L0 kb #[.slice (some ⟨g, 0, none⟩) us.length dc, .slice ka vs.length kc] 90 :: kPs L0 44 2 109 mR (.slice ka vs.length kc) vs.length 0 vs [])) Z9) := hs1
                      have HL' : Hid (uD.length = us.length) := hl'
                      have HB' : Hid (∀ u ∈ uD, u.n ≤ 40000) := hb'
                      have HU : Hid (uD[k]? = some u) := hu
                      have HLA : Hid (u.l = .slice la u.n lc) := hla
                      have HWA : Hid (u.w = .slice wa u.n wc) := hwa
                      have v0 : Z9.cell? ⟨g, k * 3, none⟩ = some u.l := by
                        obtain ⟨g9, hg9, h9, _, _⟩ := row_three (kR_row2 hs1 (by rw [List.length_set]; exact hl')) (set_self hu)
                        cases hg9
                        exact h9
                      rw [hla] at u0 hZ9 v0
                      clear hst hu hs1 hr0 hb' hl' hla hwa
                      go_upto_region 29 with fail
                      rw [← hZ9]
                      clear hZ9 fz b0 u0 u1 u2
                      go_wp2_with fail
                      go_loopw [12] (fun t wr => ∃ (q : Nat) (x : Value), u.n ≤ q ∧ q ≤ u.n + 100 ∧ t = .int .i64 q ∧ AS own0 w (unitP L0 46 7 u.l u.n (mV (-1000 - (k : Int)) u.n) x (q) (mV (-1000 - (k : Int)) (q)) :: kRest L0 46 7 106 mV (.slice (some ⟨g, 0, none⟩) us.length dc) us.length k k (uD.set k { u with mo := x }) (boxP L0 kb #[.slice (some ⟨g, 0, none⟩) us.length dc, .slice ka vs.length kc] 90 :: kPs L0 44 2 109 mR (.slice ka vs.length kc) vs.length 0 vs [])) wr) (fun t _ => u.n + 100 - (intOf t).toNat)
                      case atStart => exact ⟨u.n, _, Nat.le_refl _, by omega, rfl, HS1.out⟩
                      clear v0 HS1
                      case round =>
                        obtain ⟨q, x, hq0, hq, rfl, hin⟩ := hrel
                        obtain ⟨xa, xc, hxv, _⟩ := own_slice hin.head.2
                        subst hxv
                        obtain ⟨g9, hg9, _, u1, u2⟩ := row_three (kR_row2 hin (by rw [List.length_set]; exact HL'.out)) (set_self HU.out)
                        cases hg9
                        replace u1 : wr.cell? ⟨g, k * 3 + 1, none⟩ = some (.slice wa u.n wc) := u1.trans (congrArg some HWA.out)
                        replace u2 : wr.cell? ⟨g, k * 3 + 2, none⟩ = some (.slice xa q xc) := u2
                        have hw2 : IntKind.i64.wrap ((u.n : Int) + 100) = (u.n : Int) + 100 := by rw [IntKind.wrap_i64]; omega
                        by_cases hql : q < u.n + 100
                        · obtain ⟨x', w', hrun, y2, fz, hs6⟩ := grow_app hin HL'.out HU.out hq0 31 (viewV zed) 64 Try.underlying31 sizeV rfl (by decide) (by decide) #[.string ⟨#[]⟩, .int .i64 (q : Int), .int .i64 0, .int .i64 (-1000 - (k : Int)), .int .i64 0, .int .i64 0, .int .i64 0] rfl (fun u hu => by simp at hu; rcases hu with rfl | rfl | rfl | rfl | rfl <;> rfl) (by omega)
                          rw [mV_succ] at hs6
                          obtain ⟨xa2, xc2, hxv2, _⟩ := own_slice hs6.head.2
                          subst hxv2
                          have HS6 : Hid (AS own0 w (unitP L0 46 7 u.l u.n (mV (-1000 - (k : Int)) u.n) (.slice xa2 (q + 1) xc2) (q + 1) (mV (-1000 - (k : Int)) (q + 1)) :: kRest L0 46 7 106 mV (.slice (some ⟨g, 0, none⟩) us.length dc) us.length k k (uD.set k { u with mo := (.slice xa2 (q + 1) xc2) }) (boxP L0 kb #[.slice (some ⟨g, 0, none⟩) us.length dc, .slice ka vs.length kc] 90 :: kPs L0 44 2 109 mR (.slice ka vs.length kc) vs.length 0 vs [])) _) := hs6
                          have HRU : Hid _ := hrun
                          have hw : IntKind.i64.wrap (-1000 - (k : Int)) = (-1000 - (k : Int)) := by rw [IntKind.wrap_i64]; omega
                          clear hrun hs6 hin
                          go_wp2_with (at_builtin; refine wpList_runs rfl _ _ 31 rfl rfl rfl HRU.out ?_)
                          go_roundw
                          case rel => exact ⟨q + 1, _, by omega, by omega, by go_num, HS6.out⟩
                          case measure => simp [intOf]; omega
                        · obtain rfl : q = u.n + 100 := by omega
                          have HS7 : Hid (AS own0 w (kPs L0 46 7 106 mV (.slice (some ⟨g, 0, none⟩) us.length dc) us.length (k + 1) (uD.set k { u with mo := (.slice xa (u.n + 100) xc) }) (boxP L0 kb #[.slice (some ⟨g, 0, none⟩) us.length dc, .slice ka vs.length kc] 90 :: kPs L0 44 2 109 mR (.slice ka vs.length kc) vs.length 0 vs [])) wr) := grow_end hin HU.out hlt
                          clear hin
                          go_wp2_with fail
                          go_roundw
                          case rel => exact ⟨k + 1, _, _, _, rfl, rfl, by omega, by go_num, by rw [List.length_set]; exact HL'.out, fun v hv => (List.mem_or_eq_of_mem_set hv).elim (HB'.out v) (fun e => by rw [e]; exact hun), HS7.out⟩
                          case measure => simp [intOf]; omega
                    · obtain rfl : k = us.length := by omega
                      have HSN9 : Hid (AS own0 w (kPs L0 44 2 109 mR (.slice ka vs.length kc) vs.length 0 vs (boxP L0 kb #[.slice da us.length dc, .slice ka vs.length kc] 90 :: kPs L0 46 7 106 mV (.slice da us.length dc) us.length us.length uD [])) wr) := hst.perm kPs_swap
                      have HLD : Hid (uD.length = us.length) := hl'
                      have HBD : Hid (∀ u ∈ uD, u.n ≤ 40000) := hb'
                      clear hst HSN7 hl' hb'
                      go_wp2_with fail
                      go_loopw [13, 14, 15] (fun s tx t wr => ∃ (k : Nat) (x y : Value) (vK : List UU), x = tx ∧ y = t ∧ k ≤ vs.length ∧ s = .int .i64 k ∧ vK.length = vs.length ∧ (∀ u ∈ vK, u.n ≤ 1000) ∧ AS own0 w (kPs L0 44 2 109 mR (.slice ka vs.length kc) vs.length k vK (boxP L0 kb #[.slice da us.length dc, .slice ka vs.length kc] 90 :: kPs L0 46 7 106 mV (.slice da us.length dc) us.length us.length uD [])) wr) (fun s _ _ _ => vs.length - (intOf s).toNat)
                      case atStart => exact ⟨0, _, _, vs, rfl, rfl, Nat.zero_le _, rfl, rfl, fun u hu => (HKU.out u hu).elim fun D h => h.2.2.1, HSN9.out⟩
                      case round =>
                        obtain ⟨k, x, y, vK, rfl, rfl, hk, rfl, hl', hb', hst⟩ := hrel
                        have b0 : wr.cell? ⟨kb, 1, none⟩ = some (.slice ka vs.length kc) := (kPs_y hst (e := boxP L0 kb #[.slice da us.length dc, .slice ka vs.length kc] 90) (List.mem_cons_self ..)).1.cell 1
                        by_cases hlt : k < vs.length
                        · obtain ⟨u, hu⟩ : ∃ u, vK[k]? = some u := ⟨_, List.getElem?_eq_getElem (by omega)⟩
                          have hun := hb' u (List.mem_of_getElem? hu)
                          have hr0 := kPs_row2 hst hl'
                          obtain ⟨g, hg, u0, u1, u2⟩ := row_three hr0 hu
                          subst hg
                          have fz := World.ownsRow.frozenAt hr0 (k * 3 + 2)
                          obtain ⟨la, lc, hla, _⟩ := own_slice (kPs_unit hst hu).1
                          obtain ⟨wa, wc, hwa, _⟩ := own_slice (kPs_w hst (List.mem_of_getElem? hu))
                          obtain ⟨Z9, hZ9⟩ : ∃ Z9, Z9 = wr.setCell ⟨g, k * 3 + 2, none⟩ u.l := ⟨_, rfl⟩
                          have hs1 := grow_start hst hl' hu hlt
                          rw [← hZ9] at hs1
                          have HS1 : Hid (AS own0 w (unitP L0 44 2 u.l u.n (mR (-1000 - (k : Int)) u.n) u.l (u.n) (mR (-1000 - (k : Int)) (u.n)) :: kRest L0 44 2 109 mR (.slice (some ⟨g, 0, none⟩) vs.length kc) vs.length k k (vK.set k { u with mo := u.l }) (boxP L0 kb #[.slice da us.length dc, .slice (some ⟨g, 0, none⟩) vs.length kc] 90 :: kPs L0 46 7 106 mV (.slice da us.length dc) us.length us.length uD [])) Z9) := hs1
                          have HL' : Hid (vK.length = vs.length) := hl'
                          have HB' : Hid (∀ u ∈ vK, u.n ≤ 1000) := hb'
                          have HU : Hid (vK[k]? = some u) := hu
                          have HLA : Hid (u.l = .slice la u.n lc) := hla
                          have HWA : Hid (u.w = .slice wa u.n wc) := hwa
                          have v0 : Z9.cell? ⟨g, k * 3, none⟩ = some u.l := by
                            obtain ⟨g9, hg9, h9, _, _⟩ := row_three (kR_row2 hs1 (by rw [List.length_set]; exact hl')) (set_self hu)
                            cases hg9
                            exact h9
                          rw [hla] at u0 hZ9 v0
                          clear hst hu hs1 hr0 hb' hl' hla hwa
                          go_upto_region 38 with fail
                          rw [← hZ9]
                          clear hZ9 fz b0 u0 u1 u2
                          go_wp2_with fail
                          go_loopw [15] (fun t wr => ∃ (q : Nat) (x : Value), u.n ≤ q ∧ q ≤ u.n + 100 ∧ t = .int .i64 q ∧ AS own0 w (unitP L0 44 2 u.l u.n (mR (-1000 - (k : Int)) u.n) x (q) (mR (-1000 - (k : Int)) (q)) :: kRest L0 44 2 109 mR (.slice (some ⟨g, 0, none⟩) vs.length kc) vs.length k k (vK.set k { u with mo := x }) (boxP L0 kb #[.slice da us.length dc, .slice (some ⟨g, 0, none⟩) vs.length kc] 90 :: kPs L0 46 7 106 mV (.slice da us.length dc) us.length us.length uD [])) wr) (fun t _ => u.n + 100 - (intOf t).toNat)
                          case atStart => exact ⟨u.n, _, Nat.le_refl _, by omega, rfl, HS1.out⟩
                          clear v0 HS1
                          case round =>
                            obtain ⟨q, x, hq0, hq, rfl, hin⟩ := hrel
                            obtain ⟨xa, xc, hxv, _⟩ := own_slice hin.head.2
                            subst hxv
                            obtain ⟨g9, hg9, _, u1, u2⟩ := row_three (kR_row2 hin (by rw [List.length_set]; exact HL'.out)) (set_self HU.out)
                            cases hg9
                            replace u1 : wr.cell? ⟨g, k * 3 + 1, none⟩ = some (.slice wa u.n wc) := u1.trans (congrArg some HWA.out)
                            replace u2 : wr.cell? ⟨g, k * 3 + 2, none⟩ = some (.slice xa q xc) := u2
                            have hw2 : IntKind.i64.wrap ((u.n : Int) + 100) = (u.n : Int) + 100 := by rw [IntKind.wrap_i64]; omega
                            by_cases hql : q < u.n + 100
                            · obtain ⟨x', w', hrun, y2, fz, hs6⟩ := grow_app hin HL'.out HU.out hq0 42 (.agg #[.int .i64 0, .int .i64 0]) 16 Try.underlying42 info44 rfl (by decide) (by decide) #[.int .i64 (-1000 - (k : Int)), .int .i64 (q : Int)] rfl (fun u hu => by simp at hu; rcases hu with rfl | rfl <;> rfl) (by omega)
                              rw [mR_succ] at hs6
                              obtain ⟨xa2, xc2, hxv2, _⟩ := own_slice hs6.head.2
                              subst hxv2
                              have HS6 : Hid (AS own0 w (unitP L0 44 2 u.l u.n (mR (-1000 - (k : Int)) u.n) (.slice xa2 (q + 1) xc2) (q + 1) (mR (-1000 - (k : Int)) (q + 1)) :: kRest L0 44 2 109 mR (.slice (some ⟨g, 0, none⟩) vs.length kc) vs.length k k (vK.set k { u with mo := (.slice xa2 (q + 1) xc2) }) (boxP L0 kb #[.slice da us.length dc, .slice (some ⟨g, 0, none⟩) vs.length kc] 90 :: kPs L0 46 7 106 mV (.slice da us.length dc) us.length us.length uD [])) _) := hs6
                              have HRU : Hid _ := hrun
                              have hw : IntKind.i64.wrap (-1000 - (k : Int)) = (-1000 - (k : Int)) := by rw [IntKind.wrap_i64]; omega
                              clear hrun hs6 hin
                              go_wp2_with (at_builtin; refine wpList_runs rfl _ _ 42 rfl rfl rfl HRU.out ?_)
                              go_roundw
                              case rel => exact ⟨q + 1, _, by omega, by omega, by go_num, HS6.out⟩
                              case measure => simp [intOf]; omega
                            · obtain rfl : q = u.n + 100 := by omega
                              have HS7 : Hid (AS own0 w (kPs L0 44 2 109 mR (.slice (some ⟨g, 0, none⟩) vs.length kc) vs.length (k + 1) (vK.set k { u with mo := (.slice xa (u.n + 100) xc) }) (boxP L0 kb #[.slice da us.length dc, .slice (some ⟨g, 0, none⟩) vs.length kc] 90 :: kPs L0 46 7 106 mV (.slice da us.length dc) us.length us.length uD [])) wr) := grow_end hin HU.out hlt
                              clear hin
                              go_wp2_with fail
                              go_roundw
                              case rel => exact ⟨k + 1, _, _, _, rfl, rfl, by omega, by go_num, by rw [List.length_set]; exact HL'.out, fun v hv => (List.mem_or_eq_of_mem_set hv).elim (HB'.out v) (fun e => by rw [e]; exact hun), HS7.out⟩
                              case measure => simp [intOf]; omega
                        · obtain rfl : k = vs.length := by omega
                          have HSN11 : Hid (AS own0 w (kPs L0 46 7 106 mV (.slice da us.length dc) us.length us.length uD (boxP L0 kb #[.slice da us.length dc, .slice ka vs.length kc] 90 :: kPs L0 44 2 109 mR (.slice ka vs.length kc) vs.length vs.length vK [])) wr) := hst.perm kPs_swap
                          have HLK : Hid (vK.length = vs.length) := hl'
                          have HBK : Hid (∀ u ∈ vK, u.n ≤ 1000) := hb'
                          clear hst HSN9 hl' hb'
                          go_wp2_with fail
                          go_loopw [3, 16] (fun s3 s wr => ∃ k : Nat, k ≤ us.length ∧ s3 = .bool true ∧ s = .int .i64 k ∧ AS own0 w (kPs L0 46 7 106 mV (.slice da us.length dc) us.length us.length uD (boxP L0 kb #[.slice da us.length dc, .slice ka vs.length kc] 90 :: kPs L0 44 2 109 mR (.slice ka vs.length kc) vs.length vs.length vK [])) wr) (fun _ s _ => us.length - (intOf s).toNat)
                          case atStart => exact ⟨0, Nat.zero_le _, rfl, rfl, HSN11.out⟩
                          case round =>
                            obtain ⟨k, hk, rfl, rfl, hst⟩ := hrel
                            have b0 : wr.cell? ⟨kb, 0, none⟩ = some (.slice da us.length dc) := (kPs_y hst (e := boxP L0 kb #[.slice da us.length dc, .slice ka vs.length kc] 90) (List.mem_cons_self ..)).1.cell 0
                            by_cases hlt : k < us.length
                            · obtain ⟨u, hu⟩ : ∃ u, uD[k]? = some u := ⟨_, List.getElem?_eq_getElem (by rw [HLD.out]; exact hlt)⟩
                              have hun := HBD.out u (List.mem_of_getElem? hu)
                              obtain ⟨g, hg, u0, _, u2⟩ := row_three (kPs_row2 hst HLD.out) hu
                              subst hg
                              have r1 : wr.ownsRow L0 46 7 u.l u.n (mV (-1000 - (k : Int)) u.n) := by have h9 := (kPs_unit hst hu).1; rw [if_pos hlt] at h9; exact h9
                              have r2 : wr.ownsRow L0 46 7 u.mo (u.n + 100) (mV (-1000 - (k : Int)) (u.n + 100)) := by have h9 := (kPs_unit hst hu).2; rw [if_pos hlt, if_pos hlt] at h9; exact h9
                              obtain ⟨la, lc, hla, _⟩ := own_slice r1
                              obtain ⟨xa, xc, hxa, _⟩ := own_slice r2
                              rw [hla] at r1 u0
                              rw [hxa] at r2 u2
                              have HV1 : Hid _ := viewed_any (-1000 - (k : Int)) wr r1 (by omega)
                              have HV2 : Hid _ := viewed_any (-1000 - (k : Int)) wr r2 (by omega)
                              have HST : Hid (AS own0 w (kPs L0 46 7 106 mV (.slice (some ⟨g, 0, none⟩) us.length dc) us.length us.length uD (boxP L0 kb #[.slice (some ⟨g, 0, none⟩) us.length dc, .slice ka vs.length kc] 90 :: kPs L0 44 2 109 mR (.slice ka vs.length kc) vs.length vs.length vK [])) wr) := hst
                              have hw : IntKind.i64.wrap (-1000 - (k : Int)) = (-1000 - (k : Int)) := by rw [IntKind.wrap_i64]; omega
                              clear hst r1 r2 hla hxa hu
                              go_wp2_with fail
                              refine Calls.mono HV1.out ?_
                              rintro e9 _ ⟨rfl, rfl⟩
                              go_wp2_with fail
                              refine Calls.mono HV2.out ?_
                              rintro e9 _ ⟨rfl, rfl⟩
                              go_wp2_with fail
                              go_roundw
                              case rel => exact ⟨k + 1, by omega, rfl, by go_num, HST.out⟩
                              case measure => simp [intOf]; omega
                            · obtain rfl : k = us.length := by omega
                              have HSN12 : Hid (AS own0 w (kPs L0 44 2 109 mR (.slice ka vs.length kc) vs.length vs.length vK (boxP L0 kb #[.slice da us.length dc, .slice ka vs.length kc] 90 :: kPs L0 46 7 106 mV (.slice da us.length dc) us.length us.length uD [])) wr) := hst.perm kPs_swap
                              clear hst HSN11
                              go_wp2_with fail
                              go_loopw [3, 17] (fun s3 s wr => ∃ k : Nat, k ≤ vs.length ∧ s3 = .bool true ∧ s = .int .i64 k ∧ AS own0 w (kPs L0 44 2 109 mR (.slice ka vs.length kc) vs.length vs.length vK (boxP L0 kb #[.slice da us.length dc, .slice ka vs.length kc] 90 :: kPs L0 46 7 106 mV (.slice da us.length dc) us.length us.length uD [])) wr) (fun _ s _ => vs.length - (intOf s).toNat)
                              case atStart => exact ⟨0, Nat.zero_le _, rfl, rfl, HSN12.out⟩
                              case round =>
                                obtain ⟨k, hk, rfl, rfl, hst⟩ := hrel
                                have b0 : wr.cell? ⟨kb, 1, none⟩ = some (.slice ka vs.length kc) := (kPs_y hst (e := boxP L0 kb #[.slice da us.length dc, .slice ka vs.length kc] 90) (List.mem_cons_self ..)).1.cell 1
                                by_cases hlt : k < vs.length
                                · obtain ⟨u, hu⟩ : ∃ u, vK[k]? = some u := ⟨_, List.getElem?_eq_getElem (by rw [HLK.out]; exact hlt)⟩
                                  have hun := HBK.out u (List.mem_of_getElem? hu)
                                  obtain ⟨g, hg, u0, _, u2⟩ := row_three (kPs_row2 hst HLK.out) hu
                                  subst hg
                                  have r1 : wr.ownsRow L0 44 2 u.l u.n (mR (-1000 - (k : Int)) u.n) := by have h9 := (kPs_unit hst hu).1; rw [if_pos hlt] at h9; exact h9
                                  have r2 : wr.ownsRow L0 44 2 u.mo (u.n + 100) (mR (-1000 - (k : Int)) (u.n + 100)) := by have h9 := (kPs_unit hst hu).2; rw [if_pos hlt, if_pos hlt] at h9; exact h9
                                  obtain ⟨la, lc, hla, _⟩ := own_slice r1
                                  obtain ⟨xa, xc, hxa, _⟩ := own_slice r2
                                  rw [hla] at r1 u0
                                  rw [hxa] at r2 u2
                                  have HV1 : Hid _ := righted_any (-1000 - (k : Int)) wr r1 (by omega)
                                  have HV2 : Hid _ := righted_any (-1000 - (k : Int)) wr r2 (by omega)
                                  have HST : Hid (AS own0 w (kPs L0 44 2 109 mR (.slice (some ⟨g, 0, none⟩) vs.length kc) vs.length vs.length vK (boxP L0 kb #[.slice da us.length dc, .slice (some ⟨g, 0, none⟩) vs.length kc] 90 :: kPs L0 46 7 106 mV (.slice da us.length dc) us.length us.length uD [])) wr) := hst
                                  have hw : IntKind.i64.wrap (-1000 - (k : Int)) = (-1000 - (k : Int)) := by rw [IntKind.wrap_i64]; omega
                                  clear hst r1 r2 hla hxa hu
                                  go_wp2_with fail
                                  refine Calls.mono HV1.out ?_
                                  rintro e9 _ ⟨rfl, rfl⟩
                                  go_wp2_with fail
                                  refine Calls.mono HV2.out ?_
                                  rintro e9 _ ⟨rfl, rfl⟩
                                  go_wp2_with fail
                                  go_roundw
                                  case rel => exact ⟨k + 1, by omega, rfl, by go_num, HST.out⟩
                                  case measure => simp [intOf]; omega
                                · obtain rfl : k = vs.length := by omega
                                  have HFC : Hid (Chg (has (kPs L0 46 7 106 mV (.slice da us.length dc) 0 0 us (boxP L0 kb #[.slice da us.length dc, .slice ka vs.length kc] 90 :: kPs L0 44 2 109 mR (.slice ka vs.length kc) 0 0 vs []))) w wr) := by
                                    show Chg (has (kPs L0 46 7 106 mV (.slice da us.length dc) 0 0 us (boxP L0 kb #[.slice da us.length dc, .slice ka vs.length kc] 90 :: kPs L0 44 2 109 mR (.slice ka vs.length kc) 0 0 vs []))) w wr
                                    rw [← HOWN.out]
                                    exact hst.chg
                                  clear hst HSN12
                                  go_wp2_with fail
                                  go_ret
                                  exact ⟨rfl, HFC.out⟩
end Go.Proofs.Ytdblbjcdnkiepaa
