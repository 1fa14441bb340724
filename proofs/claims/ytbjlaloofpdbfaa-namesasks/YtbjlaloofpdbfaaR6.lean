import Derived.Test.YtbjlaloofpdbfaaR5
namespace Go.Proofs.Ytbjlaloofpdbfaa
open Go.RowKit Go.PlainAid
set_option linter.unusedVariables false
set_option linter.unusedSimpArgs false
structure AllI (w : World) (n : Nat) (KL : List (List UInt8)) (i : Nat) (outs : List (List UInt8)) (wr : World) : Prop where
  pl : Placed sl KL i outs
  row : wr.ownsRow w.heap.size 9 1 (.slice (some ⟨w.heap.size, 0, none⟩) n n) n (flatS outs)
  bel : Below w.heap.size w wr
set_option maxRecDepth 100000 in
set_option maxHeartbeats 1600000 in
theorem rall_any {B rb : Nat} {kl wl : Value} {me rep per : Int} {KL : List (List UInt8)} {WL : List ((Int × Int) × OpA)} (w : World) (hT : RT B rb kl wl me rep per KL WL w) (hL : KL.length ≤ 100000) {S : List (List UInt8)} (hp : S.Perm KL) (hs : S.Pairwise (fun a b => sl a b = true)) :
    Calls Try.prog 67 #[.pointer (some ⟨rb, 0, none⟩)] w fun e w' => ∃ v, e = .returned v ∧ w'.ownsRow w.heap.size 9 1 v S.length (flatS S) ∧ Below w.heap.size w w' := by
  obtain ⟨ao, kc, hv, _⟩ := own_slice hT.kr
  have c3 := hT.c3
  rw [hv] at c3
  have hmk := makeS_run KL.length hL
  obtain ⟨X, hX⟩ : ∃ X, X = w.alloc (.cells (flatS (List.replicate KL.length [])).toArray 9) := ⟨_, rfl⟩
  have hbX : Below w.heap.size w X := by rw [hX]; exact (Below.refl _ _).alloc (Nat.le_refl _) _
  have HI0 : Hid (AllI w KL.length KL 0 (List.replicate KL.length []) X) := by
    refine ⟨⟨by simp, fun j x hj => by omega⟩, ?_, hbX⟩
    refine ⟨by simp [flatS], Or.inr ⟨w.heap.size, KL.length, (flatS (List.replicate KL.length [])).toArray, rfl, Nat.le_refl _, by rw [hX]; exact heap_alloc_new w _, Nat.le_refl _, by unfold maxLen; omega, by simp [flatS], by simp [flatS]⟩⟩
  have HT : Hid _ := hT
  have HV : Hid (kl = .slice ao KL.length kc) := hv
  have HC3 : Hid (∀ wr, Below w.heap.size w wr → wr.cell? ⟨rb, 3, none⟩ = some (.slice ao KL.length kc)) := fun wr hw => (hw.cell (p := ⟨rb, 3, none⟩) (World.block_lt_of_cell? w _ c3)).trans c3
  have HP : Hid _ := hp
  have HS : Hid _ := hs
  clear hT hv hbX hp hs
  go_enter Try.func67, Try.ntmps67
  go_wp2_with fail
  rw [← hX]
  clear hX hmk c3
  go_loopw [4] (fun s4 wr => ∃ i : Nat, i ≤ KL.length ∧ s4 = .int .i64 i ∧ ∃ outs, AllI w KL.length KL i outs wr) (fun s4 _ => KL.length - (intOf s4).toNat)
  case atStart => exact ⟨0, Nat.zero_le _, rfl, _, HI0.out⟩
  case round =>
    obtain ⟨i, hi, rfl, outs, hA⟩ := hrel
    obtain ⟨wo, hwo⟩ : ∃ wo, wo = wr := ⟨_, rfl⟩
    subst hwo
    clear HI0
    have XKr := HC3.out wo hA.bel
    by_cases hil : i < KL.length
    · obtain ⟨x, hx⟩ : ∃ x, KL[i]? = some x := ⟨KL[i], List.getElem?_eq_getElem hil⟩
      have hili : (i : Int) < (KL.length : Int) := by omega
      have HTr : Hid _ := HT.out.more hA.bel
      have HA : Hid _ := hA
      have HX : Hid (KL[i]? = some x) := hx
      have HQ0 : Hid _ := Below.refl wo.heap.size wo
      clear hA hx
      go_wp2_with fail
      go_loopw [5, 6] (fun s5 s6 wr => ∃ j : Nat, j ≤ KL.length ∧ s6 = .int .i64 j ∧ s5 = .int .i64 ((KL.take j).countP (fun y => sl y x) : Nat) ∧ Below wo.heap.size wo wr) (fun _ s6 _ => KL.length - (intOf s6).toNat)
      case atStart => exact ⟨0, Nat.zero_le _, rfl, rfl, HQ0.out⟩
      case round =>
        obtain ⟨j, hj, rfl, rfl, hbq⟩ := hrel
        have hTq := HTr.out.more hbq
        have XK : wr.cell? ⟨rb, 3, none⟩ = some (.slice ao KL.length kc) := by
          have := hTq.c3
          rw [HV.out] at this
          exact this
        obtain ⟨kg, kc2, hv2, XI⟩ := strAt hTq.kr HX.out
        rw [HV.out] at hv2
        cases hv2
        by_cases hjl : j < KL.length
        · obtain ⟨y, hy⟩ : ∃ y, KL[j]? = some y := ⟨KL[j], List.getElem?_eq_getElem hjl⟩
          have hjli : (j : Int) < (KL.length : Int) := by omega
          obtain ⟨kg2, kc2, hv2, XJ⟩ := strAt hTq.kr hy
          rw [HV.out] at hv2
          cases hv2
          clear hTq
          cases hsl : sl y x with
          | true =>
            have HB : Hid (sl y x = true) := hsl
            have HSU : Hid ((KL.take (j + 1)).countP (fun y => sl y x) = (KL.take j).countP (fun y => sl y x) + 1) := show (KL.take (j + 1)).countP (fun y => sl y x) = (KL.take j).countP (fun y => sl y x) + 1 from by rw [List.take_add_one, hy, List.countP_append]; simp [hsl]
            have hcl : (KL.take j).countP (fun y => sl y x) ≤ (KL.take j).length := List.countP_le_length
            rw [List.length_take] at hcl
            generalize hcg : (KL.take j).countP (fun y => sl y x) = c at *
            have hwc : IntKind.i64.wrap ((c : Int) + 1) = (c : Int) + 1 := by rw [IntKind.wrap_i64]; omega
            have HBQ : Hid _ := hbq
            clear hy hsl hbq hcl hcg
            go_wp2_with fail
            rename_i K hK
            try rw [show ∀ a : Act, a.put none undef = a from fun _ => rfl]
            refine wp_region_mix (fun wz => Below wr.heap.size wr wz) (fun i => i == 99) 99 (by kernel_rfl) rfl (by kernel_rfl) (by kernel_rfl) (by kernel_rfl) ?_
            refine withFrP (N := 59) rfl ?_
            intro f0 F0 hff
            have e0 : f0 0 = Value.pointer (some ⟨rb, 0, none⟩) := hff 0
            have e4 : f0 4 = Value.int .i64 (i : Int) := hff 4
            have e6 : f0 6 = Value.int .i64 (j : Int) := hff 6
            clear hff
            have HCC : (fun wz => Below wr.heap.size wr wz) (({ wr with drawn := wr.drawn + 1 } : World)) := (Below.drew (Below.refl wr.heap.size wr))
            have V3 : ∀ wz, Below wr.heap.size wr wz → wz.cell? ⟨rb, 3, none⟩ = some (.slice (some ⟨kg, 0, none⟩) KL.length kc) := fun wz hw => (hw.cell (p := ⟨rb, 3, none⟩) (World.block_lt_of_cell? wr _ XK)).trans XK
            have VI : ∀ wz, Below wr.heap.size wr wz → wz.cell? ⟨kg, i, none⟩ = some (.string ⟨x.toArray⟩) := fun wz hw => (hw.cell (p := ⟨kg, i, none⟩) (World.block_lt_of_cell? wr _ XI)).trans XI
            have VJ : ∀ wz, Below wr.heap.size wr wz → wz.cell? ⟨kg, j, none⟩ = some (.string ⟨y.toArray⟩) := fun wz hw => (hw.cell (p := ⟨kg, j, none⟩) (World.block_lt_of_cell? wr _ XJ)).trans XJ
            refine lyp F0 rfl HCC rfl (by omega) (wanted_none rfl) (v := Value.pointer (some ⟨rb, 0, none⟩)) (fun wr hwr => by simp only [execOp, (F0.eval 0 (by omega)).trans (show _ = Value.pointer (some ⟨rb, 0, none⟩) from by simp [upd, e0, e4, e6])]; first | rfl | simp [go_sem]) fun F1 => ?_
            refine lyp F1 rfl HCC rfl (by omega) (wanted_none rfl) (v := Value.pointer (some ⟨rb, 0, none⟩)) (fun wr hwr => by simp only [execOp, (F1.eval 31 (by omega)).trans (show _ = Value.pointer (some ⟨rb, 0, none⟩) from by simp [upd, e0, e4, e6])]; simp [go_sem]) fun F2 => ?_
            refine lyp F2 rfl HCC rfl (by omega) (wanted_none rfl) (v := Value.pointer (some ⟨rb, 3, none⟩)) (fun wr hwr => by simp only [execOp, (F2.eval 32 (by omega)).trans (show _ = Value.pointer (some ⟨rb, 0, none⟩) from by simp [upd, e0, e4, e6])]; simp [go_sem]) fun F3 => ?_
            refine lyp F3 rfl HCC rfl (by omega) (wanted_none rfl) (v := Value.slice (some ⟨kg, 0, none⟩) KL.length kc) (fun wr hwr => by simp only [execOp, (F3.eval 33 (by omega)).trans (show _ = Value.pointer (some ⟨rb, 3, none⟩) from by simp [upd, e0, e4, e6])]; simp [go_sem, V3 _ hwr]) fun F4 => ?_
            refine lyp F4 rfl HCC rfl (by omega) (wanted_none rfl) (v := Value.int .i64 (j : Int)) (fun wr hwr => by simp only [execOp, (F4.eval 6 (by omega)).trans (show _ = Value.int .i64 (j : Int) from by simp [upd, e0, e4, e6])]; first | rfl | simp [go_sem]) fun F5 => ?_
            refine lyp F5 rfl HCC rfl (by omega) (wanted_none rfl) (v := Value.pointer (some ⟨kg, j, none⟩)) (fun wr hwr => by simp only [execOp, (F5.eval 34 (by omega)).trans (show _ = Value.slice (some ⟨kg, 0, none⟩) KL.length kc from by simp [upd, e0, e4, e6]), (F5.eval 35 (by omega)).trans (show _ = Value.int .i64 (j : Int) from by simp [upd, e0, e4, e6])]; simp [go_sem, hjl]) fun F6 => ?_
            refine lyp F6 rfl HCC rfl (by omega) (wanted_none rfl) (v := Value.string ⟨y.toArray⟩) (fun wr hwr => by simp only [execOp, (F6.eval 36 (by omega)).trans (show _ = Value.pointer (some ⟨kg, j, none⟩) from by simp [upd, e0, e4, e6])]; simp [go_sem, VJ _ hwr]) fun F7 => ?_
            refine lyp F7 rfl HCC rfl (by omega) (wanted_none rfl) (v := Value.pointer (some ⟨rb, 0, none⟩)) (fun wr hwr => by simp only [execOp, (F7.eval 0 (by omega)).trans (show _ = Value.pointer (some ⟨rb, 0, none⟩) from by simp [upd, e0, e4, e6])]; first | rfl | simp [go_sem]) fun F8 => ?_
            refine lyp F8 rfl HCC rfl (by omega) (wanted_none rfl) (v := Value.pointer (some ⟨rb, 0, none⟩)) (fun wr hwr => by simp only [execOp, (F8.eval 38 (by omega)).trans (show _ = Value.pointer (some ⟨rb, 0, none⟩) from by simp [upd, e0, e4, e6])]; simp [go_sem]) fun F9 => ?_
            refine lyp F9 rfl HCC rfl (by omega) (wanted_none rfl) (v := Value.pointer (some ⟨rb, 3, none⟩)) (fun wr hwr => by simp only [execOp, (F9.eval 39 (by omega)).trans (show _ = Value.pointer (some ⟨rb, 0, none⟩) from by simp [upd, e0, e4, e6])]; simp [go_sem]) fun F10 => ?_
            refine lyp F10 rfl HCC rfl (by omega) (wanted_none rfl) (v := Value.slice (some ⟨kg, 0, none⟩) KL.length kc) (fun wr hwr => by simp only [execOp, (F10.eval 40 (by omega)).trans (show _ = Value.pointer (some ⟨rb, 3, none⟩) from by simp [upd, e0, e4, e6])]; simp [go_sem, V3 _ hwr]) fun F11 => ?_
            refine lyp F11 rfl HCC rfl (by omega) (wanted_none rfl) (v := Value.int .i64 (i : Int)) (fun wr hwr => by simp only [execOp, (F11.eval 4 (by omega)).trans (show _ = Value.int .i64 (i : Int) from by simp [upd, e0, e4, e6])]; first | rfl | simp [go_sem]) fun F12 => ?_
            refine lyp F12 rfl HCC rfl (by omega) (wanted_none rfl) (v := Value.pointer (some ⟨kg, i, none⟩)) (fun wr hwr => by simp only [execOp, (F12.eval 41 (by omega)).trans (show _ = Value.slice (some ⟨kg, 0, none⟩) KL.length kc from by simp [upd, e0, e4, e6]), (F12.eval 42 (by omega)).trans (show _ = Value.int .i64 (i : Int) from by simp [upd, e0, e4, e6])]; simp [go_sem, hil]) fun F13 => ?_
            refine lyp F13 rfl HCC rfl (by omega) (wanted_none rfl) (v := Value.string ⟨x.toArray⟩) (fun wr hwr => by simp only [execOp, (F13.eval 43 (by omega)).trans (show _ = Value.pointer (some ⟨kg, i, none⟩) from by simp [upd, e0, e4, e6])]; simp [go_sem, VI _ hwr]) fun F14 => ?_
            refine lyp F14 rfl HCC rfl (by omega) (wanted_none rfl) (v := Value.bool true) (fun wr hwr => by simp only [execOp, (F14.eval 37 (by omega)).trans (show _ = Value.string ⟨y.toArray⟩ from by simp [upd, e0, e4, e6]), (F14.eval 44 (by omega)).trans (show _ = Value.string ⟨x.toArray⟩ from by simp [upd, e0, e4, e6])]; simp only [binOp_string_lss, sl_raw, HB.out]; first | rfl | simp [go_sem]) fun F15 => ?_
            refine ⟨fun _ => HCC, ?_⟩
            refine hK _ _ ?_
            clear F0 F1 F2 F3 F4 F5 F6 F7 F8 F9 F10 F11 F12 F13 F14 F15 e0 e4 e6 V3 VI VJ
            simp only [Act.put, List.setIfInBounds_toArray, List.set_cons_succ, List.set_cons_zero]

            have HB2 : Hid (Below wo.heap.size wo ({ wr with drawn := wr.drawn + 1 } : World)) := HBQ.out.trans (HCC.mono HBQ.out.size)
            clear HCC XK XI XJ
            go_wp2_with fail
            go_roundw
            case rel => exact ⟨j + 1, by omega, by go_num, by rw [HSU.out]; rfl, HB2.out⟩
            case measure => simp [intOf]; omega
          | false =>
            have HB : Hid (sl y x = false) := hsl
            have HSU : Hid ((KL.take (j + 1)).countP (fun y => sl y x) = (KL.take j).countP (fun y => sl y x) + 0) := show (KL.take (j + 1)).countP (fun y => sl y x) = (KL.take j).countP (fun y => sl y x) + 0 from by rw [List.take_add_one, hy, List.countP_append]; simp [hsl]
            have hcl : (KL.take j).countP (fun y => sl y x) ≤ (KL.take j).length := List.countP_le_length
            rw [List.length_take] at hcl
            generalize hcg : (KL.take j).countP (fun y => sl y x) = c at *
            have hwc : IntKind.i64.wrap ((c : Int) + 1) = (c : Int) + 1 := by rw [IntKind.wrap_i64]; omega
            have HBQ : Hid _ := hbq
            clear hy hsl hbq hcl hcg
            go_wp2_with fail
            rename_i K hK
            try rw [show ∀ a : Act, a.put none undef = a from fun _ => rfl]
            refine wp_region_mix (fun wz => Below wr.heap.size wr wz) (fun i => i == 99) 99 (by kernel_rfl) rfl (by kernel_rfl) (by kernel_rfl) (by kernel_rfl) ?_
            refine withFrP (N := 59) rfl ?_
            intro f0 F0 hff
            have e0 : f0 0 = Value.pointer (some ⟨rb, 0, none⟩) := hff 0
            have e4 : f0 4 = Value.int .i64 (i : Int) := hff 4
            have e6 : f0 6 = Value.int .i64 (j : Int) := hff 6
            clear hff
            have HCC : (fun wz => Below wr.heap.size wr wz) (({ wr with drawn := wr.drawn + 1 } : World)) := (Below.drew (Below.refl wr.heap.size wr))
            have V3 : ∀ wz, Below wr.heap.size wr wz → wz.cell? ⟨rb, 3, none⟩ = some (.slice (some ⟨kg, 0, none⟩) KL.length kc) := fun wz hw => (hw.cell (p := ⟨rb, 3, none⟩) (World.block_lt_of_cell? wr _ XK)).trans XK
            have VI : ∀ wz, Below wr.heap.size wr wz → wz.cell? ⟨kg, i, none⟩ = some (.string ⟨x.toArray⟩) := fun wz hw => (hw.cell (p := ⟨kg, i, none⟩) (World.block_lt_of_cell? wr _ XI)).trans XI
            have VJ : ∀ wz, Below wr.heap.size wr wz → wz.cell? ⟨kg, j, none⟩ = some (.string ⟨y.toArray⟩) := fun wz hw => (hw.cell (p := ⟨kg, j, none⟩) (World.block_lt_of_cell? wr _ XJ)).trans XJ
            refine lyp F0 rfl HCC rfl (by omega) (wanted_none rfl) (v := Value.pointer (some ⟨rb, 0, none⟩)) (fun wr hwr => by simp only [execOp, (F0.eval 0 (by omega)).trans (show _ = Value.pointer (some ⟨rb, 0, none⟩) from by simp [upd, e0, e4, e6])]; first | rfl | simp [go_sem]) fun F1 => ?_
            refine lyp F1 rfl HCC rfl (by omega) (wanted_none rfl) (v := Value.pointer (some ⟨rb, 0, none⟩)) (fun wr hwr => by simp only [execOp, (F1.eval 31 (by omega)).trans (show _ = Value.pointer (some ⟨rb, 0, none⟩) from by simp [upd, e0, e4, e6])]; simp [go_sem]) fun F2 => ?_
            refine lyp F2 rfl HCC rfl (by omega) (wanted_none rfl) (v := Value.pointer (some ⟨rb, 3, none⟩)) (fun wr hwr => by simp only [execOp, (F2.eval 32 (by omega)).trans (show _ = Value.pointer (some ⟨rb, 0, none⟩) from by simp [upd, e0, e4, e6])]; simp [go_sem]) fun F3 => ?_
            refine lyp F3 rfl HCC rfl (by omega) (wanted_none rfl) (v := Value.slice (some ⟨kg, 0, none⟩) KL.length kc) (fun wr hwr => by simp only [execOp, (F3.eval 33 (by omega)).trans (show _ = Value.pointer (some ⟨rb, 3, none⟩) from by simp [upd, e0, e4, e6])]; simp [go_sem, V3 _ hwr]) fun F4 => ?_
            refine lyp F4 rfl HCC rfl (by omega) (wanted_none rfl) (v := Value.int .i64 (j : Int)) (fun wr hwr => by simp only [execOp, (F4.eval 6 (by omega)).trans (show _ = Value.int .i64 (j : Int) from by simp [upd, e0, e4, e6])]; first | rfl | simp [go_sem]) fun F5 => ?_
            refine lyp F5 rfl HCC rfl (by omega) (wanted_none rfl) (v := Value.pointer (some ⟨kg, j, none⟩)) (fun wr hwr => by simp only [execOp, (F5.eval 34 (by omega)).trans (show _ = Value.slice (some ⟨kg, 0, none⟩) KL.length kc from by simp [upd, e0, e4, e6]), (F5.eval 35 (by omega)).trans (show _ = Value.int .i64 (j : Int) from by simp [upd, e0, e4, e6])]; simp [go_sem, hjl]) fun F6 => ?_
            refine lyp F6 rfl HCC rfl (by omega) (wanted_none rfl) (v := Value.string ⟨y.toArray⟩) (fun wr hwr => by simp only [execOp, (F6.eval 36 (by omega)).trans (show _ = Value.pointer (some ⟨kg, j, none⟩) from by simp [upd, e0, e4, e6])]; simp [go_sem, VJ _ hwr]) fun F7 => ?_
            refine lyp F7 rfl HCC rfl (by omega) (wanted_none rfl) (v := Value.pointer (some ⟨rb, 0, none⟩)) (fun wr hwr => by simp only [execOp, (F7.eval 0 (by omega)).trans (show _ = Value.pointer (some ⟨rb, 0, none⟩) from by simp [upd, e0, e4, e6])]; first | rfl | simp [go_sem]) fun F8 => ?_
            refine lyp F8 rfl HCC rfl (by omega) (wanted_none rfl) (v := Value.pointer (some ⟨rb, 0, none⟩)) (fun wr hwr => by simp only [execOp, (F8.eval 38 (by omega)).trans (show _ = Value.pointer (some ⟨rb, 0, none⟩) from by simp [upd, e0, e4, e6])]; simp [go_sem]) fun F9 => ?_
            refine lyp F9 rfl HCC rfl (by omega) (wanted_none rfl) (v := Value.pointer (some ⟨rb, 3, none⟩)) (fun wr hwr => by simp only [execOp, (F9.eval 39 (by omega)).trans (show _ = Value.pointer (some ⟨rb, 0, none⟩) from by simp [upd, e0, e4, e6])]; simp [go_sem]) fun F10 => ?_
            refine lyp F10 rfl HCC rfl (by omega) (wanted_none rfl) (v := Value.slice (some ⟨kg, 0, none⟩) KL.length kc) (fun wr hwr => by simp only [execOp, (F10.eval 40 (by omega)).trans (show _ = Value.pointer (some ⟨rb, 3, none⟩) from by simp [upd, e0, e4, e6])]; simp [go_sem, V3 _ hwr]) fun F11 => ?_
            refine lyp F11 rfl HCC rfl (by omega) (wanted_none rfl) (v := Value.int .i64 (i : Int)) (fun wr hwr => by simp only [execOp, (F11.eval 4 (by omega)).trans (show _ = Value.int .i64 (i : Int) from by simp [upd, e0, e4, e6])]; first | rfl | simp [go_sem]) fun F12 => ?_
            refine lyp F12 rfl HCC rfl (by omega) (wanted_none rfl) (v := Value.pointer (some ⟨kg, i, none⟩)) (fun wr hwr => by simp only [execOp, (F12.eval 41 (by omega)).trans (show _ = Value.slice (some ⟨kg, 0, none⟩) KL.length kc from by simp [upd, e0, e4, e6]), (F12.eval 42 (by omega)).trans (show _ = Value.int .i64 (i : Int) from by simp [upd, e0, e4, e6])]; simp [go_sem, hil]) fun F13 => ?_
            refine lyp F13 rfl HCC rfl (by omega) (wanted_none rfl) (v := Value.string ⟨x.toArray⟩) (fun wr hwr => by simp only [execOp, (F13.eval 43 (by omega)).trans (show _ = Value.pointer (some ⟨kg, i, none⟩) from by simp [upd, e0, e4, e6])]; simp [go_sem, VI _ hwr]) fun F14 => ?_
            refine lyp F14 rfl HCC rfl (by omega) (wanted_none rfl) (v := Value.bool false) (fun wr hwr => by simp only [execOp, (F14.eval 37 (by omega)).trans (show _ = Value.string ⟨y.toArray⟩ from by simp [upd, e0, e4, e6]), (F14.eval 44 (by omega)).trans (show _ = Value.string ⟨x.toArray⟩ from by simp [upd, e0, e4, e6])]; simp only [binOp_string_lss, sl_raw, HB.out]; first | rfl | simp [go_sem]) fun F15 => ?_
            refine ⟨fun _ => HCC, ?_⟩
            refine hK _ _ ?_
            clear F0 F1 F2 F3 F4 F5 F6 F7 F8 F9 F10 F11 F12 F13 F14 F15 e0 e4 e6 V3 VI VJ
            simp only [Act.put, List.setIfInBounds_toArray, List.set_cons_succ, List.set_cons_zero]

            have HB2 : Hid (Below wo.heap.size wo ({ wr with drawn := wr.drawn + 1 } : World)) := HBQ.out.trans (HCC.mono HBQ.out.size)
            clear HCC XK XI XJ
            go_wp2_with fail
            go_roundw
            case rel => exact ⟨j + 1, by omega, by go_num, by rw [HSU.out]; rfl, HB2.out⟩
            case measure => simp [intOf]; omega
        · have hjn : ¬ (j : Int) < (KL.length : Int) := by omega
          have hr : (KL.take j).countP (fun y => sl y x) = rankOf sl KL x := by rw [List.take_of_length_le (by omega)]; rfl
          rw [hr]
          have hrl := rank_lt sl_irr sl_asy HP.out HS.out (List.mem_of_getElem? HX.out)
          have HPS : Hid _ := Placed.step sl_irr sl_asy HP.out HS.out HA.out.pl HX.out
          generalize rankOf sl KL x = r at *
          have hrow : wr.ownsRow w.heap.size 9 1 (.slice (some ⟨w.heap.size, 0, none⟩) KL.length KL.length) KL.length (flatS outs) := ownsRow_same HA.out.row (fun g e => hbq.block g (ownsRow_lt HA.out.row e).2)
          obtain ⟨ho2, hfz, u, hcz⟩ := own_setS hrow hrl x
          have HFI : Hid (AllI w KL.length KL (i + 1) (outs.set r x) (wr.setCell ⟨w.heap.size, r, none⟩ (.string ⟨x.toArray⟩))) := ⟨HPS.out, ho2, (HA.out.bel.trans (hbq.mono HA.out.bel.size)).trans ⟨rfl, rfl, rfl, by simp [World.setCell], fun k hk => Below.heap_setCell _ _ _ _ (Nat.ne_of_lt hk)⟩⟩
          have hrli : (r : Int) < (KL.length : Int) := by omega
          clear hrow ho2 hbq hTq hr
          go_wp2_with fail
          go_roundw
          case rel => exact ⟨i + 1, by omega, by go_num, _, HFI.out⟩
          case measure => simp [intOf]; omega
    · have hin : ¬ (i : Int) < (KL.length : Int) := by omega
      obtain rfl : i = KL.length := by omega
      have hd := hA.pl.done sl_irr sl_asy HP.out HS.out
      subst hd
      have HA : Hid _ := hA
      have HLN : Hid (outs.length = KL.length) := HP.out.length_eq
      clear hA
      go_wp2_with fail
      go_ret
      exact ⟨_, rfl, by rw [HLN.out]; exact HA.out.row, HA.out.bel⟩
end Go.Proofs.Ytbjlaloofpdbfaa
