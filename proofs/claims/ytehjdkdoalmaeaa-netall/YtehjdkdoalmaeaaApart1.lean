import Derived.Test.YtehjdkdoalmaeaaApartB
namespace Go.Proofs.Ytehjdkdoalmaeaa
open Go.RowKit Go.PlainAid
set_option linter.unusedVariables false
set_option linter.unusedSimpArgs false
structure SameW (w W : World) : Prop where
  heap : W.heap = w.heap
  os : W.os = w.os
  tape : W.tape = w.tape
  output : W.output = w.output
theorem SameW.cell {w W : World} (h : SameW w W) (a : Addr) : W.cell? a = w.cell? a := by
  simp only [World.cell?, h.heap]
theorem SameW.from_ {w W : World} (h : SameW w W) {ao : Option Addr} {bs : List UInt8} (hf : From w ao bs) : From W ao bs := hf.keep fun b _ _ => by rw [h.heap]
set_option maxRecDepth 100000 in
set_option maxHeartbeats 12800000 in
theorem apart_any {L pb hbn hbr room n : Nat} {s : PS} (w : World) (h : PInv L pb hbn hbr room s w) (hF : PFull s) (hc : PCnt n s) (hn : n ≤ 3000) (hLw : L ≤ w.heap.size) :
    Calls Try.prog 25 #[.pointer (some ⟨pb, 0, none⟩)] w fun e w' => e = .returned (.bool true) ∧ PStp pb hbn hbr s s w w' := by
  have hA0 := apart_start h
  have hTw := h.were
  have c6' := h.cell 6
  have c7' := h.cell 7
  have hlN : s.ls.length ≤ 3000 := Nat.le_trans hc.ls hn
  have hwl : s.ws.length = s.ls.length := by rw [hF.same, List.length_map]
  have hrows := h.lefts
  have hdsl : (s.ls.map Dat.d).length = s.ls.length := List.length_map _
  obtain ⟨vo, vc, hvf, hvc, hat⟩ := tail_form hA0.left
  rw [hdsl] at hvf hvc hat
  obtain ⟨wo, wc, hvw, _, hwat⟩ := tail_form hTw
  rw [hwl] at hvw hwat
  have c6 : w.cell? ⟨pb, 6, none⟩ = some (.slice vo s.ls.length vc) := by rw [c6', ← hvf]; rfl
  have c7 : w.cell? ⟨pb, 7, none⟩ = some (.slice wo s.ls.length wc) := by rw [c7', ← hvw]; rfl
  have HP : Hid _ := h
  have HA : Hid _ := hA0
  have HR : Hid _ := hrows
  have HT : Hid _ := hat
  have HW : Hid _ := hwat
  clear h hA0 hrows hat hwat hTw c6' c7' hwl
  go_enter Try.func25, Try.ntmps25
  go_wp2_with fail
  go_loopw [3] (fun (i : Value) (wr : World) => ∃ k : Nat, k ≤ s.ls.length ∧ i = .int .i64 k ∧ SameW w wr) (fun i _ => s.ls.length - (intOf i).toNat)
  case atStart => exact ⟨0, Nat.zero_le _, rfl, ⟨rfl, rfl, rfl, rfl⟩⟩
  case round =>
    obtain ⟨k, hk, rfl, hS⟩ := hrel
    rename World => wr
    have d6 : wr.cell? ⟨pb, 6, none⟩ = some (.slice vo s.ls.length vc) := (hS.cell _).trans c6
    by_cases hlt : k < s.ls.length
    · obtain ⟨⟨d, bs⟩, hx⟩ : ∃ x, s.ls[k]? = some x := ⟨s.ls[k]'hlt, List.getElem?_eq_getElem _⟩
      obtain ⟨g, off, rfl, hcc⟩ := HT.out (by omega)
      obtain ⟨g2, off2, rfl, hc2⟩ := HW.out (by omega)
      have ho := HR.out _ (List.mem_of_getElem? hx)
      simp only at ho
      obtain ⟨dao, dcap, rfl, q1, q2, hfr, q3⟩ := own_from ho
      clear q1 q2 q3
      have e1 : w.cell? ⟨g, off + k, none⟩ = some (.slice dao bs.length dcap) := hcc k _ (by rw [List.getElem?_map, hx]; rfl)
      have e2 : w.cell? ⟨g2, off2 + k, none⟩ = some (Str bs) := hc2 k _ (by rw [List.getElem?_map, hF.same, List.getElem?_map, hx]; rfl)
      clear hcc hc2 ho
      have HS : Hid _ := hS
      have HF : Hid _ := hfr
      clear hS hfr
      go_wp2_with fail
      have hS := HS.out
      have hfr : From w dao bs := HF.out
      clear HS HF
      rename_i K hK
      try rw [show ∀ a : Act, a.put none undef = a from fun _ => rfl]
      refine wp_region_mix (SameW w) (fun i => i == 15) 15 (by kernel_rfl) rfl (by kernel_rfl) (by kernel_rfl) (by kernel_rfl) ?_
      have hC : SameW w ({ wr with drawn := wr.drawn + 1 } : World) := ⟨hS.heap, hS.os, hS.tape, hS.output⟩
      generalize ({ wr with drawn := wr.drawn + 1 } : World) = X at *
      refine withFrP (N := 180) rfl ?_
      intro f0 F0 hff
      have hs0 : f0 0 = Value.pointer (some ⟨pb, 0, none⟩) := hff 0
      have hs3 : f0 3 = Value.int .i64 (k : Nat) := hff 3
      clear hff
      refine lyp F0 rfl hC rfl (by omega) (wanted_none rfl) (v := Value.pointer (some ⟨pb, 0, none⟩)) (fun wr hwr => by simp only [execOp, (F0.eval 0 (by omega)).trans (show _ = Value.pointer (some ⟨pb, 0, none⟩) from by simp [upd, hs0, hs3])]; first | rfl | simp [go_sem]) fun F1 => ?_
      refine lyp F1 rfl hC rfl (by omega) (wanted_none rfl) (v := Value.pointer (some ⟨pb, 0, none⟩)) (fun wr hwr => by simp only [execOp, (F1.eval 22 (by omega)).trans (show _ = Value.pointer (some ⟨pb, 0, none⟩) from by simp [upd, hs0, hs3])]; first | rfl | simp [go_sem]) fun F2 => ?_
      refine lyp F2 rfl hC rfl (by omega) (wanted_none rfl) (v := Value.pointer (some ⟨pb, 6, none⟩)) (fun wr hwr => by simp only [execOp, (F2.eval 23 (by omega)).trans (show _ = Value.pointer (some ⟨pb, 0, none⟩) from by simp [upd, hs0, hs3])]; first | rfl | simp [go_sem]) fun F3 => ?_
      refine lyp F3 rfl hC rfl (by omega) (wanted_none rfl) (v := Value.slice (some ⟨g, off, none⟩) s.ls.length vc) (fun wr hwr => by simp only [execOp, (F3.eval 24 (by omega)).trans (show _ = Value.pointer (some ⟨pb, 6, none⟩) from by simp [upd, hs0, hs3])]; simp [go_sem, ((hwr.cell ⟨pb, 6, none⟩).trans c6)]) fun F4 => ?_
      refine lyp F4 rfl hC rfl (by omega) (wanted_none rfl) (v := Value.int .i64 (k : Nat)) (fun wr hwr => by simp only [execOp, (F4.eval 3 (by omega)).trans (show _ = Value.int .i64 (k : Nat) from by simp [upd, hs0, hs3])]; first | rfl | simp [go_sem]) fun F5 => ?_
      refine lyp F5 rfl hC rfl (by omega) (wanted_none rfl) (v := Value.pointer (some ⟨g, off + k, none⟩)) (fun wr hwr => by simp only [execOp, (F5.eval 25 (by omega)).trans (show _ = Value.slice (some ⟨g, off, none⟩) s.ls.length vc from by simp [upd, hs0, hs3]), (F5.eval 26 (by omega)).trans (show _ = Value.int .i64 (k : Nat) from by simp [upd, hs0, hs3])]; simp [go_sem, hlt]) fun F6 => ?_
      refine lyp F6 rfl hC rfl (by omega) (wanted_none rfl) (v := Value.slice dao bs.length dcap) (fun wr hwr => by simp only [execOp, (F6.eval 27 (by omega)).trans (show _ = Value.pointer (some ⟨g, off + k, none⟩) from by simp [upd, hs0, hs3])]; simp [go_sem, ((hwr.cell ⟨g, off + k, none⟩).trans e1)]) fun F7 => ?_
      refine lyp F7 rfl hC rfl (by omega) (wanted_none rfl) (v := Str bs) (fun wr hwr => by simp only [execOp, (F7.eval 28 (by omega)).trans (show _ = Value.slice dao bs.length dcap from by simp [upd, hs0, hs3]), Sem.run_bind, conv_run wr dao bs.length dcap bs rfl (hwr.from_ hfr), Result.andThen_ok, Sem.run_pure]; rfl) fun F8 => ?_
      refine lyp F8 rfl hC rfl (by omega) (wanted_none rfl) (v := Value.pointer (some ⟨pb, 0, none⟩)) (fun wr hwr => by simp only [execOp, (F8.eval 0 (by omega)).trans (show _ = Value.pointer (some ⟨pb, 0, none⟩) from by simp [upd, hs0, hs3])]; first | rfl | simp [go_sem]) fun F9 => ?_
      refine lyp F9 rfl hC rfl (by omega) (wanted_none rfl) (v := Value.pointer (some ⟨pb, 0, none⟩)) (fun wr hwr => by simp only [execOp, (F9.eval 30 (by omega)).trans (show _ = Value.pointer (some ⟨pb, 0, none⟩) from by simp [upd, hs0, hs3])]; first | rfl | simp [go_sem]) fun F10 => ?_
      refine lyp F10 rfl hC rfl (by omega) (wanted_none rfl) (v := Value.pointer (some ⟨pb, 7, none⟩)) (fun wr hwr => by simp only [execOp, (F10.eval 31 (by omega)).trans (show _ = Value.pointer (some ⟨pb, 0, none⟩) from by simp [upd, hs0, hs3])]; first | rfl | simp [go_sem]) fun F11 => ?_
      refine lyp F11 rfl hC rfl (by omega) (wanted_none rfl) (v := Value.slice (some ⟨g2, off2, none⟩) s.ls.length wc) (fun wr hwr => by simp only [execOp, (F11.eval 32 (by omega)).trans (show _ = Value.pointer (some ⟨pb, 7, none⟩) from by simp [upd, hs0, hs3])]; simp [go_sem, ((hwr.cell ⟨pb, 7, none⟩).trans c7)]) fun F12 => ?_
      refine lyp F12 rfl hC rfl (by omega) (wanted_none rfl) (v := Value.int .i64 (k : Nat)) (fun wr hwr => by simp only [execOp, (F12.eval 3 (by omega)).trans (show _ = Value.int .i64 (k : Nat) from by simp [upd, hs0, hs3])]; first | rfl | simp [go_sem]) fun F13 => ?_
      refine lyp F13 rfl hC rfl (by omega) (wanted_none rfl) (v := Value.pointer (some ⟨g2, off2 + k, none⟩)) (fun wr hwr => by simp only [execOp, (F13.eval 33 (by omega)).trans (show _ = Value.slice (some ⟨g2, off2, none⟩) s.ls.length wc from by simp [upd, hs0, hs3]), (F13.eval 34 (by omega)).trans (show _ = Value.int .i64 (k : Nat) from by simp [upd, hs0, hs3])]; simp [go_sem, hlt]) fun F14 => ?_
      refine lyp F14 rfl hC rfl (by omega) (wanted_none rfl) (v := Str bs) (fun wr hwr => by simp only [execOp, (F14.eval 35 (by omega)).trans (show _ = Value.pointer (some ⟨g2, off2 + k, none⟩) from by simp [upd, hs0, hs3])]; simp [go_sem, ((hwr.cell ⟨g2, off2 + k, none⟩).trans e2)]) fun F15 => ?_
      refine lep F15 rfl hC rfl (by omega) (wanted_none rfl) (v := Value.bool false) (w1 := X) (by simp only [execOp, (F15.eval 29 (by omega)).trans (show _ = Str bs from by simp [upd, hs0, hs3]), (F15.eval 36 (by omega)).trans (show _ = Str bs from by simp [upd, hs0, hs3])]; simp [go_sem, Str]) fun F16 => ?_
      refine ⟨fun _ => hC, ?_⟩
      refine hK _ _ ?_
      clear F0 F1 F2 F3 F4 F5 F6 F7 F8 F9 F10 F11 F12 F13 F14 F15 F16 hs0 hs3 hS
      simp only [Act.put, List.setIfInBounds_toArray, List.set_cons_succ, List.set_cons_zero]
      have HS : Hid _ := hC
      clear hC hK
      go_wp2_with fail
      go_roundw
      case rel => exact ⟨k + 1, by omega, by go_num, HS.out⟩
      case measure => simp [intOf]; omega
    · have HS : Hid _ := hS
      clear hS
      go_wp2_with fail
      have hS := HS.out
      clear HS d6 c7 HW
      have hA1 : ASt L pb s.vf (s.ls.map Dat.d) (bfk (fun m : Nat => ((s.ls[m]?).map Dat.bs).getD []) 0) wr := (HA.out.same (W2 := wr) (fun j _ => by rw [hS.heap])).congr fun m _ => bfk_zero (fun m : Nat => ((s.ls[m]?).map Dat.bs).getD []) m
      have hog : ∀ m, m < s.ls.length → ((fun m : Nat => ((s.ls[m]?).map Dat.bs).getD []) m).length ≤ 1048576 := fun m hm => by
        show (((s.ls[m]?).map Dat.bs).getD []).length ≤ 1048576
        rw [List.getElem?_eq_getElem hm]
        exact hc.small _ (List.getElem_mem hm)
      have hFr1 : Frm (s.ls.map Dat.d) w wr := ⟨hS.os, hS.tape, hS.output, by rw [hS.heap]; exact Nat.le_refl _, fun j _ _ => by rw [hS.heap]⟩
      clear HA HR hS HT hk hlt c6
      generalize (fun m : Nat => ((s.ls[m]?).map Dat.bs).getD []) = og at *
      generalize hds : s.ls.map Dat.d = ds at *
      go_loopw [4, 5] (fun (i : Value) (_ : Value) (wq : World) => ∃ k : Nat, k ≤ s.ls.length ∧ i = .int .i64 k ∧ ASt L pb s.vf ds (bfk og k) wq ∧ Frm ds w wq) (fun i _ _ => s.ls.length - (intOf i).toNat)
      case atStart => exact ⟨0, Nat.zero_le _, rfl, hA1, hFr1⟩
      case round =>
        obtain ⟨k, hk, rfl, hA, hFr⟩ := hrel
        rename World => wq
        clear hA1 hFr1
        obtain ⟨C, hbox, hC6⟩ := hA.box
        have d6 : wq.cell? ⟨pb, 6, none⟩ = some (.slice vo s.ls.length vc) := by rw [cell_of_row wq pb 6 C 65 (0, 0) hbox, hC6, hvf]
        by_cases hlt : k < s.ls.length
        · obtain ⟨d, hd⟩ : ∃ d, ds[k]? = some d := ⟨ds[k]'(by omega), List.getElem?_eq_getElem _⟩
          obtain ⟨vo', vc', hvf', q1, hat⟩ := tail_form hA.left
          rw [hvf, hdsl] at hvf'
          cases hvf'
          obtain ⟨g, off, rfl, hcc⟩ := hat (by omega)
          have e1 := hcc k d hd
          have ho := hA.rows k d hd
          rw [bfk_len] at ho
          have hnk := hog k hlt
          obtain ⟨dao, dcap, rfl, q2⟩ := own_slice ho
          clear q1 q2
          have hmem := List.mem_of_getElem? hd
          clear hcc hat ho hbox hC6
          have HA : Hid _ := hA
          have HFr : Hid _ := hFr
          have HOG : Hid _ := hog
          have HVF : Hid _ := hvf
          have HDS : Hid _ := hds
          have HDL : Hid _ := hdsl
          clear hA hFr hog hvf hds hdsl
          generalize hnn : (og k).length = nk at *
          have HNN : Hid _ := hnn
          clear hnn
          go_wp2_with fail
          have hA2 : ASt L pb s.vf ds (bfj og k 0) wq := HA.out.congr fun m _ => bfj_zero og k m
          go_loopw [5] (fun (jv : Value) (wi : World) => ∃ j : Nat, j ≤ nk ∧ jv = .int .i64 j ∧ ASt L pb s.vf ds (bfj og k j) wi ∧ Frm ds w wi) (fun jv _ => nk - (intOf jv).toNat)
          case atStart => exact ⟨0, Nat.zero_le _, rfl, hA2, HFr.out⟩
          case round =>
            obtain ⟨j, hj, rfl, hAi, hFi⟩ := hrel
            rename World => wi
            clear hA2 d6 e1
            obtain ⟨C, hbox, hC6⟩ := hAi.box
            have d6 : wi.cell? ⟨pb, 6, none⟩ = some (.slice (some ⟨g, off, none⟩) s.ls.length vc) := by rw [cell_of_row wi pb 6 C 65 (0, 0) hbox, hC6, HVF.out]
            obtain ⟨vo', vc', hvf', q1, hat⟩ := tail_form hAi.left
            rw [HVF.out, HDL.out] at hvf'
            clear q1
            cases hvf'
            obtain ⟨g', off', ee, hcc⟩ := hat (by rw [HDL.out]; omega)
            cases ee
            have e1 := hcc k _ hd
            clear hcc hat hbox hC6
            by_cases hjl : j < nk
            · have ho := hAi.rows k _ hd
              rw [bfj_len og k j (by rw [HNN.out]; omega), HNN.out] at ho
              obtain ⟨gd, rfl⟩ : ∃ gd, dao = some ⟨gd, 0, none⟩ := by
                rcases ho.2 with ⟨q, h0⟩ | ⟨gd, cap, cur, q, _⟩
                · omega
                · cases q; exact ⟨gd, rfl⟩
              have HI : Hid _ := hAi
              have HO : Hid _ := ho
              have HFi : Hid _ := hFi
              clear hAi ho hFi
              go_wp2_with fail
              have hAi := HI.out
              have hFi := HFi.out
              have ho : wi.ownsRow L 5 1 (.slice (some ⟨gd, 0, none⟩) nk dcap) nk ((bfj og k j k).map B) := HO.out
              clear HI HO HFi
              rename_i K hK
              try rw [show ∀ a : Act, a.put none undef = a from fun _ => rfl]
              refine wp_region_mix (fun wr => wr.cell? ⟨pb, 6, none⟩ = some (Value.slice (some ⟨g, off, none⟩) s.ls.length vc) ∧ wr.cell? ⟨g, off + k, none⟩ = some (Value.slice (some ⟨gd, 0, none⟩) nk dcap)) (fun i => i == 10 || i == 12) 12 (by kernel_rfl) rfl (by kernel_rfl) (by kernel_rfl) (by kernel_rfl) ?_
              have hC : ({ wi with drawn := wi.drawn + 1 } : World).cell? ⟨pb, 6, none⟩ = some (Value.slice (some ⟨g, off, none⟩) s.ls.length vc) ∧ ({ wi with drawn := wi.drawn + 1 } : World).cell? ⟨g, off + k, none⟩ = some (Value.slice (some ⟨gd, 0, none⟩) nk dcap) := ⟨d6, e1⟩
              have hAd := hAi.drew
              have hFd := hFi.drew
              have hod : ({ wi with drawn := wi.drawn + 1 } : World).ownsRow L 5 1 (.slice (some ⟨gd, 0, none⟩) nk dcap) nk ((bfj og k j k).map B) := ownsRow_same ho fun _ _ => rfl
              generalize ({ wi with drawn := wi.drawn + 1 } : World) = X at *
              obtain ⟨cur, hcur⟩ := ownsRow_type hod (g := gd) rfl
              have hbl : (bfj og k j k).length = nk := by rw [bfj_len og k j (by rw [HNN.out]; omega), HNN.out]
              have hcell : ∃ x, X.cell? ⟨gd, j, none⟩ = some x := by
                obtain ⟨y, hy⟩ : ∃ y, (bfj og k j k)[j]? = some y := ⟨(bfj og k j k)[j]'(by omega), List.getElem?_eq_getElem _⟩
                have := hod.cells (g := gd) rfl j (B y) (by rw [List.getElem?_map, hy]; rfl)
                rw [addr_add, Nat.zero_add] at this
                exact ⟨_, this⟩
              obtain ⟨x0, hx0⟩ := hcell
              have hz0 : X.frozen? ⟨gd, j, none⟩ = false := by simp [World.frozen?, hcur]
              refine withFrP (N := 180) rfl ?_
              intro f0 F0 hff
              have hs0 : f0 0 = Value.pointer (some ⟨pb, 0, none⟩) := hff 0
              have hs4 : f0 4 = Value.int .i64 (k : Nat) := hff 4
              have hs5 : f0 5 = Value.int .i64 (j : Nat) := hff 5
              clear hff
              refine lyp F0 rfl hC rfl (by omega) (wanted_none rfl) (v := Value.pointer (some ⟨pb, 0, none⟩)) (fun wr hwr => by simp only [execOp, (F0.eval 0 (by omega)).trans (show _ = Value.pointer (some ⟨pb, 0, none⟩) from by simp [upd, hs0, hs4, hs5])]; first | rfl | simp [go_sem]) fun F1 => ?_
              refine lyp F1 rfl hC rfl (by omega) (wanted_none rfl) (v := Value.pointer (some ⟨pb, 0, none⟩)) (fun wr hwr => by simp only [execOp, (F1.eval 59 (by omega)).trans (show _ = Value.pointer (some ⟨pb, 0, none⟩) from by simp [upd, hs0, hs4, hs5])]; first | rfl | simp [go_sem]) fun F2 => ?_
              refine lyp F2 rfl hC rfl (by omega) (wanted_none rfl) (v := Value.pointer (some ⟨pb, 6, none⟩)) (fun wr hwr => by simp only [execOp, (F2.eval 60 (by omega)).trans (show _ = Value.pointer (some ⟨pb, 0, none⟩) from by simp [upd, hs0, hs4, hs5])]; first | rfl | simp [go_sem]) fun F3 => ?_
              refine lyp F3 rfl hC rfl (by omega) (wanted_none rfl) (v := Value.slice (some ⟨g, off, none⟩) s.ls.length vc) (fun wr hwr => by simp only [execOp, (F3.eval 61 (by omega)).trans (show _ = Value.pointer (some ⟨pb, 6, none⟩) from by simp [upd, hs0, hs4, hs5])]; simp [go_sem, hwr.1]) fun F4 => ?_
              refine lyp F4 rfl hC rfl (by omega) (wanted_none rfl) (v := Value.int .i64 (k : Nat)) (fun wr hwr => by simp only [execOp, (F4.eval 4 (by omega)).trans (show _ = Value.int .i64 (k : Nat) from by simp [upd, hs0, hs4, hs5])]; first | rfl | simp [go_sem]) fun F5 => ?_
              refine lyp F5 rfl hC rfl (by omega) (wanted_none rfl) (v := Value.pointer (some ⟨g, off + k, none⟩)) (fun wr hwr => by simp only [execOp, (F5.eval 62 (by omega)).trans (show _ = Value.slice (some ⟨g, off, none⟩) s.ls.length vc from by simp [upd, hs0, hs4, hs5]), (F5.eval 63 (by omega)).trans (show _ = Value.int .i64 (k : Nat) from by simp [upd, hs0, hs4, hs5])]; simp [go_sem, hlt]) fun F6 => ?_
              refine lyp F6 rfl hC rfl (by omega) (wanted_none rfl) (v := Value.slice (some ⟨gd, 0, none⟩) nk dcap) (fun wr hwr => by simp only [execOp, (F6.eval 64 (by omega)).trans (show _ = Value.pointer (some ⟨g, off + k, none⟩) from by simp [upd, hs0, hs4, hs5])]; simp [go_sem, hwr.2]) fun F7 => ?_
              refine lyp F7 rfl hC rfl (by omega) (wanted_none rfl) (v := Value.int .i64 (j : Nat)) (fun wr hwr => by simp only [execOp, (F7.eval 5 (by omega)).trans (show _ = Value.int .i64 (j : Nat) from by simp [upd, hs0, hs4, hs5])]; first | rfl | simp [go_sem]) fun F8 => ?_
              refine lyp F8 rfl hC rfl (by omega) (wanted_none rfl) (v := Value.int .i64 (k : Nat)) (fun wr hwr => by simp only [execOp, (F8.eval 4 (by omega)).trans (show _ = Value.int .i64 (k : Nat) from by simp [upd, hs0, hs4, hs5])]; first | rfl | simp [go_sem]) fun F9 => ?_
              refine lyp F9 rfl hC rfl (by omega) (wanted_none rfl) (v := Value.int .i64 (j : Nat)) (fun wr hwr => by simp only [execOp, (F9.eval 5 (by omega)).trans (show _ = Value.int .i64 (j : Nat) from by simp [upd, hs0, hs4, hs5])]; first | rfl | simp [go_sem]) fun F10 => ?_
              refine lcp F10 rfl hC rfl (by omega) (wanted_none rfl) (g := 39) (args := #[Value.int .i64 (k : Nat), Value.int .i64 (j : Nat)]) (by simp only [execOp, resolve, invoke, List.map_toArray, List.map_cons, List.map_nil, (F10.eval 67 (by omega)).trans (show _ = Value.int .i64 (k : Nat) from by simp [upd, hs0, hs4, hs5]), (F10.eval 68 (by omega)).trans (show _ = Value.int .i64 (j : Nat) from by simp [upd, hs0, hs4, hs5])]; simp [go_sem, Act.eval]) (sign_any k j (by omega) (by omega) X) ?_
              rintro e9 X9 ⟨rfl, rfl⟩
              refine ⟨_, rfl, fun F11 => ?_⟩
              refine lyp F11 rfl hC rfl (by omega) (wanted_none rfl) (v := Value.pointer (some ⟨gd, j, none⟩)) (fun wr hwr => by simp only [execOp, (F11.eval 65 (by omega)).trans (show _ = Value.slice (some ⟨gd, 0, none⟩) nk dcap from by simp [upd, hs0, hs4, hs5]), (F11.eval 66 (by omega)).trans (show _ = Value.int .i64 (j : Nat) from by simp [upd, hs0, hs4, hs5])]; simp [go_sem, hjl]) fun F12 => ?_
              refine lst rfl hC rfl (wanted_none rfl) (w1 := X9.setCell ⟨gd, j, none⟩ (.int .u8 ((sgN k j : Nat) : Int))) (by simp only [execOp, (F12.eval 70 (by omega)).trans (show _ = Value.pointer (some ⟨gd, j, none⟩) from by simp [upd, hs0, hs4, hs5]), (F12.eval 69 (by omega)).trans (show _ = Value.int .u8 ((sgN k j : Nat) : Int) from by simp [upd, hs0, hs4, hs5])]; simp [go_sem, hz0, hx0]) ?_
              have hset := own_set hod (sg k j) hjl
              rw [show B (sg k j) = Value.int .u8 ((sgN k j : Nat) : Int) from by rw [B, sg_nat]] at hset
              have hkk : ∀ i, i < X9.heap.size → Value.ownBlock (.slice (some ⟨gd, 0, none⟩) nk dcap) ≠ some i → (X9.setCell ⟨gd, j, none⟩ (.int .u8 ((sgN k j : Nat) : Int))).heap[i]? = X9.heap[i]? := fun i _ hi => Below.heap_setCell _ _ _ _ (fun e => hi (by rw [e]; rfl))
              have hA3 := hAd.turn hd ((bfj og k j k).set j (sg k j)) (W2 := X9.setCell ⟨gd, j, none⟩ (.int .u8 ((sgN k j : Nat) : Int))) (by rw [List.length_set, hbl]; exact hset) hkk (bf' := bfj og k (j + 1)) (fun m => bfj_step og k j m (by rw [HNN.out]; exact hjl))
              have hF3 := hFd.turn hmem (W2 := X9.setCell ⟨gd, j, none⟩ (.int .u8 ((sgN k j : Nat) : Int))) ⟨rfl, rfl, rfl, by simp [World.setCell]⟩ hkk
              refine ⟨fun h => by omega, ?_⟩
              refine hK _ _ ?_
              clear F0 F1 F2 F3 F4 F5 F6 F7 F8 F9 F10 F11 F12 hs0 hs4 hs5 hC hAd hFd hod hcur hx0 hz0 hset hkk hAi hFi ho d6 e1 hK
              simp only [Act.put, List.setIfInBounds_toArray, List.set_cons_succ, List.set_cons_zero]
              have HI : Hid _ := hA3
              have HFi : Hid _ := hF3
              clear hA3 hF3 hbl
              generalize (X9.setCell ⟨gd, j, none⟩ (.int .u8 ((sgN k j : Nat) : Int))) = X10 at *
              go_wp2_with fail
              go_roundw
              case rel => exact ⟨j + 1, by omega, by go_num, HI.out, HFi.out⟩
              case measure => simp [intOf]; omega
            · obtain rfl : j = nk := by omega
              have HI : Hid _ := hAi
              have HFi : Hid _ := hFi
              clear hAi hFi
              go_wp2_with fail
              go_roundw
              case rel => exact ⟨k + 1, by omega, by go_num, HI.out.congr fun m _ => bfj_end og k j m HNN.out.symm, HFi.out⟩
              case measure => simp [intOf]; omega
        · obtain rfl : k = s.ls.length := by omega
          have HA : Hid _ := hA
          have HFr : Hid _ := hFr
          clear hA hFr hbox hC6
          go_wp2_with fail
          have hA := HA.out
          have hFr := HFr.out
          clear HA HFr d6
          have hbl : ∀ m, m < s.ls.length → (bfk og s.ls.length m).length ≤ 1048576 := fun m hm => by rw [bfk_len]; exact hog m hm
          have hsg : ∀ m, m < s.ls.length → bfk og s.ls.length m = sgl m (bfk og s.ls.length m).length := fun m hm => by
            rw [bfk_len]
            unfold bfk
            rw [if_pos hm]
          have hF0 : FSt L pb s.vf ds (bfk og s.ls.length) wq.heap.size (.slice none 0 0) [] wq := ⟨hA, tail_nil _ _ _, fun m e he => by simp at he, fun m e d j he => by simp at he, fun m d j hd hj => ((hA.rows m d hd).lt j hj).2, fun j hj => (tail_lt hA.left j hj).2, Nat.le_refl _⟩
          have hH0 : w.heap.size ≤ wq.heap.size := hFr.size
          generalize bfk og s.ls.length = bf at *
          generalize wq.heap.size = H0 at *
          have HBL : Hid _ := hbl
          have HSG : Hid _ := hsg
          have HDS : Hid _ := hds
          have HDL : Hid _ := hdsl
          have HVF : Hid _ := hvf
          clear hbl hsg hog hA hds hdsl hvf hvw hvc
          go_loopw [6, 7, 8, 9] (fun (far : Value) (i : Value) (_ : Value) (_ : Value) (wx : World) => ∃ k : Nat, k ≤ s.ls.length ∧ i = .int .i64 k ∧ FRel L pb s.vf ds bf H0 w far k wx) (fun _ i _ _ _ => s.ls.length - (intOf i).toNat)
          case atStart => exact ⟨0, Nat.zero_le _, rfl, [], rfl, hF0, hFr⟩
          case round =>
            obtain ⟨k, hk, rfl, es, hes, hF, hFr⟩ := hrel
            rename World => wm
            clear hF0
            obtain ⟨C, hbox, hC6⟩ := hF.ast.box
            have d6 : wm.cell? ⟨pb, 6, none⟩ = some (.slice vo s.ls.length vc) := by rw [cell_of_row wm pb 6 C 65 (0, 0) hbox, hC6, HVF.out]
            by_cases hlt : k < s.ls.length
            · obtain ⟨d, hd⟩ : ∃ d, ds[k]? = some d := ⟨ds[k]'(by rw [HDL.out]; omega), List.getElem?_eq_getElem _⟩
              obtain ⟨vo', vc', hvf', q1, hat⟩ := tail_form hF.ast.left
              rw [HVF.out, HDL.out] at hvf'
              clear q1
              cases hvf'
              obtain ⟨g, off, rfl, hcc⟩ := hat (by rw [HDL.out]; omega)
              have e1 := hcc k d hd
              have ho := hF.ast.rows k d hd
              obtain ⟨dao, dcap, rfl, q2⟩ := own_slice ho
              have hG0 := GIn.start (k := k) ho
              have hnk := HBL.out k hlt
              clear q2 hcc hat hbox hC6 ho
              have HF2 : Hid _ := hF
              have HFr2 : Hid _ := hFr
              have HG0 : Hid _ := hG0
              have HES : Hid _ := hes
              clear hF hFr hG0 hes
              generalize hbb : bf k = bb at *
              have HBB : Hid _ := hbb
              clear hbb
              go_wp2_with fail
              go_loopw [8, 9] (fun (v : Value) (jv : Value) (wi : World) => ∃ j : Nat, j ≤ 100 ∧ jv = .int .i64 j ∧ GIn L (.slice dao bb.length dcap) bb k wm v j wi) (fun _ jv _ => 100 - (intOf jv).toNat)
              case atStart => exact ⟨0, by omega, rfl, HG0.out⟩
              case round =>
                obtain ⟨j, hj, rfl, hG⟩ := hrel
                rename World => wi
                clear HG0 d6 e1
                have hLi : L ≤ wi.heap.size := by have h1 := hG.size; have h2 := HFr2.out.size; omega
                have hrow := hG.row
                obtain ⟨vo2, vc2, hv2, q3⟩ := own_slice hrow
                clear q3
                subst hv2
                by_cases hjl : j < 100
                · have hsign := sign_any (k + 1) j (by omega) (by omega) wi
                  rw [show ((k + 1 : Nat) : Int) = (k : Int) + 1 from by omega] at hsign
                  have hm : From (wi.alloc (.cells #[.int .u8 (bits BinOp.xor IntKind.u8 ((sgN (k + 1) j : Nat) : Int) 85)] 5)) (some ⟨wi.heap.size, 0, none⟩) [tl k j] := from_mark wi [tl k j] _ _ (by show [Value.int .u8 (tlI k j)] = [tl k j].map B; simp [B, tl_nat])
                  have HG : Hid _ := hG
                  have HRW : Hid _ := hrow
                  clear hG hrow
                  go_wp2_with (first
                    | (go_at_call 39; refine hsign.mono ?_; rintro e39 w39 ⟨rfl, rfl⟩)
                    | (at_builtin; go_must (refine wpList_app1 rfl _ _ rfl L (bb.length + j) _ (bb ++ tls k j) rfl (World.ownsRow.alloc HRW.out _) _ (tl k j) rfl hm (by omega) (by simp; omega) ?_))
                    | fail)
                  intro v' w' hown' hGr hkeep
                  have hG2 : GIn L (.slice dao bb.length dcap) bb k wm v' (j + 1) w' := GIn.step HG.out (by simpa using hown') hGr hkeep
                  clear hown' hGr hkeep hsign hm HG HRW
                  have HG : Hid _ := hG2
                  clear hG2
                  go_wp2_with fail
                  go_roundw
                  case rel => exact ⟨j + 1, by omega, by go_num, HG.out⟩
                  case measure => simp [intOf]; omega
                · obtain rfl : j = 100 := by omega
                  have hT : Tail wi H0 29 u6 k es := by
                    have := HF2.out.farT
                    rw [HES.out] at this
                    refine tail_same this fun b hb => hG.block b (tail_lt this b hb).2 fun q => ?_
                    have h1 := HF2.out.low k _ b hd q
                    have h2 := (tail_lt this b hb).1
                    omega
                  have hiH : H0 ≤ wi.heap.size := Nat.le_trans HF2.out.hi hG.size
                  have HG : Hid _ := hG
                  have HTT : Hid _ := hT
                  clear hG hT hrow
                  go_wp2_with (first
                    | (at_builtin; go_must (refine wpList_far (w0 := wi) rfl _ _ rfl H0 k u6 es rfl (show Tail wi H0 29 u6 k es from HTT.out) _ rfl rfl (by omega) hiH ?_))
                    | fail)
                  intro far' w' hT' hgr'
                  have hFn := FSt.step HF2.out HES.out hd (by rw [HBB.out]; exact HG.out) (by rw [HES.out]; exact hT') hgr'
                  have hFrn := Frm.grow HFr2.out hH0 HF2.out hd HG.out hgr'
                  have hesn : (es ++ [Value.slice vo2 (bb.length + 100) vc2]).length = k + 1 := by simp [HES.out]
                  have HN : Hid (FRel L pb s.vf ds bf H0 w far' (k + 1) w') := ⟨_, hesn, hFn, hFrn⟩
                  clear hFn hFrn hesn hT' hgr' HG HTT hLi hiH
                  go_wp2_with fail
                  go_roundw
                  case rel => exact ⟨k + 1, by omega, by go_num, HN.out⟩
                  case measure => simp [intOf]; omega
            · obtain rfl : k = s.ls.length := by omega
              have HF2 : Hid _ := hF
              have HFr2 : Hid _ := hFr
              have HES : Hid _ := hes
              clear hF hFr hbox hC6 hes
              go_wp2_with fail
              have hF := HF2.out
              have hFr := HFr2.out
              have hes : es.length = s.ls.length := HES.out
              clear HF2 HFr2 HES d6
              have hTf := hF.farT
              rw [hes] at hTf
              obtain ⟨fo, fc, hfar, q4, hfat⟩ := tail_form hTf
              clear q4
              subst hfar
              obtain ⟨C, hbox, hC6⟩ := hF.ast.box
              have c6 : wm.cell? ⟨pb, 6, none⟩ = some (.slice vo s.ls.length vc) := by rw [cell_of_row wm pb 6 C 65 (0, 0) hbox, hC6, HVF.out]
              have HF2 : Hid _ := hF
              have HFr2 : Hid _ := hFr
              have HES : Hid _ := hes
              have HFA : Hid _ := hfat
              clear hF hFr hes hfat hTf hbox hC6
              go_loopw [10, 11, 12] (fun (i : Value) (_ : Value) (_ : Value) (wx : World) => ∃ k : Nat, k ≤ s.ls.length ∧ i = .int .i64 k ∧ SameW wm wx) (fun i _ _ _ => s.ls.length - (intOf i).toNat)
              case atStart => exact ⟨0, Nat.zero_le _, rfl, ⟨rfl, rfl, rfl, rfl⟩⟩
              case round =>
                obtain ⟨k, hk2, rfl, hS⟩ := hrel
                rename World => wx
                have d6 : wx.cell? ⟨pb, 6, none⟩ = some (.slice vo s.ls.length vc) := (hS.cell _).trans c6
                by_cases hlt2 : k < s.ls.length
                · obtain ⟨d, hd⟩ : ∃ d, ds[k]? = some d := ⟨ds[k]'(by rw [HDL.out]; omega), List.getElem?_eq_getElem _⟩
                  obtain ⟨e, he⟩ : ∃ e, es[k]? = some e := ⟨es[k]'(by rw [HES.out]; omega), List.getElem?_eq_getElem _⟩
                  obtain ⟨vo', vc', hvf', q1, hat⟩ := tail_form HF2.out.ast.left
                  rw [HVF.out, HDL.out] at hvf'
                  clear q1
                  cases hvf'
                  obtain ⟨g, off, rfl, hcc⟩ := hat (by rw [HDL.out]; omega)
                  have e1 := hcc k d hd
                  obtain ⟨gf, offf, rfl, hcf⟩ := HFA.out (by omega)
                  have e2 := hcf k e he
                  have ho := HF2.out.ast.rows k d hd
                  have hoe := HF2.out.esR k e he
                  have hnk := HBL.out k hlt2
                  have hsk := HSG.out k hlt2
                  generalize hbb : bf k = bb at *
                  obtain ⟨dao, dcap, rfl, q2, q5, hfd, q6⟩ := own_from ho
                  obtain ⟨eao, ecap, hev, q7, q8, hfe, q9⟩ := own_from hoe
                  subst hev
                  clear q2 q5 q6 q7 q8 q9 hcc hcf hat ho hoe hbb
                  have e1x : wx.cell? ⟨g, off + k, none⟩ = some (.slice dao bb.length dcap) := (hS.cell _).trans e1
                  have e2x : wx.cell? ⟨gf, offf + k, none⟩ = some (.slice eao (bb.length + 100) ecap) := (hS.cell _).trans e2
                  have HS : Hid _ := hS
                  have HFD : Hid _ := hfd
                  have HFE : Hid _ := hfe
                  have HSK : Hid _ := hsk
                  clear hS hfd hfe hsk
                  go_wp2_with fail
                  go_loopw [12] (fun (jv : Value) (wy : World) => ∃ j : Nat, j ≤ bb.length + 100 ∧ jv = .int .i64 j ∧ SameW wm wy) (fun jv _ => bb.length + 100 - (intOf jv).toNat)
                  case atStart => exact ⟨0, by omega, rfl, HS.out⟩
                  case round =>
                    obtain ⟨j, hj, rfl, hSy⟩ := hrel
                    rename World => wy
                    clear d6 e1x e2x
                    have p6 : wy.cell? ⟨pb, 6, none⟩ = some (.slice (some ⟨g, off, none⟩) s.ls.length vc) := (hSy.cell _).trans c6
                    have p1 : wy.cell? ⟨g, off + k, none⟩ = some (.slice dao bb.length dcap) := (hSy.cell _).trans e1
                    have p2 : wy.cell? ⟨gf, offf + k, none⟩ = some (.slice eao (bb.length + 100) ecap) := (hSy.cell _).trans e2
                    by_cases hjl : j < bb.length + 100
                    · obtain ⟨be, oe, rfl, hce⟩ := HFE.out (by simp [tls_len])
                      have hjl' : (j : Int) < (bb.length : Int) + 100 := by omega
                      by_cases hjn : j < bb.length
                      · obtain ⟨bd, od, rfl, hcd⟩ := HFD.out (by omega)
                        have hb1 : bb[j]? = some (sg k j) := by rw [HSK.out]; exact sgl_get _ _ _ hjn
                        have p3 : wm.cell? ⟨bd, od + j, none⟩ = some (.int .u8 ((sgN k j : Nat) : Int)) := by rw [hcd j (sg k j) hb1, B, sg_nat]
                        have p4 : wm.cell? ⟨be, oe + j, none⟩ = some (.int .u8 ((sgN k j : Nat) : Int)) := by rw [hce j (sg k j) (by rw [List.getElem?_append_left hjn]; exact hb1), B, sg_nat]
                        have hjn' : (j : Int) < (bb.length : Int) := by omega
                        have HSY : Hid _ := hSy
                        clear hcd hce hSy hb1
                        go_wp2_with fail
                        have hSy := HSY.out
                        clear HSY
                        rename_i K hK
                        try rw [show ∀ a : Act, a.put none undef = a from fun _ => rfl]
                        refine wp_region_mix (SameW wm) (fun i => i == 16 || i == 28 || i == 53) 53 (by kernel_rfl) rfl (by kernel_rfl) (by kernel_rfl) (by kernel_rfl) ?_
                        have hC : SameW wm ({ wy with drawn := wy.drawn + 1 } : World) := ⟨hSy.heap, hSy.os, hSy.tape, hSy.output⟩
                        clear p6 p1 p2 hSy
                        generalize ({ wy with drawn := wy.drawn + 1 } : World) = X at *
                        refine withFrP (N := 180) rfl ?_
                        intro f0 F0 hff
                        have hs0 : f0 0 = Value.pointer (some ⟨pb, 0, none⟩) := hff 0
                        have hs6 : f0 6 = Value.slice (some ⟨gf, offf, none⟩) s.ls.length fc := hff 6
                        have hs10 : f0 10 = Value.int .i64 (k : Nat) := hff 10
                        have hs11 : f0 11 = Value.int .i64 (bb.length : Nat) := hff 11
                        have hs12 : f0 12 = Value.int .i64 (j : Nat) := hff 12
                        clear hff
                        refine lyp F0 rfl hC rfl (by omega) (wanted_none rfl) (v := Value.int .i64 (j : Nat)) (fun wr hwr => by simp only [execOp, (F0.eval 12 (by omega)).trans (show _ = Value.int .i64 (j : Nat) from by simp [upd, hs0, hs6, hs10, hs11, hs12])]; first | rfl | simp [go_sem]) fun F1 => ?_
                        refine lyp F1 rfl hC rfl (by omega) (wanted_none rfl) (v := Value.int .i64 (bb.length : Nat)) (fun wr hwr => by simp only [execOp, (F1.eval 11 (by omega)).trans (show _ = Value.int .i64 (bb.length : Nat) from by simp [upd, hs0, hs6, hs10, hs11, hs12])]; first | rfl | simp [go_sem]) fun F2 => ?_
                        refine lyp F2 rfl hC rfl (by omega) (wanted_none rfl) (v := Value.bool true) (fun wr hwr => by simp only [execOp, (F2.eval 126 (by omega)).trans (show _ = Value.int .i64 (j : Nat) from by simp [upd, hs0, hs6, hs10, hs11, hs12]), (F2.eval 127 (by omega)).trans (show _ = Value.int .i64 (bb.length : Nat) from by simp [upd, hs0, hs6, hs10, hs11, hs12])]; simp [go_sem, hjn']) fun F3 => ?_
                        refine lyp F3 rfl hC rfl (by omega) (wanted_none rfl) (v := Value.bool true) (fun wr hwr => by simp only [execOp, (F3.eval 128 (by omega)).trans (show _ = Value.bool true from by simp [upd, hs0, hs6, hs10, hs11, hs12])]; first | rfl | simp [go_sem]) fun F4 => ?_
                        refine lyp F4 rfl hC rfl (by omega) (want_yes F4 rfl (e := 129) rfl (by omega) (show _ = Value.bool true from by simp [upd, hs0, hs6, hs10, hs11, hs12])) (v := Value.pointer (some ⟨pb, 0, none⟩)) (fun wr hwr => by simp only [execOp, (F4.eval 0 (by omega)).trans (show _ = Value.pointer (some ⟨pb, 0, none⟩) from by simp [upd, hs0, hs6, hs10, hs11, hs12])]; first | rfl | simp [go_sem]) fun F5 => ?_
                        refine lyp F5 rfl hC rfl (by omega) (want_yes F5 rfl (e := 129) rfl (by omega) (show _ = Value.bool true from by simp [upd, hs0, hs6, hs10, hs11, hs12])) (v := Value.pointer (some ⟨pb, 0, none⟩)) (fun wr hwr => by simp only [execOp, (F5.eval 130 (by omega)).trans (show _ = Value.pointer (some ⟨pb, 0, none⟩) from by simp [upd, hs0, hs6, hs10, hs11, hs12])]; first | rfl | simp [go_sem]) fun F6 => ?_
                        refine lyp F6 rfl hC rfl (by omega) (want_yes F6 rfl (e := 129) rfl (by omega) (show _ = Value.bool true from by simp [upd, hs0, hs6, hs10, hs11, hs12])) (v := Value.pointer (some ⟨pb, 6, none⟩)) (fun wr hwr => by simp only [execOp, (F6.eval 131 (by omega)).trans (show _ = Value.pointer (some ⟨pb, 0, none⟩) from by simp [upd, hs0, hs6, hs10, hs11, hs12])]; first | rfl | simp [go_sem]) fun F7 => ?_
                        refine lyp F7 rfl hC rfl (by omega) (want_yes F7 rfl (e := 129) rfl (by omega) (show _ = Value.bool true from by simp [upd, hs0, hs6, hs10, hs11, hs12])) (v := Value.slice (some ⟨g, off, none⟩) s.ls.length vc) (fun wr hwr => by simp only [execOp, (F7.eval 132 (by omega)).trans (show _ = Value.pointer (some ⟨pb, 6, none⟩) from by simp [upd, hs0, hs6, hs10, hs11, hs12])]; simp [go_sem, ((hwr.cell ⟨pb, 6, none⟩).trans c6)]) fun F8 => ?_
                        refine lyp F8 rfl hC rfl (by omega) (want_yes F8 rfl (e := 129) rfl (by omega) (show _ = Value.bool true from by simp [upd, hs0, hs6, hs10, hs11, hs12])) (v := Value.int .i64 (k : Nat)) (fun wr hwr => by simp only [execOp, (F8.eval 10 (by omega)).trans (show _ = Value.int .i64 (k : Nat) from by simp [upd, hs0, hs6, hs10, hs11, hs12])]; first | rfl | simp [go_sem]) fun F9 => ?_
                        refine lyp F9 rfl hC rfl (by omega) (want_yes F9 rfl (e := 129) rfl (by omega) (show _ = Value.bool true from by simp [upd, hs0, hs6, hs10, hs11, hs12])) (v := Value.pointer (some ⟨g, off + k, none⟩)) (fun wr hwr => by simp only [execOp, (F9.eval 133 (by omega)).trans (show _ = Value.slice (some ⟨g, off, none⟩) s.ls.length vc from by simp [upd, hs0, hs6, hs10, hs11, hs12]), (F9.eval 134 (by omega)).trans (show _ = Value.int .i64 (k : Nat) from by simp [upd, hs0, hs6, hs10, hs11, hs12])]; simp [go_sem, hlt2]) fun F10 => ?_
                        refine lyp F10 rfl hC rfl (by omega) (want_yes F10 rfl (e := 129) rfl (by omega) (show _ = Value.bool true from by simp [upd, hs0, hs6, hs10, hs11, hs12])) (v := Value.slice (some ⟨bd, od, none⟩) bb.length dcap) (fun wr hwr => by simp only [execOp, (F10.eval 135 (by omega)).trans (show _ = Value.pointer (some ⟨g, off + k, none⟩) from by simp [upd, hs0, hs6, hs10, hs11, hs12])]; simp [go_sem, ((hwr.cell ⟨g, off + k, none⟩).trans e1)]) fun F11 => ?_
                        refine lyp F11 rfl hC rfl (by omega) (want_yes F11 rfl (e := 129) rfl (by omega) (show _ = Value.bool true from by simp [upd, hs0, hs6, hs10, hs11, hs12])) (v := Value.int .i64 (j : Nat)) (fun wr hwr => by simp only [execOp, (F11.eval 12 (by omega)).trans (show _ = Value.int .i64 (j : Nat) from by simp [upd, hs0, hs6, hs10, hs11, hs12])]; first | rfl | simp [go_sem]) fun F12 => ?_
                        refine lyp F12 rfl hC rfl (by omega) (want_yes F12 rfl (e := 129) rfl (by omega) (show _ = Value.bool true from by simp [upd, hs0, hs6, hs10, hs11, hs12])) (v := Value.pointer (some ⟨bd, od + j, none⟩)) (fun wr hwr => by simp only [execOp, (F12.eval 136 (by omega)).trans (show _ = Value.slice (some ⟨bd, od, none⟩) bb.length dcap from by simp [upd, hs0, hs6, hs10, hs11, hs12]), (F12.eval 137 (by omega)).trans (show _ = Value.int .i64 (j : Nat) from by simp [upd, hs0, hs6, hs10, hs11, hs12])]; simp [go_sem, hjn]) fun F13 => ?_
                        refine lyp F13 rfl hC rfl (by omega) (want_yes F13 rfl (e := 129) rfl (by omega) (show _ = Value.bool true from by simp [upd, hs0, hs6, hs10, hs11, hs12])) (v := Value.int .u8 ((sgN k j : Nat) : Int)) (fun wr hwr => by simp only [execOp, (F13.eval 138 (by omega)).trans (show _ = Value.pointer (some ⟨bd, od + j, none⟩) from by simp [upd, hs0, hs6, hs10, hs11, hs12])]; simp [go_sem, ((hwr.cell ⟨bd, od + j, none⟩).trans p3)]) fun F14 => ?_
                        refine lyp F14 rfl hC rfl (by omega) (want_yes F14 rfl (e := 129) rfl (by omega) (show _ = Value.bool true from by simp [upd, hs0, hs6, hs10, hs11, hs12])) (v := Value.int .i64 (k : Nat)) (fun wr hwr => by simp only [execOp, (F14.eval 10 (by omega)).trans (show _ = Value.int .i64 (k : Nat) from by simp [upd, hs0, hs6, hs10, hs11, hs12])]; first | rfl | simp [go_sem]) fun F15 => ?_
                        refine lyp F15 rfl hC rfl (by omega) (want_yes F15 rfl (e := 129) rfl (by omega) (show _ = Value.bool true from by simp [upd, hs0, hs6, hs10, hs11, hs12])) (v := Value.int .i64 (j : Nat)) (fun wr hwr => by simp only [execOp, (F15.eval 12 (by omega)).trans (show _ = Value.int .i64 (j : Nat) from by simp [upd, hs0, hs6, hs10, hs11, hs12])]; first | rfl | simp [go_sem]) fun F16 => ?_
                        refine lcp F16 rfl hC rfl (by omega) (want_yes F16 rfl (e := 129) rfl (by omega) (show _ = Value.bool true from by simp [upd, hs0, hs6, hs10, hs11, hs12])) (g := 39) (args := #[Value.int .i64 (k : Nat), Value.int .i64 (j : Nat)]) (by simp only [execOp, resolve, invoke, List.map_toArray, List.map_cons, List.map_nil, (F16.eval 140 (by omega)).trans (show _ = Value.int .i64 (k : Nat) from by simp [upd, hs0, hs6, hs10, hs11, hs12]), (F16.eval 141 (by omega)).trans (show _ = Value.int .i64 (j : Nat) from by simp [upd, hs0, hs6, hs10, hs11, hs12])]; simp [go_sem, Act.eval]) (sign_any k j (by omega) (by omega) X) ?_
                        rintro e9 X9 ⟨rfl, rfl⟩
                        refine ⟨_, rfl, fun F17 => ?_⟩
                        refine lyp F17 rfl hC rfl (by omega) (want_yes F17 rfl (e := 129) rfl (by omega) (show _ = Value.bool true from by simp [upd, hs0, hs6, hs10, hs11, hs12])) (v := Value.bool false) (fun wr hwr => by simp only [execOp, (F17.eval 139 (by omega)).trans (show _ = Value.int .u8 ((sgN k j : Nat) : Int) from by simp [upd, hs0, hs6, hs10, hs11, hs12]), (F17.eval 142 (by omega)).trans (show _ = Value.int .u8 ((sgN k j : Nat) : Int) from by simp [upd, hs0, hs6, hs10, hs11, hs12])]; simp [go_sem, Act.eval]) fun F18 => ?_
                        refine lyp F18 rfl hC rfl (by omega) (want_yes F18 rfl (e := 129) rfl (by omega) (show _ = Value.bool true from by simp [upd, hs0, hs6, hs10, hs11, hs12])) (v := Value.bool false) (fun wr hwr => by simp only [execOp, (F18.eval 143 (by omega)).trans (show _ = Value.bool false from by simp [upd, hs0, hs6, hs10, hs11, hs12])]; first | rfl | simp [go_sem]) fun F19 => ?_
                        refine lyp F19 rfl hC rfl (by omega) (want_yes F19 rfl (e := 144) rfl (by omega) (show _ = Value.bool false from by simp [upd, hs0, hs6, hs10, hs11, hs12])) (v := Value.slice (some ⟨gf, offf, none⟩) s.ls.length fc) (fun wr hwr => by simp only [execOp, (F19.eval 6 (by omega)).trans (show _ = Value.slice (some ⟨gf, offf, none⟩) s.ls.length fc from by simp [upd, hs0, hs6, hs10, hs11, hs12])]; first | rfl | simp [go_sem]) fun F20 => ?_
                        refine lyp F20 rfl hC rfl (by omega) (want_yes F20 rfl (e := 144) rfl (by omega) (show _ = Value.bool false from by simp [upd, hs0, hs6, hs10, hs11, hs12])) (v := Value.int .i64 (k : Nat)) (fun wr hwr => by simp only [execOp, (F20.eval 10 (by omega)).trans (show _ = Value.int .i64 (k : Nat) from by simp [upd, hs0, hs6, hs10, hs11, hs12])]; first | rfl | simp [go_sem]) fun F21 => ?_
                        refine lyp F21 rfl hC rfl (by omega) (want_yes F21 rfl (e := 144) rfl (by omega) (show _ = Value.bool false from by simp [upd, hs0, hs6, hs10, hs11, hs12])) (v := Value.pointer (some ⟨gf, offf + k, none⟩)) (fun wr hwr => by simp only [execOp, (F21.eval 145 (by omega)).trans (show _ = Value.slice (some ⟨gf, offf, none⟩) s.ls.length fc from by simp [upd, hs0, hs6, hs10, hs11, hs12]), (F21.eval 146 (by omega)).trans (show _ = Value.int .i64 (k : Nat) from by simp [upd, hs0, hs6, hs10, hs11, hs12])]; simp [go_sem, hlt2]) fun F22 => ?_
                        refine lyp F22 rfl hC rfl (by omega) (want_yes F22 rfl (e := 144) rfl (by omega) (show _ = Value.bool false from by simp [upd, hs0, hs6, hs10, hs11, hs12])) (v := Value.slice (some ⟨be, oe, none⟩) (bb.length + 100) ecap) (fun wr hwr => by simp only [execOp, (F22.eval 147 (by omega)).trans (show _ = Value.pointer (some ⟨gf, offf + k, none⟩) from by simp [upd, hs0, hs6, hs10, hs11, hs12])]; simp [go_sem, ((hwr.cell ⟨gf, offf + k, none⟩).trans e2)]) fun F23 => ?_
                        refine lyp F23 rfl hC rfl (by omega) (want_yes F23 rfl (e := 144) rfl (by omega) (show _ = Value.bool false from by simp [upd, hs0, hs6, hs10, hs11, hs12])) (v := Value.int .i64 (j : Nat)) (fun wr hwr => by simp only [execOp, (F23.eval 12 (by omega)).trans (show _ = Value.int .i64 (j : Nat) from by simp [upd, hs0, hs6, hs10, hs11, hs12])]; first | rfl | simp [go_sem]) fun F24 => ?_
                        refine lyp F24 rfl hC rfl (by omega) (want_yes F24 rfl (e := 144) rfl (by omega) (show _ = Value.bool false from by simp [upd, hs0, hs6, hs10, hs11, hs12])) (v := Value.pointer (some ⟨be, oe + j, none⟩)) (fun wr hwr => by simp only [execOp, (F24.eval 148 (by omega)).trans (show _ = Value.slice (some ⟨be, oe, none⟩) (bb.length + 100) ecap from by simp [upd, hs0, hs6, hs10, hs11, hs12]), (F24.eval 149 (by omega)).trans (show _ = Value.int .i64 (j : Nat) from by simp [upd, hs0, hs6, hs10, hs11, hs12])]; simp [go_sem, hjl]; intro hq; omega) fun F25 => ?_
                        refine lyp F25 rfl hC rfl (by omega) (want_yes F25 rfl (e := 144) rfl (by omega) (show _ = Value.bool false from by simp [upd, hs0, hs6, hs10, hs11, hs12])) (v := Value.int .u8 ((sgN k j : Nat) : Int)) (fun wr hwr => by simp only [execOp, (F25.eval 150 (by omega)).trans (show _ = Value.pointer (some ⟨be, oe + j, none⟩) from by simp [upd, hs0, hs6, hs10, hs11, hs12])]; simp [go_sem, ((hwr.cell ⟨be, oe + j, none⟩).trans p4)]) fun F26 => ?_
                        refine lyp F26 rfl hC rfl (by omega) (want_yes F26 rfl (e := 144) rfl (by omega) (show _ = Value.bool false from by simp [upd, hs0, hs6, hs10, hs11, hs12])) (v := Value.int .i64 (k : Nat)) (fun wr hwr => by simp only [execOp, (F26.eval 10 (by omega)).trans (show _ = Value.int .i64 (k : Nat) from by simp [upd, hs0, hs6, hs10, hs11, hs12])]; first | rfl | simp [go_sem]) fun F27 => ?_
                        refine lyp F27 rfl hC rfl (by omega) (want_yes F27 rfl (e := 144) rfl (by omega) (show _ = Value.bool false from by simp [upd, hs0, hs6, hs10, hs11, hs12])) (v := Value.int .i64 (j : Nat)) (fun wr hwr => by simp only [execOp, (F27.eval 12 (by omega)).trans (show _ = Value.int .i64 (j : Nat) from by simp [upd, hs0, hs6, hs10, hs11, hs12])]; first | rfl | simp [go_sem]) fun F28 => ?_
                        refine lcp F28 rfl hC rfl (by omega) (want_yes F28 rfl (e := 144) rfl (by omega) (show _ = Value.bool false from by simp [upd, hs0, hs6, hs10, hs11, hs12])) (g := 39) (args := #[Value.int .i64 (k : Nat), Value.int .i64 (j : Nat)]) (by simp only [execOp, resolve, invoke, List.map_toArray, List.map_cons, List.map_nil, (F28.eval 152 (by omega)).trans (show _ = Value.int .i64 (k : Nat) from by simp [upd, hs0, hs6, hs10, hs11, hs12]), (F28.eval 153 (by omega)).trans (show _ = Value.int .i64 (j : Nat) from by simp [upd, hs0, hs6, hs10, hs11, hs12])]; simp [go_sem, Act.eval]) (sign_any k j (by omega) (by omega) X9) ?_
                        rintro e10 X10 ⟨rfl, rfl⟩
                        refine ⟨_, rfl, fun F29 => ?_⟩
                        refine lyp F29 rfl hC rfl (by omega) (want_yes F29 rfl (e := 144) rfl (by omega) (show _ = Value.bool false from by simp [upd, hs0, hs6, hs10, hs11, hs12])) (v := Value.bool false) (fun wr hwr => by simp only [execOp, (F29.eval 151 (by omega)).trans (show _ = Value.int .u8 ((sgN k j : Nat) : Int) from by simp [upd, hs0, hs6, hs10, hs11, hs12]), (F29.eval 154 (by omega)).trans (show _ = Value.int .u8 ((sgN k j : Nat) : Int) from by simp [upd, hs0, hs6, hs10, hs11, hs12])]; simp [go_sem, Act.eval]) fun F30 => ?_
                        refine lyp F30 rfl hC rfl (by omega) (want_yes F30 rfl (e := 129) rfl (by omega) (show _ = Value.bool true from by simp [upd, hs0, hs6, hs10, hs11, hs12])) (v := Value.bool false) (fun wr hwr => by simp only [execOp, (F30.eval 144 (by omega)).trans (show _ = Value.bool false from by simp [upd, hs0, hs6, hs10, hs11, hs12]), (F30.eval 155 (by omega)).trans (show _ = Value.bool false from by simp [upd, hs0, hs6, hs10, hs11, hs12])]; simp [go_sem, Act.eval]) fun F31 => ?_
                        refine lyp F31 rfl hC rfl (by omega) (wanted_none rfl) (v := Value.bool false) (fun wr hwr => by simp only [execOp, (F31.eval 129 (by omega)).trans (show _ = Value.bool true from by simp [upd, hs0, hs6, hs10, hs11, hs12]), (F31.eval 156 (by omega)).trans (show _ = Value.bool false from by simp [upd, hs0, hs6, hs10, hs11, hs12])]; simp [go_sem, Act.eval]) fun F32 => ?_
                        refine lyp F32 rfl hC rfl (by omega) (wanted_none rfl) (v := Value.bool false) (fun wr hwr => by simp only [execOp, (F32.eval 157 (by omega)).trans (show _ = Value.bool false from by simp [upd, hs0, hs6, hs10, hs11, hs12])]; first | rfl | simp [go_sem]) fun F33 => ?_
                        refine lyp F33 rfl hC rfl (by omega) (want_yes F33 rfl (e := 158) rfl (by omega) (show _ = Value.bool false from by simp [upd, hs0, hs6, hs10, hs11, hs12])) (v := Value.int .i64 (j : Nat)) (fun wr hwr => by simp only [execOp, (F33.eval 12 (by omega)).trans (show _ = Value.int .i64 (j : Nat) from by simp [upd, hs0, hs6, hs10, hs11, hs12])]; first | rfl | simp [go_sem]) fun F34 => ?_
                        refine lyp F34 rfl hC rfl (by omega) (want_yes F34 rfl (e := 158) rfl (by omega) (show _ = Value.bool false from by simp [upd, hs0, hs6, hs10, hs11, hs12])) (v := Value.int .i64 (bb.length : Nat)) (fun wr hwr => by simp only [execOp, (F34.eval 11 (by omega)).trans (show _ = Value.int .i64 (bb.length : Nat) from by simp [upd, hs0, hs6, hs10, hs11, hs12])]; first | rfl | simp [go_sem]) fun F35 => ?_
                        refine lyp F35 rfl hC rfl (by omega) (want_yes F35 rfl (e := 158) rfl (by omega) (show _ = Value.bool false from by simp [upd, hs0, hs6, hs10, hs11, hs12])) (v := Value.bool false) (fun wr hwr => by simp only [execOp, (F35.eval 159 (by omega)).trans (show _ = Value.int .i64 (j : Nat) from by simp [upd, hs0, hs6, hs10, hs11, hs12]), (F35.eval 160 (by omega)).trans (show _ = Value.int .i64 (bb.length : Nat) from by simp [upd, hs0, hs6, hs10, hs11, hs12])]; simp [go_sem, hjn']; omega) fun F36 => ?_
                        refine lyp F36 rfl hC rfl (by omega) (want_yes F36 rfl (e := 158) rfl (by omega) (show _ = Value.bool false from by simp [upd, hs0, hs6, hs10, hs11, hs12])) (v := Value.bool false) (fun wr hwr => by simp only [execOp, (F36.eval 161 (by omega)).trans (show _ = Value.bool false from by simp [upd, hs0, hs6, hs10, hs11, hs12])]; first | rfl | simp [go_sem]) fun F37 => ?_
                        refine lnp F37 rfl hC rfl (by omega) (want_no F37 rfl (e := 162) rfl (by omega) (show _ = Value.bool false from by simp [upd, hs0, hs6, hs10, hs11, hs12]) (by decide)) fun F38 => ?_
                        refine lnp F38 rfl hC rfl (by omega) (want_no F38 rfl (e := 162) rfl (by omega) (show _ = Value.bool false from by simp [upd, hs0, hs6, hs10, hs11, hs12]) (by decide)) fun F39 => ?_
                        refine lnp F39 rfl hC rfl (by omega) (want_no F39 rfl (e := 162) rfl (by omega) (show _ = Value.bool false from by simp [upd, hs0, hs6, hs10, hs11, hs12]) (by decide)) fun F40 => ?_
                        refine lnp F40 rfl hC rfl (by omega) (want_no F40 rfl (e := 162) rfl (by omega) (show _ = Value.bool false from by simp [upd, hs0, hs6, hs10, hs11, hs12]) (by decide)) fun F41 => ?_
                        refine lnp F41 rfl hC rfl (by omega) (want_no F41 rfl (e := 162) rfl (by omega) (show _ = Value.bool false from by simp [upd, hs0, hs6, hs10, hs11, hs12]) (by decide)) fun F42 => ?_
                        refine lnp F42 rfl hC rfl (by omega) (want_no F42 rfl (e := 162) rfl (by omega) (show _ = Value.bool false from by simp [upd, hs0, hs6, hs10, hs11, hs12]) (by decide)) fun F43 => ?_
                        refine lnp F43 rfl hC rfl (by omega) (want_no F43 rfl (e := 162) rfl (by omega) (show _ = Value.bool false from by simp [upd, hs0, hs6, hs10, hs11, hs12]) (by decide)) fun F44 => ?_
                        refine lnp F44 rfl hC rfl (by omega) (want_no F44 rfl (e := 162) rfl (by omega) (show _ = Value.bool false from by simp [upd, hs0, hs6, hs10, hs11, hs12]) (by decide)) fun F45 => ?_
                        refine lnp F45 rfl hC rfl (by omega) (want_no F45 rfl (e := 162) rfl (by omega) (show _ = Value.bool false from by simp [upd, hs0, hs6, hs10, hs11, hs12]) (by decide)) fun F46 => ?_
                        refine lnp F46 rfl hC rfl (by omega) (want_no F46 rfl (e := 162) rfl (by omega) (show _ = Value.bool false from by simp [upd, hs0, hs6, hs10, hs11, hs12]) (by decide)) fun F47 => ?_
                        refine lnp F47 rfl hC rfl (by omega) (want_no F47 rfl (e := 162) rfl (by omega) (show _ = Value.bool false from by simp [upd, hs0, hs6, hs10, hs11, hs12]) (by decide)) fun F48 => ?_
                        refine lnp F48 rfl hC rfl (by omega) (want_no F48 rfl (e := 162) rfl (by omega) (show _ = Value.bool false from by simp [upd, hs0, hs6, hs10, hs11, hs12]) (by decide)) fun F49 => ?_
                        refine lnp F49 rfl hC rfl (by omega) (want_no F49 rfl (e := 162) rfl (by omega) (show _ = Value.bool false from by simp [upd, hs0, hs6, hs10, hs11, hs12]) (by decide)) fun F50 => ?_
                        refine lnp F50 rfl hC rfl (by omega) (want_no F50 rfl (e := 162) rfl (by omega) (show _ = Value.bool false from by simp [upd, hs0, hs6, hs10, hs11, hs12]) (by decide)) fun F51 => ?_
                        refine lnp F51 rfl hC rfl (by omega) (want_no F51 rfl (e := 162) rfl (by omega) (show _ = Value.bool false from by simp [upd, hs0, hs6, hs10, hs11, hs12]) (by decide)) fun F52 => ?_
                        refine lyp F52 rfl hC rfl (by omega) (want_yes F52 rfl (e := 158) rfl (by omega) (show _ = Value.bool false from by simp [upd, hs0, hs6, hs10, hs11, hs12])) (v := Value.bool false) (fun wr hwr => by simp only [execOp, (F52.eval 162 (by omega)).trans (show _ = Value.bool false from by simp [upd, hs0, hs6, hs10, hs11, hs12])]; simp [go_sem, Act.eval]) fun F53 => ?_
                        refine lep F53 rfl hC rfl (by omega) (wanted_none rfl) (v := Value.bool false) (w1 := X10) (by simp only [execOp, (F53.eval 158 (by omega)).trans (show _ = Value.bool false from by simp [upd, hs0, hs6, hs10, hs11, hs12]), (F53.eval 178 (by omega)).trans (show _ = Value.bool false from by simp [upd, hs0, hs6, hs10, hs11, hs12])]; simp [go_sem, Act.eval]) fun F54 => ?_
                        refine ⟨fun _ => hC, ?_⟩
                        refine hK _ _ ?_
                        clear F0 F1 F2 F3 F4 F5 F6 F7 F8 F9 F10 F11 F12 F13 F14 F15 F16 F17 F18 F19 F20 F21 F22 F23 F24 F25 F26 F27 F28 F29 F30 F31 F32 F33 F34 F35 F36 F37 F38 F39 F40 F41 F42 F43 F44 F45 F46 F47 F48 F49 F50 F51 F52 F53 F54 hs0 hs6 hs10 hs11 hs12 hK
                        simp only [Act.put, List.setIfInBounds_toArray, List.set_cons_succ, List.set_cons_zero]
                        have HSY : Hid _ := hC
                        clear hC
                        go_wp2_with fail
                        go_roundw
                        case rel => exact ⟨j + 1, by omega, by go_num, HSY.out⟩
                        case measure => simp [intOf]; omega
                      · have hb1 : (bb ++ tls k 100)[j]? = some (tl k (j - bb.length)) := by rw [List.getElem?_append_right (by omega)]; exact tls_get _ _ _ (by omega)
                        have p4 : wm.cell? ⟨be, oe + j, none⟩ = some (.int .u8 (bits BinOp.xor IntKind.u8 ((sgN (k + 1) (j - bb.length) : Nat) : Int) 85)) := by rw [hce j _ hb1, B, tl_nat]; rfl
                        have hjn' : ¬ ((j : Int) < (bb.length : Int)) := by omega
                        have hjn2 : (bb.length : Int) ≤ (j : Int) := by omega
                        have hsign := fun W => sign_any (k + 1) (j - bb.length) (by omega) (by omega) W
                        rw [show ((k + 1 : Nat) : Int) = (k : Int) + 1 from by omega, show ((j - bb.length : Nat) : Int) = (j : Int) - (bb.length : Int) from by omega] at hsign
                        have HSY : Hid _ := hSy
                        have HSN : Hid _ := hsign
                        clear hce hSy hb1 hsign
                        go_wp2_with fail
                        have hSy := HSY.out
                        clear HSY
                        rename_i K hK
                        try rw [show ∀ a : Act, a.put none undef = a from fun _ => rfl]
                        refine wp_region_mix (SameW wm) (fun i => i == 49 || i == 53) 53 (by kernel_rfl) rfl (by kernel_rfl) (by kernel_rfl) (by kernel_rfl) ?_
                        have hC : SameW wm ({ wy with drawn := wy.drawn + 1 } : World) := ⟨hSy.heap, hSy.os, hSy.tape, hSy.output⟩
                        clear p6 p1 p2 hSy
                        generalize ({ wy with drawn := wy.drawn + 1 } : World) = X at *
                        refine withFrP (N := 180) rfl ?_
                        intro f0 F0 hff
                        have hs0 : f0 0 = Value.pointer (some ⟨pb, 0, none⟩) := hff 0
                        have hs6 : f0 6 = Value.slice (some ⟨gf, offf, none⟩) s.ls.length fc := hff 6
                        have hs10 : f0 10 = Value.int .i64 (k : Nat) := hff 10
                        have hs11 : f0 11 = Value.int .i64 (bb.length : Nat) := hff 11
                        have hs12 : f0 12 = Value.int .i64 (j : Nat) := hff 12
                        clear hff
                        refine lyp F0 rfl hC rfl (by omega) (wanted_none rfl) (v := Value.int .i64 (j : Nat)) (fun wr hwr => by simp only [execOp, (F0.eval 12 (by omega)).trans (show _ = Value.int .i64 (j : Nat) from by simp [upd, hs0, hs6, hs10, hs11, hs12])]; first | rfl | simp [go_sem]) fun F1 => ?_
                        refine lyp F1 rfl hC rfl (by omega) (wanted_none rfl) (v := Value.int .i64 (bb.length : Nat)) (fun wr hwr => by simp only [execOp, (F1.eval 11 (by omega)).trans (show _ = Value.int .i64 (bb.length : Nat) from by simp [upd, hs0, hs6, hs10, hs11, hs12])]; first | rfl | simp [go_sem]) fun F2 => ?_
                        refine lyp F2 rfl hC rfl (by omega) (wanted_none rfl) (v := Value.bool false) (fun wr hwr => by simp only [execOp, (F2.eval 126 (by omega)).trans (show _ = Value.int .i64 (j : Nat) from by simp [upd, hs0, hs6, hs10, hs11, hs12]), (F2.eval 127 (by omega)).trans (show _ = Value.int .i64 (bb.length : Nat) from by simp [upd, hs0, hs6, hs10, hs11, hs12])]; simp [go_sem, hjn']; omega) fun F3 => ?_
                        refine lyp F3 rfl hC rfl (by omega) (wanted_none rfl) (v := Value.bool false) (fun wr hwr => by simp only [execOp, (F3.eval 128 (by omega)).trans (show _ = Value.bool false from by simp [upd, hs0, hs6, hs10, hs11, hs12])]; first | rfl | simp [go_sem]) fun F4 => ?_
                        refine lnp F4 rfl hC rfl (by omega) (want_no F4 rfl (e := 129) rfl (by omega) (show _ = Value.bool false from by simp [upd, hs0, hs6, hs10, hs11, hs12]) (by decide)) fun F5 => ?_
                        refine lnp F5 rfl hC rfl (by omega) (want_no F5 rfl (e := 129) rfl (by omega) (show _ = Value.bool false from by simp [upd, hs0, hs6, hs10, hs11, hs12]) (by decide)) fun F6 => ?_
                        refine lnp F6 rfl hC rfl (by omega) (want_no F6 rfl (e := 129) rfl (by omega) (show _ = Value.bool false from by simp [upd, hs0, hs6, hs10, hs11, hs12]) (by decide)) fun F7 => ?_
                        refine lnp F7 rfl hC rfl (by omega) (want_no F7 rfl (e := 129) rfl (by omega) (show _ = Value.bool false from by simp [upd, hs0, hs6, hs10, hs11, hs12]) (by decide)) fun F8 => ?_
                        refine lnp F8 rfl hC rfl (by omega) (want_no F8 rfl (e := 129) rfl (by omega) (show _ = Value.bool false from by simp [upd, hs0, hs6, hs10, hs11, hs12]) (by decide)) fun F9 => ?_
                        refine lnp F9 rfl hC rfl (by omega) (want_no F9 rfl (e := 129) rfl (by omega) (show _ = Value.bool false from by simp [upd, hs0, hs6, hs10, hs11, hs12]) (by decide)) fun F10 => ?_
                        refine lnp F10 rfl hC rfl (by omega) (want_no F10 rfl (e := 129) rfl (by omega) (show _ = Value.bool false from by simp [upd, hs0, hs6, hs10, hs11, hs12]) (by decide)) fun F11 => ?_
                        refine lnp F11 rfl hC rfl (by omega) (want_no F11 rfl (e := 129) rfl (by omega) (show _ = Value.bool false from by simp [upd, hs0, hs6, hs10, hs11, hs12]) (by decide)) fun F12 => ?_
                        refine lnp F12 rfl hC rfl (by omega) (want_no F12 rfl (e := 129) rfl (by omega) (show _ = Value.bool false from by simp [upd, hs0, hs6, hs10, hs11, hs12]) (by decide)) fun F13 => ?_
                        refine lnp F13 rfl hC rfl (by omega) (want_no F13 rfl (e := 129) rfl (by omega) (show _ = Value.bool false from by simp [upd, hs0, hs6, hs10, hs11, hs12]) (by decide)) fun F14 => ?_
                        refine lnp F14 rfl hC rfl (by omega) (want_no F14 rfl (e := 129) rfl (by omega) (show _ = Value.bool false from by simp [upd, hs0, hs6, hs10, hs11, hs12]) (by decide)) fun F15 => ?_
                        refine lnp F15 rfl hC rfl (by omega) (want_no F15 rfl (e := 129) rfl (by omega) (show _ = Value.bool false from by simp [upd, hs0, hs6, hs10, hs11, hs12]) (by decide)) fun F16 => ?_
                        refine lnp F16 rfl hC rfl (by omega) (want_no F16 rfl (e := 129) rfl (by omega) (show _ = Value.bool false from by simp [upd, hs0, hs6, hs10, hs11, hs12]) (by decide)) fun F17 => ?_
                        refine lnp F17 rfl hC rfl (by omega) (want_no F17 rfl (e := 129) rfl (by omega) (show _ = Value.bool false from by simp [upd, hs0, hs6, hs10, hs11, hs12]) (by decide)) fun F18 => ?_
                        refine lnp F18 rfl hC rfl (by omega) (want_no F18 rfl (e := 129) rfl (by omega) (show _ = Value.bool false from by simp [upd, hs0, hs6, hs10, hs11, hs12]) (by decide)) fun F19 => ?_
                        refine lnp F19 rfl hC rfl (by omega) (want_not F19 rfl (e := 144) rfl (by omega) (show _ = undef from by simp [upd, hs0, hs6, hs10, hs11, hs12])) fun F20 => ?_
                        refine lnp F20 rfl hC rfl (by omega) (want_not F20 rfl (e := 144) rfl (by omega) (show _ = undef from by simp [upd, hs0, hs6, hs10, hs11, hs12])) fun F21 => ?_
                        refine lnp F21 rfl hC rfl (by omega) (want_not F21 rfl (e := 144) rfl (by omega) (show _ = undef from by simp [upd, hs0, hs6, hs10, hs11, hs12])) fun F22 => ?_
                        refine lnp F22 rfl hC rfl (by omega) (want_not F22 rfl (e := 144) rfl (by omega) (show _ = undef from by simp [upd, hs0, hs6, hs10, hs11, hs12])) fun F23 => ?_
                        refine lnp F23 rfl hC rfl (by omega) (want_not F23 rfl (e := 144) rfl (by omega) (show _ = undef from by simp [upd, hs0, hs6, hs10, hs11, hs12])) fun F24 => ?_
                        refine lnp F24 rfl hC rfl (by omega) (want_not F24 rfl (e := 144) rfl (by omega) (show _ = undef from by simp [upd, hs0, hs6, hs10, hs11, hs12])) fun F25 => ?_
                        refine lnp F25 rfl hC rfl (by omega) (want_not F25 rfl (e := 144) rfl (by omega) (show _ = undef from by simp [upd, hs0, hs6, hs10, hs11, hs12])) fun F26 => ?_
                        refine lnp F26 rfl hC rfl (by omega) (want_not F26 rfl (e := 144) rfl (by omega) (show _ = undef from by simp [upd, hs0, hs6, hs10, hs11, hs12])) fun F27 => ?_
                        refine lnp F27 rfl hC rfl (by omega) (want_not F27 rfl (e := 144) rfl (by omega) (show _ = undef from by simp [upd, hs0, hs6, hs10, hs11, hs12])) fun F28 => ?_
                        refine lnp F28 rfl hC rfl (by omega) (want_not F28 rfl (e := 144) rfl (by omega) (show _ = undef from by simp [upd, hs0, hs6, hs10, hs11, hs12])) fun F29 => ?_
                        refine lnp F29 rfl hC rfl (by omega) (want_not F29 rfl (e := 144) rfl (by omega) (show _ = undef from by simp [upd, hs0, hs6, hs10, hs11, hs12])) fun F30 => ?_
                        refine lnp F30 rfl hC rfl (by omega) (want_no F30 rfl (e := 129) rfl (by omega) (show _ = Value.bool false from by simp [upd, hs0, hs6, hs10, hs11, hs12]) (by decide)) fun F31 => ?_
                        refine lyp F31 rfl hC rfl (by omega) (wanted_none rfl) (v := Value.bool false) (fun wr hwr => by simp only [execOp, (F31.eval 129 (by omega)).trans (show _ = Value.bool false from by simp [upd, hs0, hs6, hs10, hs11, hs12])]; simp [go_sem, Act.eval]) fun F32 => ?_
                        refine lyp F32 rfl hC rfl (by omega) (wanted_none rfl) (v := Value.bool false) (fun wr hwr => by simp only [execOp, (F32.eval 157 (by omega)).trans (show _ = Value.bool false from by simp [upd, hs0, hs6, hs10, hs11, hs12])]; first | rfl | simp [go_sem]) fun F33 => ?_
                        refine lyp F33 rfl hC rfl (by omega) (want_yes F33 rfl (e := 158) rfl (by omega) (show _ = Value.bool false from by simp [upd, hs0, hs6, hs10, hs11, hs12])) (v := Value.int .i64 (j : Nat)) (fun wr hwr => by simp only [execOp, (F33.eval 12 (by omega)).trans (show _ = Value.int .i64 (j : Nat) from by simp [upd, hs0, hs6, hs10, hs11, hs12])]; first | rfl | simp [go_sem]) fun F34 => ?_
                        refine lyp F34 rfl hC rfl (by omega) (want_yes F34 rfl (e := 158) rfl (by omega) (show _ = Value.bool false from by simp [upd, hs0, hs6, hs10, hs11, hs12])) (v := Value.int .i64 (bb.length : Nat)) (fun wr hwr => by simp only [execOp, (F34.eval 11 (by omega)).trans (show _ = Value.int .i64 (bb.length : Nat) from by simp [upd, hs0, hs6, hs10, hs11, hs12])]; first | rfl | simp [go_sem]) fun F35 => ?_
                        refine lyp F35 rfl hC rfl (by omega) (want_yes F35 rfl (e := 158) rfl (by omega) (show _ = Value.bool false from by simp [upd, hs0, hs6, hs10, hs11, hs12])) (v := Value.bool true) (fun wr hwr => by simp only [execOp, (F35.eval 159 (by omega)).trans (show _ = Value.int .i64 (j : Nat) from by simp [upd, hs0, hs6, hs10, hs11, hs12]), (F35.eval 160 (by omega)).trans (show _ = Value.int .i64 (bb.length : Nat) from by simp [upd, hs0, hs6, hs10, hs11, hs12])]; simp [go_sem, hjn2]) fun F36 => ?_
                        refine lyp F36 rfl hC rfl (by omega) (want_yes F36 rfl (e := 158) rfl (by omega) (show _ = Value.bool false from by simp [upd, hs0, hs6, hs10, hs11, hs12])) (v := Value.bool true) (fun wr hwr => by simp only [execOp, (F36.eval 161 (by omega)).trans (show _ = Value.bool true from by simp [upd, hs0, hs6, hs10, hs11, hs12])]; first | rfl | simp [go_sem]) fun F37 => ?_
                        refine lyp F37 rfl hC rfl (by omega) (want_yes F37 rfl (e := 162) rfl (by omega) (show _ = Value.bool true from by simp [upd, hs0, hs6, hs10, hs11, hs12])) (v := Value.slice (some ⟨gf, offf, none⟩) s.ls.length fc) (fun wr hwr => by simp only [execOp, (F37.eval 6 (by omega)).trans (show _ = Value.slice (some ⟨gf, offf, none⟩) s.ls.length fc from by simp [upd, hs0, hs6, hs10, hs11, hs12])]; first | rfl | simp [go_sem]) fun F38 => ?_
                        refine lyp F38 rfl hC rfl (by omega) (want_yes F38 rfl (e := 162) rfl (by omega) (show _ = Value.bool true from by simp [upd, hs0, hs6, hs10, hs11, hs12])) (v := Value.int .i64 (k : Nat)) (fun wr hwr => by simp only [execOp, (F38.eval 10 (by omega)).trans (show _ = Value.int .i64 (k : Nat) from by simp [upd, hs0, hs6, hs10, hs11, hs12])]; first | rfl | simp [go_sem]) fun F39 => ?_
                        refine lyp F39 rfl hC rfl (by omega) (want_yes F39 rfl (e := 162) rfl (by omega) (show _ = Value.bool true from by simp [upd, hs0, hs6, hs10, hs11, hs12])) (v := Value.pointer (some ⟨gf, offf + k, none⟩)) (fun wr hwr => by simp only [execOp, (F39.eval 163 (by omega)).trans (show _ = Value.slice (some ⟨gf, offf, none⟩) s.ls.length fc from by simp [upd, hs0, hs6, hs10, hs11, hs12]), (F39.eval 164 (by omega)).trans (show _ = Value.int .i64 (k : Nat) from by simp [upd, hs0, hs6, hs10, hs11, hs12])]; simp [go_sem, hlt2]) fun F40 => ?_
                        refine lyp F40 rfl hC rfl (by omega) (want_yes F40 rfl (e := 162) rfl (by omega) (show _ = Value.bool true from by simp [upd, hs0, hs6, hs10, hs11, hs12])) (v := Value.slice (some ⟨be, oe, none⟩) (bb.length + 100) ecap) (fun wr hwr => by simp only [execOp, (F40.eval 165 (by omega)).trans (show _ = Value.pointer (some ⟨gf, offf + k, none⟩) from by simp [upd, hs0, hs6, hs10, hs11, hs12])]; simp [go_sem, ((hwr.cell ⟨gf, offf + k, none⟩).trans e2)]) fun F41 => ?_
                        refine lyp F41 rfl hC rfl (by omega) (want_yes F41 rfl (e := 162) rfl (by omega) (show _ = Value.bool true from by simp [upd, hs0, hs6, hs10, hs11, hs12])) (v := Value.int .i64 (j : Nat)) (fun wr hwr => by simp only [execOp, (F41.eval 12 (by omega)).trans (show _ = Value.int .i64 (j : Nat) from by simp [upd, hs0, hs6, hs10, hs11, hs12])]; first | rfl | simp [go_sem]) fun F42 => ?_
                        refine lyp F42 rfl hC rfl (by omega) (want_yes F42 rfl (e := 162) rfl (by omega) (show _ = Value.bool true from by simp [upd, hs0, hs6, hs10, hs11, hs12])) (v := Value.pointer (some ⟨be, oe + j, none⟩)) (fun wr hwr => by simp only [execOp, (F42.eval 166 (by omega)).trans (show _ = Value.slice (some ⟨be, oe, none⟩) (bb.length + 100) ecap from by simp [upd, hs0, hs6, hs10, hs11, hs12]), (F42.eval 167 (by omega)).trans (show _ = Value.int .i64 (j : Nat) from by simp [upd, hs0, hs6, hs10, hs11, hs12])]; simp [go_sem, hjl]; intro hq; omega) fun F43 => ?_
                        refine lyp F43 rfl hC rfl (by omega) (want_yes F43 rfl (e := 162) rfl (by omega) (show _ = Value.bool true from by simp [upd, hs0, hs6, hs10, hs11, hs12])) (v := Value.int .u8 (bits BinOp.xor IntKind.u8 ((sgN (k + 1) (j - bb.length) : Nat) : Int) 85)) (fun wr hwr => by simp only [execOp, (F43.eval 168 (by omega)).trans (show _ = Value.pointer (some ⟨be, oe + j, none⟩) from by simp [upd, hs0, hs6, hs10, hs11, hs12])]; simp [go_sem, ((hwr.cell ⟨be, oe + j, none⟩).trans p4)]) fun F44 => ?_
                        refine lyp F44 rfl hC rfl (by omega) (want_yes F44 rfl (e := 162) rfl (by omega) (show _ = Value.bool true from by simp [upd, hs0, hs6, hs10, hs11, hs12])) (v := Value.int .i64 (k : Nat)) (fun wr hwr => by simp only [execOp, (F44.eval 10 (by omega)).trans (show _ = Value.int .i64 (k : Nat) from by simp [upd, hs0, hs6, hs10, hs11, hs12])]; first | rfl | simp [go_sem]) fun F45 => ?_
                        refine lyp F45 rfl hC rfl (by omega) (want_yes F45 rfl (e := 162) rfl (by omega) (show _ = Value.bool true from by simp [upd, hs0, hs6, hs10, hs11, hs12])) (v := Value.int .i64 ((k : Int) + 1)) (fun wr hwr => by simp only [execOp, (F45.eval 170 (by omega)).trans (show _ = Value.int .i64 (k : Nat) from by simp [upd, hs0, hs6, hs10, hs11, hs12])]; simp [go_sem, Act.eval]; rw [IntKind.wrap_i64]; omega) fun F46 => ?_
                        refine lyp F46 rfl hC rfl (by omega) (want_yes F46 rfl (e := 162) rfl (by omega) (show _ = Value.bool true from by simp [upd, hs0, hs6, hs10, hs11, hs12])) (v := Value.int .i64 (j : Nat)) (fun wr hwr => by simp only [execOp, (F46.eval 12 (by omega)).trans (show _ = Value.int .i64 (j : Nat) from by simp [upd, hs0, hs6, hs10, hs11, hs12])]; first | rfl | simp [go_sem]) fun F47 => ?_
                        refine lyp F47 rfl hC rfl (by omega) (want_yes F47 rfl (e := 162) rfl (by omega) (show _ = Value.bool true from by simp [upd, hs0, hs6, hs10, hs11, hs12])) (v := Value.int .i64 (bb.length : Nat)) (fun wr hwr => by simp only [execOp, (F47.eval 11 (by omega)).trans (show _ = Value.int .i64 (bb.length : Nat) from by simp [upd, hs0, hs6, hs10, hs11, hs12])]; first | rfl | simp [go_sem]) fun F48 => ?_
                        refine lyp F48 rfl hC rfl (by omega) (want_yes F48 rfl (e := 162) rfl (by omega) (show _ = Value.bool true from by simp [upd, hs0, hs6, hs10, hs11, hs12])) (v := Value.int .i64 ((j : Int) - (bb.length : Int))) (fun wr hwr => by simp only [execOp, (F48.eval 172 (by omega)).trans (show _ = Value.int .i64 (j : Nat) from by simp [upd, hs0, hs6, hs10, hs11, hs12]), (F48.eval 173 (by omega)).trans (show _ = Value.int .i64 (bb.length : Nat) from by simp [upd, hs0, hs6, hs10, hs11, hs12])]; simp [go_sem, Act.eval]; rw [IntKind.wrap_i64]; omega) fun F49 => ?_
                        refine lcp F49 rfl hC rfl (by omega) (want_yes F49 rfl (e := 162) rfl (by omega) (show _ = Value.bool true from by simp [upd, hs0, hs6, hs10, hs11, hs12])) (g := 39) (args := #[Value.int .i64 ((k : Int) + 1), Value.int .i64 ((j : Int) - (bb.length : Int))]) (by simp only [execOp, resolve, invoke, List.map_toArray, List.map_cons, List.map_nil, (F49.eval 171 (by omega)).trans (show _ = Value.int .i64 ((k : Int) + 1) from by simp [upd, hs0, hs6, hs10, hs11, hs12]), (F49.eval 174 (by omega)).trans (show _ = Value.int .i64 ((j : Int) - (bb.length : Int)) from by simp [upd, hs0, hs6, hs10, hs11, hs12])]; simp [go_sem, Act.eval]) (HSN.out X) ?_
                        rintro e9 X10 ⟨rfl, rfl⟩
                        refine ⟨_, rfl, fun F50 => ?_⟩
                        refine lyp F50 rfl hC rfl (by omega) (want_yes F50 rfl (e := 162) rfl (by omega) (show _ = Value.bool true from by simp [upd, hs0, hs6, hs10, hs11, hs12])) (v := Value.int .u8 (bits BinOp.xor IntKind.u8 ((sgN (k + 1) (j - bb.length) : Nat) : Int) 85)) (fun wr hwr => by simp only [execOp, (F50.eval 175 (by omega)).trans (show _ = Value.int .u8 ((sgN (k + 1) (j - bb.length) : Nat) : Int) from by simp [upd, hs0, hs6, hs10, hs11, hs12])]; simp [go_sem, Act.eval]) fun F51 => ?_
                        refine lyp F51 rfl hC rfl (by omega) (want_yes F51 rfl (e := 162) rfl (by omega) (show _ = Value.bool true from by simp [upd, hs0, hs6, hs10, hs11, hs12])) (v := Value.bool false) (fun wr hwr => by simp only [execOp, (F51.eval 169 (by omega)).trans (show _ = Value.int .u8 (bits BinOp.xor IntKind.u8 ((sgN (k + 1) (j - bb.length) : Nat) : Int) 85) from by simp [upd, hs0, hs6, hs10, hs11, hs12]), (F51.eval 176 (by omega)).trans (show _ = Value.int .u8 (bits BinOp.xor IntKind.u8 ((sgN (k + 1) (j - bb.length) : Nat) : Int) 85) from by simp [upd, hs0, hs6, hs10, hs11, hs12])]; simp [go_sem, Act.eval]) fun F52 => ?_
                        refine lyp F52 rfl hC rfl (by omega) (want_yes F52 rfl (e := 158) rfl (by omega) (show _ = Value.bool false from by simp [upd, hs0, hs6, hs10, hs11, hs12])) (v := Value.bool false) (fun wr hwr => by simp only [execOp, (F52.eval 162 (by omega)).trans (show _ = Value.bool true from by simp [upd, hs0, hs6, hs10, hs11, hs12]), (F52.eval 177 (by omega)).trans (show _ = Value.bool false from by simp [upd, hs0, hs6, hs10, hs11, hs12])]; simp [go_sem, Act.eval]) fun F53 => ?_
                        refine lep F53 rfl hC rfl (by omega) (wanted_none rfl) (v := Value.bool false) (w1 := X10) (by simp only [execOp, (F53.eval 158 (by omega)).trans (show _ = Value.bool false from by simp [upd, hs0, hs6, hs10, hs11, hs12]), (F53.eval 178 (by omega)).trans (show _ = Value.bool false from by simp [upd, hs0, hs6, hs10, hs11, hs12])]; simp [go_sem, Act.eval]) fun F54 => ?_
                        refine ⟨fun _ => hC, ?_⟩
                        refine hK _ _ ?_
                        clear F0 F1 F2 F3 F4 F5 F6 F7 F8 F9 F10 F11 F12 F13 F14 F15 F16 F17 F18 F19 F20 F21 F22 F23 F24 F25 F26 F27 F28 F29 F30 F31 F32 F33 F34 F35 F36 F37 F38 F39 F40 F41 F42 F43 F44 F45 F46 F47 F48 F49 F50 F51 F52 F53 F54 hs0 hs6 hs10 hs11 hs12 hK
                        simp only [Act.put, List.setIfInBounds_toArray, List.set_cons_succ, List.set_cons_zero]
                        have HSY : Hid _ := hC
                        clear hC
                        go_wp2_with fail
                        go_roundw
                        case rel => exact ⟨j + 1, by omega, by go_num, HSY.out⟩
                        case measure => simp [intOf]; omega
                    · have hjl' : ¬ ((j : Int) < (bb.length : Int) + 100) := by omega
                      have HSY : Hid _ := hSy
                      clear hSy
                      go_wp2_with fail
                      go_roundw
                      case rel => exact ⟨k + 1, by omega, by go_num, HSY.out⟩
                      case measure => simp [intOf]; omega
                · have HS : Hid _ := hS
                  clear hS
                  go_wp2_with fail
                  go_ret
                  refine ⟨rfl, PStp.vals ⟨HS.out.os.trans HFr2.out.os, HS.out.tape.trans HFr2.out.tape, HS.out.output.trans HFr2.out.output, by rw [HS.out.heap]; exact HFr2.out.size⟩ (fun b hb hnb => ?_) (same_vals rfl)⟩
                  rw [HS.out.heap]
                  refine HFr2.out.block b hb fun d hd e => hnb (Or.inr (Or.inr (Or.inr (foot_of ?_ e))))
                  rw [← HDS.out] at hd
                  obtain ⟨x, hx, rfl⟩ := List.mem_map.1 hd
                  simp only [PS.vals, PS.part3, List.mem_append, List.mem_cons, List.mem_map]
                  exact Or.inr (Or.inr (Or.inr (Or.inr (Or.inr (Or.inr (Or.inr (Or.inr ⟨x, hx, rfl⟩)))))))
end Go.Proofs.Ytehjdkdoalmaeaa
