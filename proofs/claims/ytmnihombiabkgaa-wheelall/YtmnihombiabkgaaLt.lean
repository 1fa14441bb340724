import Derived.Test.YtmnihombiabkgaaLtT
namespace Go.Proofs.Ytmnihombiabkgaa
open Go.RowKit Go.PlainAid Go.MapKept
set_option linter.unusedVariables false
set_option linter.unusedSimpArgs false
theorem KL.more {L kb : Nat} {vI vW : Value} {es : List LE} {w w2 : World} (h : KL L kb vI vW es w) (hb : Below w.heap.size w w2) : KL L kb vI vW es w2 := h.frame (Chg.ofBelow (fun _ => False) hb) (fun _ _ e => e)
theorem row_ptr {w : World} {L t s n c : Nat} {ao : Option Addr} {xs : List Value} (h : w.ownsRow L t s (.slice ao n c) n xs) (h0 : 0 < n) : ∃ g, ao = some ⟨g, 0, none⟩ := by
  rcases h.2 with ⟨h1, h2⟩ | ⟨g2, c, cur, h1, _⟩
  · omega
  · simp only [Value.slice.injEq] at h1
    exact ⟨g2, h1.1⟩
theorem row_cell {w : World} {L t n c g i : Nat} {xs : List Value} {x : Value} (h : w.ownsRow L t 1 (.slice (some ⟨g, 0, none⟩) n c) n xs) (hx : xs[i]? = some x) : w.cell? ⟨g, i, none⟩ = some x := by
  have := h.cells (g := g) rfl i x hx
  rwa [addr_add, Nat.zero_add] at this
set_option maxRecDepth 100000 in
set_option maxHeartbeats 6400000 in
/-- The lists are as they were; then they are written full, grown, and whole. -/
theorem lately_any {L kb : Nat} {vI vW : Value} {es : List LE} (w : World) (hK : KL L kb vI vW es w) (hel : es.length ≤ 10000) :
    Calls Try.prog 42 #[.pointer (some ⟨kb, 0, none⟩)] w fun r w' => r = .returned (.bool true) ∧ Chg (KLB kb vI vW es) w w' := by
  obtain ⟨io, ci, hii, _⟩ := own_slice hK.xi
  obtain ⟨wo, cw, hww, _⟩ := own_slice hK.xw
  obtain ⟨ne, hne⟩ : ∃ ne, ne = es.length := ⟨_, rfl⟩
  rw [← hne] at hii hww hel
  subst hii hww
  have c1 : w.cell? ⟨kb, 1, none⟩ = some (.slice io ne ci) := hK.blk.cell 1
  have c2 : w.cell? ⟨kb, 2, none⟩ = some (.slice wo ne cw) := hK.blk.cell 2
  have HK : Hid _ := hK
  have HNE : Hid (ne = es.length) := hne
  have HLO : Hid (∀ k, LO es k → k ≠ kb ∧ (Value.slice io ne ci).ownBlock ≠ some k) := fun k ⟨e, he, hk⟩ => ⟨kb_ne (hK.el e he) hK.blk (by decide) k hk, ty_ne (hK.el e he) hK.xi (by decide) k hk⟩
  have HLT : Hid (∀ k, LO es k → k < w.heap.size) := fun k ⟨e, he, hk⟩ => (ownsRow_lt (hK.el e he) hk).2
  have HKL : Hid (kb < w.heap.size) := hK.blk.lt
  have HVI : Hid (∀ k, (Value.slice io ne ci).ownBlock = some k → k < w.heap.size) := fun k hk => (ownsRow_lt hK.xi hk).2
  clear hK hne
  go_enter Try.func42, Try.ntmps42
  go_wp2_with fail
  go_loopw [3] (fun s3 wr => ∃ i : Nat, i ≤ ne ∧ s3 = .int .i64 (i : Int) ∧ Below w.heap.size w wr) (fun s3 _ => ne - (intOf s3).toNat)
  case atStart => exact ⟨0, Nat.zero_le _, rfl, Below.refl _ _⟩
  case round =>
    obtain ⟨i, hie, rfl, hbe⟩ := hrel
    have HBE : Hid (Below w.heap.size w wr) := hbe
    have c1' : wr.cell? ⟨kb, 1, none⟩ = some (.slice io ne ci) := (hbe.cell (p := ⟨kb, 1, none⟩) (World.block_lt_of_cell? w _ c1)).trans c1
    clear hbe
    by_cases hi : i < ne
    · obtain ⟨e, he⟩ : ∃ e, es[i]? = some e := ⟨es[i]'(by rw [← HNE.out]; exact hi), List.getElem?_eq_getElem _⟩
      have hem := List.mem_of_getElem? he
      obtain ⟨el, ew, zs⟩ := e
      have hl := HK.out.el _ hem
      have hw := HK.out.ew _ hem
      have hzl := HK.out.ln _ hem
      simp only at hl hw hzl
      obtain ⟨lo, lc, hll, _⟩ := own_slice hl
      obtain ⟨xo, xc, hxx, _⟩ := own_slice hw
      obtain ⟨ln, hln⟩ : ∃ ln, ln = zs.length := ⟨_, rfl⟩
      have xi := HK.out.xi
      rw [← HNE.out] at xi
      have xw := HK.out.xw
      rw [← HNE.out] at xw
      obtain ⟨gi, rfl⟩ := row_ptr xi (by omega)
      obtain ⟨gw, rfl⟩ := row_ptr xw (by omega)
      have d2 : w.cell? ⟨gi, i, none⟩ = some el := row_cell xi (by rw [List.getElem?_map, he]; rfl)
      have d4 : w.cell? ⟨gw, i, none⟩ = some ew := row_cell xw (by rw [List.getElem?_map, he]; rfl)
      have HEL : Hid (w.ownsRow L 50 4 el zs.length (flatT zs)) := hl
      have HEW : Hid (w.ownsRow L 50 4 ew zs.length (flatT zs)) := hw
      have HZL : Hid (zs.length ≤ 1000) := hzl
      rw [← hln] at hll hxx
      subst hll hxx
      have V1 : ∀ wz, Below w.heap.size w wz → wz.cell? ⟨kb, 1, none⟩ = some (.slice (some ⟨gi, 0, none⟩) ne ci) := fun wz hw => (hw.cell (p := ⟨kb, 1, none⟩) (World.block_lt_of_cell? w _ c1)).trans c1
      have V2 : ∀ wz, Below w.heap.size w wz → wz.cell? ⟨gi, i, none⟩ = some (.slice lo ln lc) := fun wz hw => (hw.cell (p := ⟨gi, i, none⟩) (World.block_lt_of_cell? w _ d2)).trans d2
      have V3 : ∀ wz, Below w.heap.size w wz → wz.cell? ⟨kb, 2, none⟩ = some (.slice (some ⟨gw, 0, none⟩) ne cw) := fun wz hw => (hw.cell (p := ⟨kb, 2, none⟩) (World.block_lt_of_cell? w _ c2)).trans c2
      have V4 : ∀ wz, Below w.heap.size w wz → wz.cell? ⟨gw, i, none⟩ = some (.slice xo ln xc) := fun wz hw => (hw.cell (p := ⟨gw, i, none⟩) (World.block_lt_of_cell? w _ d4)).trans d4
      clear hl hw hzl xi xw he hem hln
      go_wp2_with fail
      rename_i K hK
      try rw [show ∀ a : Act, a.put none undef = a from fun _ => rfl]
      refine wp_region_mix (fun wz => Below w.heap.size w wz) (fun i => i == 14 || i == 99) 99 (by kernel_rfl) rfl (by kernel_rfl) (by kernel_rfl) (by kernel_rfl) ?_
      refine withFrP (N := 73) rfl ?_
      intro f0 F0 hff
      have e0 : f0 0 = Value.pointer (some ⟨kb, 0, none⟩) := hff 0
      have e3 : f0 3 = Value.int .i64 (i : Int) := hff 3
      clear hff
      have HCC : (fun wz => Below w.heap.size w wz) (({ wr with drawn := wr.drawn + 1 } : World)) := Below.drew HBE.out
      have HSM : Hid _ := same_yes ({ wr with drawn := wr.drawn + 1 } : World) (ownsRow_same HEL.out (fun g e => HCC.block g (ownsRow_lt HEL.out e).2)) (ownsRow_same HEW.out (fun g e => HCC.block g (ownsRow_lt HEW.out e).2)) (by have := HZL.out; omega)
      refine lyp F0 rfl HCC rfl (by omega) (wanted_none rfl) (v := Value.pointer (some ⟨kb, 0, none⟩)) (fun wr hwr => by simp only [execOp, (F0.eval 0 (by omega)).trans (show _ = Value.pointer (some ⟨kb, 0, none⟩) from by simp [upd, e0, e3])]; first | rfl | simp [go_sem]) fun Fp1 => ?_
      refine lyp Fp1 rfl HCC rfl (by omega) (wanted_none rfl) (v := Value.pointer (some ⟨kb, 0, none⟩)) (fun wr hwr => by simp only [execOp, (Fp1.eval 16 (by omega)).trans (show _ = Value.pointer (some ⟨kb, 0, none⟩) from by simp [upd, e0, e3])]; simp [go_sem]) fun Fp2 => ?_
      refine lyp Fp2 rfl HCC rfl (by omega) (wanted_none rfl) (v := Value.pointer (some ⟨kb, 1, none⟩)) (fun wr hwr => by simp only [execOp, (Fp2.eval 17 (by omega)).trans (show _ = Value.pointer (some ⟨kb, 0, none⟩) from by simp [upd, e0, e3])]; simp [go_sem]) fun Fp3 => ?_
      refine lyp Fp3 rfl HCC rfl (by omega) (wanted_none rfl) (v := Value.slice (some ⟨gi, 0, none⟩) ne ci) (fun wr hwr => by simp only [execOp, (Fp3.eval 18 (by omega)).trans (show _ = Value.pointer (some ⟨kb, 1, none⟩) from by simp [upd, e0, e3])]; simp [go_sem, V1 _ hwr]) fun Fp4 => ?_
      refine lyp Fp4 rfl HCC rfl (by omega) (wanted_none rfl) (v := Value.int .i64 (i : Int)) (fun wr hwr => by simp only [execOp, (Fp4.eval 3 (by omega)).trans (show _ = Value.int .i64 (i : Int) from by simp [upd, e0, e3])]; first | rfl | simp [go_sem]) fun Fp5 => ?_
      refine lyp Fp5 rfl HCC rfl (by omega) (wanted_none rfl) (v := Value.pointer (some ⟨gi, i, none⟩)) (fun wr hwr => by simp only [execOp, (Fp5.eval 19 (by omega)).trans (show _ = Value.slice (some ⟨gi, 0, none⟩) ne ci from by simp [upd, e0, e3]), (Fp5.eval 20 (by omega)).trans (show _ = Value.int .i64 (i : Int) from by simp [upd, e0, e3])]; simp [go_sem, hi]) fun Fp6 => ?_
      refine lyp Fp6 rfl HCC rfl (by omega) (wanted_none rfl) (v := Value.slice lo ln lc) (fun wr hwr => by simp only [execOp, (Fp6.eval 21 (by omega)).trans (show _ = Value.pointer (some ⟨gi, i, none⟩) from by simp [upd, e0, e3])]; simp [go_sem, V2 _ hwr]) fun Fp7 => ?_
      refine lyp Fp7 rfl HCC rfl (by omega) (wanted_none rfl) (v := Value.pointer (some ⟨kb, 0, none⟩)) (fun wr hwr => by simp only [execOp, (Fp7.eval 0 (by omega)).trans (show _ = Value.pointer (some ⟨kb, 0, none⟩) from by simp [upd, e0, e3])]; first | rfl | simp [go_sem]) fun Fp8 => ?_
      refine lyp Fp8 rfl HCC rfl (by omega) (wanted_none rfl) (v := Value.pointer (some ⟨kb, 0, none⟩)) (fun wr hwr => by simp only [execOp, (Fp8.eval 23 (by omega)).trans (show _ = Value.pointer (some ⟨kb, 0, none⟩) from by simp [upd, e0, e3])]; simp [go_sem]) fun Fp9 => ?_
      refine lyp Fp9 rfl HCC rfl (by omega) (wanted_none rfl) (v := Value.pointer (some ⟨kb, 2, none⟩)) (fun wr hwr => by simp only [execOp, (Fp9.eval 24 (by omega)).trans (show _ = Value.pointer (some ⟨kb, 0, none⟩) from by simp [upd, e0, e3])]; simp [go_sem]) fun Fp10 => ?_
      refine lyp Fp10 rfl HCC rfl (by omega) (wanted_none rfl) (v := Value.slice (some ⟨gw, 0, none⟩) ne cw) (fun wr hwr => by simp only [execOp, (Fp10.eval 25 (by omega)).trans (show _ = Value.pointer (some ⟨kb, 2, none⟩) from by simp [upd, e0, e3])]; simp [go_sem, V3 _ hwr]) fun Fp11 => ?_
      refine lyp Fp11 rfl HCC rfl (by omega) (wanted_none rfl) (v := Value.int .i64 (i : Int)) (fun wr hwr => by simp only [execOp, (Fp11.eval 3 (by omega)).trans (show _ = Value.int .i64 (i : Int) from by simp [upd, e0, e3])]; first | rfl | simp [go_sem]) fun Fp12 => ?_
      refine lyp Fp12 rfl HCC rfl (by omega) (wanted_none rfl) (v := Value.pointer (some ⟨gw, i, none⟩)) (fun wr hwr => by simp only [execOp, (Fp12.eval 26 (by omega)).trans (show _ = Value.slice (some ⟨gw, 0, none⟩) ne cw from by simp [upd, e0, e3]), (Fp12.eval 27 (by omega)).trans (show _ = Value.int .i64 (i : Int) from by simp [upd, e0, e3])]; simp [go_sem, hi]) fun Fp13 => ?_
      refine lyp Fp13 rfl HCC rfl (by omega) (wanted_none rfl) (v := Value.slice xo ln xc) (fun wr hwr => by simp only [execOp, (Fp13.eval 28 (by omega)).trans (show _ = Value.pointer (some ⟨gw, i, none⟩) from by simp [upd, e0, e3])]; simp [go_sem, V4 _ hwr]) fun Fp14 => ?_
      refine lcp Fp14 rfl HCC rfl (by omega) (wanted_none rfl) (g := 18) (args := #[Value.slice lo ln lc, Value.slice xo ln xc]) (by simp only [execOp, resolve, invoke, List.map_toArray, List.map_cons, List.map_nil, (Fp14.eval 22 (by omega)).trans (show _ = Value.slice lo ln lc from by simp [upd, e0, e3]), (Fp14.eval 29 (by omega)).trans (show _ = Value.slice xo ln xc from by simp [upd, e0, e3])]; simp [go_sem, Act.eval]) HSM.out ?_
      rintro e w2 ⟨rfl, hb2⟩
      refine ⟨_, rfl, fun Fp15 => ?_⟩
      have HC2 : (fun wz => Below w.heap.size w wz) w2 := HCC.trans (hb2.mono HCC.size)
      refine lyp Fp15 rfl HC2 rfl (by omega) (wanted_none rfl) (v := Value.bool false) (fun wr hwr => by simp only [execOp, (Fp15.eval 30 (by omega)).trans (show _ = Value.bool true from by simp [upd, e0, e3])]; simp [go_sem, Act.eval]) fun Fp16 => ?_
      refine ⟨fun _ => HC2, ?_⟩
      refine hK _ _ ?_
      clear F0 Fp1 Fp2 Fp3 Fp4 Fp5 Fp6 Fp7 Fp8 Fp9 Fp10 Fp11 Fp12 Fp13 Fp14 Fp15 Fp16 e0 e3 HCC
      simp only [Act.put, List.setIfInBounds_toArray, List.set_cons_succ, List.set_cons_zero]
      have HB2 : Hid (Below w.heap.size w w2) := HC2
      clear HC2 hb2 HSM V1 V2 V3 V4 d2 d4 HEL HEW HZL
      go_wp2_with fail
      go_roundw
      case rel => exact ⟨i + 1, by omega, by go_num, HB2.out⟩
      case measure => simp [intOf]; omega
    · obtain ⟨tb, htb⟩ : ∃ tb, tb = wr.heap.size := ⟨_, rfl⟩
      obtain ⟨X, hX⟩ : ∃ X, X = wr.alloc (.cells #[.bool false, .slice none 0 0, .slice none 0 0, .slice none 0 0] 64) := ⟨_, rfl⟩
      have hLw : L ≤ wr.heap.size := Nat.le_trans (Nat.le_trans HK.out.lk (Nat.le_of_lt HKL.out)) HBE.out.size
      have hbX : Below w.heap.size w X := by rw [hX]; exact HBE.out.alloc HBE.out.size _
      have hKX := HK.out.more hbX
      have hBT : Blk X tb #[.bool false, .slice none 0 0, .slice none 0 0, .slice none 0 0] 64 := by rw [hX, htb]; exact heap_alloc_new wr _
      have HF0 : Hid (LF L kb (.slice io ne ci) (.slice wo ne cw) es w tb 0 X) := ⟨hKX.blk, hKX.xi, fun j e he hj => by omega, fun j e he _ => hKX.el e (List.mem_of_getElem? he), ⟨hBT, World.ownsRow_nil _ _ _ _, World.ownsRow_nil _ _ _ _, (fun e he => by cases he), by omega⟩, Chg.ofBelow _ hbX, HLT.out, by have := HBE.out.size; omega⟩
      have HEX : Hid (X = wr.alloc (.cells #[.bool false, .slice none 0 0, .slice none 0 0, .slice none 0 0] 64)) := hX
      have HET : Hid (tb = wr.heap.size) := htb
      clear hLw hbX hKX hBT hX htb
      go_upto_region 7 with fail
      rw [← HEX.out, ← HET.out]
      clear HEX HET c1' HBE
      go_wp2_with fail
      go_loopw [5] (fun s5 wr => ∃ j : Nat, j ≤ ne ∧ s5 = .int .i64 (j : Int) ∧ LF L kb (.slice io ne ci) (.slice wo ne cw) es w tb j wr) (fun s5 _ => ne - (intOf s5).toNat)
      case atStart => exact ⟨0, Nat.zero_le _, rfl, HF0.out⟩
      case round =>
        clear HF0
        obtain ⟨j, hje, rfl, hF⟩ := hrel
        have HF : Hid _ := hF
        have e1 : wr.cell? ⟨kb, 1, none⟩ = some (.slice io ne ci) := hF.blk.cell 1
        clear hF
        by_cases hj : j < ne
        · obtain ⟨e, he⟩ : ∃ e, es[j]? = some e := ⟨es[j]'(by rw [← HNE.out]; exact hj), List.getElem?_eq_getElem _⟩
          have hzl := HK.out.ln _ (List.mem_of_getElem? he)
          have hre := HF.out.re j e he (Nat.le_refl _)
          have xi := HF.out.xi
          rw [← HNE.out] at xi
          obtain ⟨gi, rfl⟩ := row_ptr xi (by omega)
          have d2 : wr.cell? ⟨gi, j, none⟩ = some e.l := row_cell xi (by rw [List.getElem?_map, he]; rfl)
          obtain ⟨lo, lc, hll, _⟩ := own_slice hre
          have HFI : Hid _ := fill_any (m := (j : Int)) wr hre rfl (by omega)
          have HE : Hid (es[j]? = some e) := he
          clear he hre xi hzl
          rw [hll] at d2
          have HLL : Hid (e.l = .slice lo e.zs.length lc) := hll
          clear hll
          go_wp2_with fail
          rw [← HLL.out]
          refine Calls.mono HFI.out ?_
          rintro e9 w2 ⟨rfl, hr2, hc2⟩
          have HF2 : Hid _ := HF.out.step HK.out.dj HE.out hr2 hc2
          clear hr2 hc2 HFI HF d2
          rw [HLL.out]
          go_wp2_with fail
          go_roundw
          case rel => exact ⟨j + 1, by omega, by go_num, HF2.out⟩
          case measure => simp [intOf]; omega
        · have hjn : j = es.length := by have := HNE.out; omega
          have HH0 : Hid (LH L kb (.slice io ne ci) (.slice wo ne cw) es w tb 0 (.slice none 0 0) (.slice none 0 0) [] wr) := by
            have := HF.out
            rw [hjn] at this
            exact this.held
          clear HF hjn
          go_wp2_with fail
          go_loopw [6] (fun s6 wr => ∃ j : Nat, j ≤ ne ∧ s6 = .int .i64 (j : Int) ∧ ∃ v1 v2 es', LH L kb (.slice io ne ci) (.slice wo ne cw) es w tb j v1 v2 es' wr) (fun s6 _ => ne - (intOf s6).toNat)
          case atStart => exact ⟨0, Nat.zero_le _, rfl, _, _, _, HH0.out⟩
          case round =>
            clear HH0 e1
            obtain ⟨j, hje, rfl, v1, v2, es', hH⟩ := hrel
            have HH : Hid _ := hH
            have e1 : wr.cell? ⟨kb, 1, none⟩ = some (.slice io ne ci) := hH.blk.cell 1
            clear hH
            by_cases hj : j < ne
            · obtain ⟨e, he⟩ : ∃ e, es[j]? = some e := ⟨es[j]'(by rw [← HNE.out]; exact hj), List.getElem?_eq_getElem _⟩
              have hzl := HK.out.ln _ (List.mem_of_getElem? he)
              have hre := HH.out.fu j e he (Nat.le_refl _)
              have xi := HH.out.xi
              rw [← HNE.out] at xi
              obtain ⟨gi, rfl⟩ := row_ptr xi (by omega)
              have d2 : wr.cell? ⟨gi, j, none⟩ = some e.l := row_cell xi (by rw [List.getElem?_map, he]; rfl)
              obtain ⟨lo, lc, hll, _⟩ := own_slice hre
              have HHO : Hid _ := hold_any (m := (j : Int)) wr HH.out.tk hre (fun x hx g h1 h2 => by
                rcases HH.out.kb' g (.inr (.inr (.inr ⟨x, hx, h2⟩))) with q | ⟨j', f, h3, h4, h5⟩
                · have := HLT.out g ⟨e, List.mem_of_getElem? he, h1⟩; omega
                · exact dj_at HK.out.dj h3 he (by omega) g h5 h1) (by omega) (by omega) (by omega) (by have := HH.out.cn; omega)
              have HE : Hid (es[j]? = some e) := he
              clear he hre xi hzl
              rw [hll] at d2
              have HLL : Hid (e.l = .slice lo e.zs.length lc) := hll
              clear hll
              go_wp2_with fail
              rw [← HLL.out]
              refine Calls.mono HHO.out ?_
              rintro e9 w2 ⟨rfl, u1, u2, far, es2, hS2, hle2, _⟩
              have HH2 : Hid _ := HH.out.step HK.out.dj HKL.out HVI.out HLO.out HE.out hS2 hle2
              clear hS2 hle2 HHO HH d2
              rw [HLL.out]
              go_wp2_with fail
              go_roundw
              case rel => exact ⟨j + 1, by omega, by go_num, _, _, _, HH2.out⟩
              case measure => simp [intOf]; omega
            · have HWH : Hid _ := whole_early wr HH.out.tk (by have := HH.out.cn; omega)
              go_wp2_with fail
              refine Calls.mono HWH.out ?_
              rintro e9 w2 ⟨rfl, hb2⟩
              have a1 : Chg (KLB kb (.slice io ne ci) (.slice wo ne cw) es) w wr := HH.out.chg.mono (fun k _ h => by
                obtain ⟨e, he, hk⟩ := h
                exact .inr (.inr (.inr ⟨e, he, .inl hk⟩)))
              have HCF : Hid (Chg (KLB kb (.slice io ne ci) (.slice wo ne cw) es) w w2) := a1.trans (Chg.ofBelow (KLB kb (.slice io ne ci) (.slice wo ne cw) es) hb2) (fun _ _ e => e)
              clear a1
              clear hb2 HWH HH
              go_wp2_with fail
              go_ret
              exact ⟨rfl, HCF.out⟩
set_option maxRecDepth 100000 in
set_option maxHeartbeats 1600000 in
theorem whole_late {L kb : Nat} {vI vW : Value} {es : List LE} (w : World) (hK : KL L kb vI vW es w) (hel : es.length ≤ 10000) :
    Calls Try.prog 29 #[.pointer (some ⟨kb, 0, none⟩)] w fun r w' => r = .returned (.bool true) ∧ Chg (KLB kb vI vW es) w w' := by
  have c0 : w.cell? ⟨kb, 0, none⟩ = some (.bool true) := hK.blk.cell 0
  have HL : Hid _ := lately_any w hK hel
  clear hK
  go_enter Try.func29, Try.ntmps29
  go_wp2_with fail
  refine Calls.mono HL.out ?_
  rintro e w2 ⟨rfl, hc⟩
  have HC : Hid _ := hc
  clear hc HL
  go_wp2_with fail
  go_ret
  exact ⟨rfl, HC.out⟩
structure LSt where
  vI : Value
  vW : Value
  e : List LE
/-- The keep that looks at the end. -/
def late (L kb : Nat) : Keeper LSt L kb where
  Inv s w := KL L kb s.vI s.vW s.e w
  bl s := KLB kb s.vI s.vW s.e
  cnt s := s.e.length
  lt h hk := h.lt hk
  low h := Nat.le_trans h.lk (Nat.le_of_lt h.blk.lt)
  frame h hc hB := h.frame hc hB
  put {s w l zs} h hl hap hn hc := (put_late w h hl hap hn hc).mono fun r w' ⟨h0, v1, v2, es, h1, h2, h3, h4⟩ => ⟨h0, ⟨v1, v2, es⟩, h1, by show es.length ≤ s.e.length + 18; omega, h3.mono (fun k _ e => Or.inl e), h4⟩
  whole {s w} h hc := whole_late w h hc
theorem begins_late : Begins true late ⟨.slice none 0 0, .slice none 0 0, []⟩ := fun L kb w hl hb =>
  ⟨⟨hb, World.ownsRow_nil _ _ _ _, World.ownsRow_nil _ _ _ _, (fun e he => by cases he), (fun e he => by cases he), (fun e he => by cases he), (fun g h => by cases h), List.Pairwise.nil, hl⟩, rfl, fun k hk => by
    rcases hk with h | h | h | ⟨e, he, _⟩
    · exact h
    · cases h
    · cases h
    · cases he⟩
end Go.Proofs.Ytmnihombiabkgaa
