import Derived.Test.YtkdndfdofhnagaaDoorApart2
import Derived.Test.YtkdndfdofhnagaaDoorAlive
namespace Go.Proofs.YtkdndfdofhnagaaDoor
open Go.RowKit Go.PlainAid
set_option linter.unusedVariables false
set_option linter.unusedSimpArgs false
theorem Gd.up {n m : Nat} {p : PS} (h : Gd n p) (hm : n ≤ m) : Gd m p := ⟨h.full, h.fl, h.m0, by have := h.m1; omega, by have := h.ls; omega, h.ok, by have := h.made; omega⟩
/-- A run's state behind k calls. -/
structure RS (S : Sens) (L : Nat) (a : PA) (k : Nat) (W wr : World) : Prop where
  ex : ∃ p', PInv S L a p' p'.c wr ∧ Gd k p'
  bel : Below W.heap.size W wr
  le : W.heap.size ≤ L
theorem OpAt.keep {W wr : World} {b off : Nat} {o : OpA} (h : OpAt W b off o) (hb : Below W.heap.size W wr) : OpAt wr b off o := by
  have hl : b < W.heap.size := World.block_lt_of_cell? _ _ h.c0
  have hc := fun (j : Nat) => hb.cell (p := ⟨b, j, none⟩) hl
  exact ⟨(hc _).trans h.c0, (hc _).trans h.c1, (hc _).trans h.c2, (hc _).trans h.c3, h.w1, h.w2⟩
theorem PInv.apartC {S : Sens} {L n : Nat} {a : PA} {p : PS} {w : World} (h : PInv S L a p p.c w) (hG : Gd n p) (hn : n ≤ 2000) : Calls Tryd.prog 12 #[.pointer (some ⟨a.pb, 0, none⟩)] w fun e w' => e = .returned (.bool true) ∧ Chg p.z.has w w' :=
  apart_any w h.sh hG.full (by have := hG.ls; omega) h.core.low ⟨pairC a p, h.box, rfl, rfl⟩
set_option maxRecDepth 100000 in
set_option maxHeartbeats 6400000 in
theorem run_any {S : Sens} (me room : Int) (ao : Option Addr) (N cap : Nat) (os : List OpA) (lo hi : Int) (W : World) (hS : Sen S W.heap.size W) (hN : os.length = N) (hmax : N ≤ maxLen) (hat : 0 < N → ∃ b off, ao = some ⟨b, off, none⟩ ∧ ∀ i o, os[i]? = some o → OpAt W b (off + i * 4) o) :
    Calls Tryd.prog 27 #[.int .i64 me, .int .i64 room, .slice ao N cap, .int .i64 lo, .int .i64 hi] W fun e W' => e = .returned (.bool true) ∧ Below W.heap.size W W' := by
  have hmax' : N ≤ 9223372036854775807 := by simpa [maxLen] using hmax
  have HA : Hid _ := alive_any W hS (Nat.le_refl _)
  have HT : Hid _ := hat
  have HS : Hid _ := hS
  have HL : Hid _ := hN
  clear hat hS hN hmax
  by_cases hbig : (400 : Int) < N
  · go_enter Tryd.func27, Tryd.ntmps27
    go_wp2_with fail
    go_ret
    exact ⟨rfl, Below.refl _ _⟩
  by_cases hcd : ncode me room = 0
  · go_enter Tryd.func27, Tryd.ntmps27
    go_wp2_with fail
    refine Calls.mono HA.out ?_
    rintro e w1 ⟨rfl, hb1⟩
    have HM : Hid _ := made_yes w1 (HS.out.below hb1) hb1.size me room hcd
    have HB1 : Hid _ := hb1
    clear hb1
    go_wp2_with fail
    refine Calls.mono HM.out ?_
    rintro e w2 ⟨a, rfl, hI, hb2⟩
    have HR0 : Hid _ := (show RS S w1.heap.size a 0 W w2 from ⟨⟨ps0 me room, hI, gd0 me room hcd⟩, HB1.out.trans (hb2.mono HB1.out.size), HB1.out.size⟩)
    clear hI hb2 HM HB1 HA
    generalize w1.heap.size = L at *
    go_wp2_with fail
    go_loopw [14, 15, 16] (fun i _ _ wr => ∃ k : Nat, k ≤ N ∧ i = .int .i64 k ∧ RS S L a k W wr) (fun i _ _ _ => N - (intOf i).toNat)
    case atStart => exact ⟨0, Nat.zero_le _, rfl, HR0.out⟩
    case round =>
      obtain ⟨k, hk, rfl, hR⟩ := hrel
      clear HR0
      obtain ⟨p', hI, hG⟩ := hR.ex
      by_cases hlt : k < N
      · obtain ⟨⟨K, A, B, ob⟩, ho⟩ : ∃ o, os[k]? = some o := ⟨os[k]'(by rw [HL.out]; exact hlt), List.getElem?_eq_getElem _⟩
        obtain ⟨b, off, rfl, hcell⟩ := HT.out (by omega)
        obtain ⟨d0, d1, d2, d3, x1, x2⟩ := (hcell k _ ho).keep hR.bel
        simp only at d0 d1 d2 d3 x1 x2
        have HP : Hid _ := plays_any wr hI hG (by omega) K A B ob x1 x2
        have HI : Hid _ := hI
        have HG : Hid _ := hG
        have HR : Hid _ := hR
        clear hI hG hR ho hcell x1 x2
        by_cases h7 : (7 : Int) ≤ K
        · by_cases h9 : K ≤ (9 : Int)
          · by_cases hlo : K < lo
            · have HN : Hid _ := (show RS S L a (k + 1) W wr from ⟨⟨p', HI.out, HG.out.up (Nat.le_succ _)⟩, HR.out.bel, HR.out.le⟩)
              go_wp2_with fail
              go_roundw
              case rel => exact ⟨k + 1, by omega, by go_num, HN.out⟩
              case measure => simp [intOf]; omega
            · by_cases hhi : hi < K
              · have HN : Hid _ := (show RS S L a (k + 1) W wr from ⟨⟨p', HI.out, HG.out.up (Nat.le_succ _)⟩, HR.out.bel, HR.out.le⟩)
                go_wp2_with fail
                go_roundw
                case rel => exact ⟨k + 1, by omega, by go_num, HN.out⟩
                case measure => simp [intOf]; omega
              · go_wp2_with fail
                refine Calls.mono HP.out ?_
                rintro e w3 ⟨rfl, hp⟩
                obtain ⟨p2, q1, q2, q3, q4⟩ := hp.ex
                have HN : Hid _ := (show RS S L a (k + 1) W w3 from ⟨⟨p2, q1, q3⟩, HR.out.bel.trans ((HI.out.stp q2).mono HR.out.le), HR.out.le⟩)
                clear hp q1 q2 q3 q4
                go_wp2_with fail
                go_roundw
                case rel => exact ⟨k + 1, by omega, by go_num, HN.out⟩
                case measure => simp [intOf]; omega
          · go_upto_region 11 with fail
            refine wp_region_lit ?_
            refine withFrS (N := 78) rfl ?_
            intro f0 F0 hff
            have hs3 : f0 3 = Value.int .i64 lo := hff 3
            have hs4 : f0 4 = Value.int .i64 hi := hff 4
            have hs15 : f0 15 = Value.int .i64 K := hff 15
            clear hff
            refine syp F0 rfl (by omega) (wanted_none rfl) (v := Value.int .i64 K) (by simp only [execOp, (F0.eval 15 (by omega)).trans (show _ = Value.int .i64 K from by simp [upd, hs3, hs4, hs15])]; first | rfl | simp [go_sem]) fun F1 => ?_
            refine syp F1 rfl (by omega) (wanted_none rfl) (v := Value.bool true) (by simp only [execOp, (F1.eval 48 (by omega)).trans (show _ = Value.int .i64 K from by simp [upd, hs3, hs4, hs15])]; simp [go_sem, Act.eval, h7]) fun F2 => ?_
            refine syp F2 rfl (by omega) (wanted_none rfl) (v := Value.bool true) (by simp only [execOp, (F2.eval 49 (by omega)).trans (show _ = Value.bool true from by simp [upd, hs3, hs4, hs15])]; first | rfl | simp [go_sem]) fun F3 => ?_
            refine syp F3 rfl (by omega) (want_yes F3 rfl (e := 50) rfl (by omega) (show _ = Value.bool true from by simp [upd, hs3, hs4, hs15])) (v := Value.int .i64 K) (by simp only [execOp, (F3.eval 15 (by omega)).trans (show _ = Value.int .i64 K from by simp [upd, hs3, hs4, hs15])]; first | rfl | simp [go_sem]) fun F4 => ?_
            refine syp F4 rfl (by omega) (want_yes F4 rfl (e := 50) rfl (by omega) (show _ = Value.bool true from by simp [upd, hs3, hs4, hs15])) (v := Value.bool false) (by simp only [execOp, (F4.eval 51 (by omega)).trans (show _ = Value.int .i64 K from by simp [upd, hs3, hs4, hs15])]; simp [go_sem, Act.eval, h9]) fun F5 => ?_
            refine syp F5 rfl (by omega) (wanted_none rfl) (v := Value.bool false) (by simp only [execOp, (F5.eval 50 (by omega)).trans (show _ = Value.bool true from by simp [upd, hs3, hs4, hs15]), (F5.eval 52 (by omega)).trans (show _ = Value.bool false from by simp [upd, hs3, hs4, hs15])]; simp [go_sem, Act.eval]) fun F6 => ?_
            refine syp F6 rfl (by omega) (wanted_none rfl) (v := Value.bool false) (by simp only [execOp, (F6.eval 53 (by omega)).trans (show _ = Value.bool false from by simp [upd, hs3, hs4, hs15])]; first | rfl | simp [go_sem]) fun F7 => ?_
            refine snp F7 rfl (by omega) (want_no F7 rfl (e := 54) rfl (by omega) (show _ = Value.bool false from by simp [upd, hs3, hs4, hs15]) (by decide)) fun F8 => ?_
            refine snp F8 rfl (by omega) (want_no F8 rfl (e := 54) rfl (by omega) (show _ = Value.bool false from by simp [upd, hs3, hs4, hs15]) (by decide)) fun F9 => ?_
            refine snp F9 rfl (by omega) (want_no F9 rfl (e := 54) rfl (by omega) (show _ = Value.bool false from by simp [upd, hs3, hs4, hs15]) (by decide)) fun F10 => ?_
            refine snp F10 rfl (by omega) (want_no F10 rfl (e := 54) rfl (by omega) (show _ = Value.bool false from by simp [upd, hs3, hs4, hs15]) (by decide)) fun F11 => ?_
            refine snp F11 rfl (by omega) (want_not F11 rfl (e := 58) rfl (by omega) (show _ = undef from by simp [upd, hs3, hs4, hs15])) fun F12 => ?_
            refine snp F12 rfl (by omega) (want_not F12 rfl (e := 58) rfl (by omega) (show _ = undef from by simp [upd, hs3, hs4, hs15])) fun F13 => ?_
            refine snp F13 rfl (by omega) (want_not F13 rfl (e := 58) rfl (by omega) (show _ = undef from by simp [upd, hs3, hs4, hs15])) fun F14 => ?_
            refine snp F14 rfl (by omega) (want_no F14 rfl (e := 54) rfl (by omega) (show _ = Value.bool false from by simp [upd, hs3, hs4, hs15]) (by decide)) fun F15 => ?_
            refine syp F15 rfl (by omega) (wanted_none rfl) (v := Value.bool false) (by simp only [execOp, (F15.eval 54 (by omega)).trans (show _ = Value.bool false from by simp [upd, hs3, hs4, hs15])]; simp [go_sem, Act.eval]) fun F16 => ?_
            refine ⟨?_⟩
            clear F0 F1 F2 F3 F4 F5 F6 F7 F8 F9 F10 F11 F12 F13 F14 F15 F16 hs3 hs4 hs15 
            simp only [Act.put, List.setIfInBounds_toArray, List.set_cons_succ, List.set_cons_zero]
            go_wp2_with fail
            refine Calls.mono HP.out ?_
            rintro e w3 ⟨rfl, hp⟩
            obtain ⟨p2, q1, q2, q3, q4⟩ := hp.ex
            have HN : Hid _ := (show RS S L a (k + 1) W w3 from ⟨⟨p2, q1, q3⟩, HR.out.bel.trans ((HI.out.stp q2).mono HR.out.le), HR.out.le⟩)
            clear hp q1 q2 q3 q4
            go_wp2_with fail
            go_roundw
            case rel => exact ⟨k + 1, by omega, by go_num, HN.out⟩
            case measure => simp [intOf]; omega
        · go_upto_region 11 with fail
          refine wp_region_lit ?_
          refine withFrS (N := 78) rfl ?_
          intro f0 F0 hff
          have hs3 : f0 3 = Value.int .i64 lo := hff 3
          have hs4 : f0 4 = Value.int .i64 hi := hff 4
          have hs15 : f0 15 = Value.int .i64 K := hff 15
          clear hff
          refine syp F0 rfl (by omega) (wanted_none rfl) (v := Value.int .i64 K) (by simp only [execOp, (F0.eval 15 (by omega)).trans (show _ = Value.int .i64 K from by simp [upd, hs3, hs4, hs15])]; first | rfl | simp [go_sem]) fun F1 => ?_
          refine syp F1 rfl (by omega) (wanted_none rfl) (v := Value.bool false) (by simp only [execOp, (F1.eval 48 (by omega)).trans (show _ = Value.int .i64 K from by simp [upd, hs3, hs4, hs15])]; simp [go_sem, Act.eval, h7]) fun F2 => ?_
          refine syp F2 rfl (by omega) (wanted_none rfl) (v := Value.bool false) (by simp only [execOp, (F2.eval 49 (by omega)).trans (show _ = Value.bool false from by simp [upd, hs3, hs4, hs15])]; first | rfl | simp [go_sem]) fun F3 => ?_
          refine snp F3 rfl (by omega) (want_no F3 rfl (e := 50) rfl (by omega) (show _ = Value.bool false from by simp [upd, hs3, hs4, hs15]) (by decide)) fun F4 => ?_
          refine snp F4 rfl (by omega) (want_no F4 rfl (e := 50) rfl (by omega) (show _ = Value.bool false from by simp [upd, hs3, hs4, hs15]) (by decide)) fun F5 => ?_
          refine syp F5 rfl (by omega) (wanted_none rfl) (v := Value.bool false) (by simp only [execOp, (F5.eval 50 (by omega)).trans (show _ = Value.bool false from by simp [upd, hs3, hs4, hs15])]; simp [go_sem, Act.eval]) fun F6 => ?_
          refine syp F6 rfl (by omega) (wanted_none rfl) (v := Value.bool false) (by simp only [execOp, (F6.eval 53 (by omega)).trans (show _ = Value.bool false from by simp [upd, hs3, hs4, hs15])]; first | rfl | simp [go_sem]) fun F7 => ?_
          refine snp F7 rfl (by omega) (want_no F7 rfl (e := 54) rfl (by omega) (show _ = Value.bool false from by simp [upd, hs3, hs4, hs15]) (by decide)) fun F8 => ?_
          refine snp F8 rfl (by omega) (want_no F8 rfl (e := 54) rfl (by omega) (show _ = Value.bool false from by simp [upd, hs3, hs4, hs15]) (by decide)) fun F9 => ?_
          refine snp F9 rfl (by omega) (want_no F9 rfl (e := 54) rfl (by omega) (show _ = Value.bool false from by simp [upd, hs3, hs4, hs15]) (by decide)) fun F10 => ?_
          refine snp F10 rfl (by omega) (want_no F10 rfl (e := 54) rfl (by omega) (show _ = Value.bool false from by simp [upd, hs3, hs4, hs15]) (by decide)) fun F11 => ?_
          refine snp F11 rfl (by omega) (want_not F11 rfl (e := 58) rfl (by omega) (show _ = undef from by simp [upd, hs3, hs4, hs15])) fun F12 => ?_
          refine snp F12 rfl (by omega) (want_not F12 rfl (e := 58) rfl (by omega) (show _ = undef from by simp [upd, hs3, hs4, hs15])) fun F13 => ?_
          refine snp F13 rfl (by omega) (want_not F13 rfl (e := 58) rfl (by omega) (show _ = undef from by simp [upd, hs3, hs4, hs15])) fun F14 => ?_
          refine snp F14 rfl (by omega) (want_no F14 rfl (e := 54) rfl (by omega) (show _ = Value.bool false from by simp [upd, hs3, hs4, hs15]) (by decide)) fun F15 => ?_
          refine syp F15 rfl (by omega) (wanted_none rfl) (v := Value.bool false) (by simp only [execOp, (F15.eval 54 (by omega)).trans (show _ = Value.bool false from by simp [upd, hs3, hs4, hs15])]; simp [go_sem, Act.eval]) fun F16 => ?_
          refine ⟨?_⟩
          clear F0 F1 F2 F3 F4 F5 F6 F7 F8 F9 F10 F11 F12 F13 F14 F15 F16 hs3 hs4 hs15 
          simp only [Act.put, List.setIfInBounds_toArray, List.set_cons_succ, List.set_cons_zero]
          go_wp2_with fail
          refine Calls.mono HP.out ?_
          rintro e w3 ⟨rfl, hp⟩
          obtain ⟨p2, q1, q2, q3, q4⟩ := hp.ex
          have HN : Hid _ := (show RS S L a (k + 1) W w3 from ⟨⟨p2, q1, q3⟩, HR.out.bel.trans ((HI.out.stp q2).mono HR.out.le), HR.out.le⟩)
          clear hp q1 q2 q3 q4
          go_wp2_with fail
          go_roundw
          case rel => exact ⟨k + 1, by omega, by go_num, HN.out⟩
          case measure => simp [intOf]; omega
      · have HP : Hid _ := hI.apartC hG (by omega)
        have HI : Hid _ := hI
        have HR : Hid _ := hR
        clear hI hG hR
        go_wp2_with fail
        refine Calls.mono HP.out ?_
        rintro e w3 ⟨rfl, hc⟩
        have HF : Hid _ := HR.out.bel.trans ((hc.below HI.out.core.low (fun k hk => (HI.out.sh.typ hk).1)).mono HR.out.le)
        clear hc
        go_wp2_with fail
        go_ret
        exact ⟨rfl, HF.out⟩
  · go_enter Tryd.func27, Tryd.ntmps27
    go_wp2_with fail
    refine Calls.mono HA.out ?_
    rintro e w1 ⟨rfl, hb1⟩
    have HM : Hid _ := made_no w1 me room hcd
    have HB1 : Hid _ := hb1
    clear hb1
    go_wp2_with fail
    refine Calls.mono HM.out ?_
    rintro e w2 ⟨rfl, hw2⟩
    replace hw2 := hw2.symm
    subst hw2
    clear HM
    go_wp2_with fail
    go_loopw [14, 15, 16] (fun i _ _ wr => i = .int .i64 (0 : Nat) ∧ wr = w1) (fun i _ _ _ => 0)
    case atStart => exact ⟨rfl, rfl⟩
    case round =>
      obtain ⟨rfl, rfl⟩ := hrel
      by_cases hlt : 0 < N
      · go_wp2_with fail
        go_ret
        exact ⟨rfl, HB1.out⟩
      · go_wp2_with fail
        go_ret
        exact ⟨rfl, HB1.out⟩
set_option maxRecDepth 100000 in
theorem holdsEnds_law {S : Sens} (me room : Int) (ao : Option Addr) (N cap : Nat) (os : List OpA) (W : World) (hS : Sen S W.heap.size W) (hN : os.length = N) (hmax : N ≤ maxLen) (hat : 0 < N → ∃ b off, ao = some ⟨b, off, none⟩ ∧ ∀ i o, os[i]? = some o → OpAt W b (off + i * 4) o) :
    Calls Tryd.prog 6 #[.int .i64 me, .int .i64 room, .slice ao N cap] W fun e W' => e = .returned (.bool true) ∧ Below W.heap.size W W' := by
  have HR : Hid _ := run_any me room ao N cap os 0 0 W hS hN hmax hat
  clear hS hat hN hmax
  go_enter Tryd.func6, Tryd.ntmps6
  go_wp2_with fail
  refine Calls.mono HR.out ?_
  rintro e w1 ⟨rfl, hb1⟩
  have HB : Hid _ := hb1
  clear hb1
  go_wp2_with fail
  go_ret
  exact ⟨rfl, HB.out⟩
set_option maxRecDepth 100000 in
theorem holdsLooks_law {S : Sens} (me room : Int) (ao : Option Addr) (N cap : Nat) (os : List OpA) (W : World) (hS : Sen S W.heap.size W) (hN : os.length = N) (hmax : N ≤ maxLen) (hat : 0 < N → ∃ b off, ao = some ⟨b, off, none⟩ ∧ ∀ i o, os[i]? = some o → OpAt W b (off + i * 4) o) :
    Calls Tryd.prog 7 #[.int .i64 me, .int .i64 room, .slice ao N cap] W fun e W' => e = .returned (.bool true) ∧ Below W.heap.size W W' := by
  have HR : Hid _ := run_any me room ao N cap os 7 9 W hS hN hmax hat
  clear hS hat hN hmax
  go_enter Tryd.func7, Tryd.ntmps7
  go_wp2_with fail
  refine Calls.mono HR.out ?_
  rintro e w1 ⟨rfl, hb1⟩
  have HB : Hid _ := hb1
  clear hb1
  go_wp2_with fail
  go_ret
  exact ⟨rfl, HB.out⟩
end Go.Proofs.YtkdndfdofhnagaaDoor
