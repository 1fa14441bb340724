import Derived.Test.YtdblbjcdnkiepaaJoinE
import Derived.Deep.Cut
namespace Go.Proofs.Ytdblbjcdnkiepaa
open Go.RowKit Go.PlainAid Go.MapKept
set_option linter.unusedVariables false
set_option linter.unusedSimpArgs false
set_option maxRecDepth 100000 in
set_option maxHeartbeats 12800000 in
theorem runs_10 (me peer n lo hi : Int) (ao : Option Addr) (Ns cap : Nat) (os : List OpA) (w : World) (hcm : Ns ≤ maxLen) (hr : RunOk (fun _ => True) ao Ns os w) (ha : newCode me n = 0) (hb : newCode peer n ≠ 0) :
    Calls Try.prog 20 #[.int .i64 me, .int .i64 peer, .int .i64 n, .slice ao Ns cap, .int .i64 lo, .int .i64 hi] w fun e w' => e = .returned (.bool true) ∧ Below w.heap.size w w' := by
  unfold maxLen at hcm
  have HR : Hid (RunOk (fun _ => True) ao Ns os w) := hr
  obtain ⟨N, hnN⟩ : ∃ N : Nat, n = N := ⟨n.toNat, by
    unfold newCode at ha
    split at ha
    · cases ha
    · omega⟩
  have hN16 : N ≤ 16 := by
    unfold newCode at ha
    split at ha
    · cases ha
    · omega
  subst hnN
  have HMA : Hid (∀ W, _) := fun W => made_pp me N W ha
  have HMB : Hid (∀ W, _) := fun W => made_none peer (N : Int) W hb
  clear hr ha hb
  go_enter Try.func20, Try.ntmps20
  go_wp2_with fail
  refine Calls.mono (alive_any w) ?_
  rintro e9 w1 ⟨rfl, hb1⟩
  have HB1 : Hid (Below w.heap.size w w1) := hb1
  clear hb1
  go_wp2_with fail
  refine Calls.mono (HMA.out w1) ?_
  rintro e9 w2 ⟨pa, hba, mba, rba, bka, rfl, hpa, _, g1, g2, g3, _, hb2⟩
  obtain ⟨hia2, hoa⟩ := In2.ofMade (L0 := w.heap.size) hpa HB1.out.size g1 g2 g3
  obtain ⟨ia, hia⟩ : ∃ ia : PI, ia = ⟨pa, hba, mba, rba, me⟩ := ⟨_, rfl⟩
  rw [← hia] at hia2 hoa
  have hpb : pa = ia.pb := by rw [hia]
  subst hpb
  have HIA2 : Hid (In2 w.heap.size N 0 (.pointer (some ⟨bka, 0, none⟩)) ia ⟨.slice none 0 0, [], []⟩ w2) := hia2
  have HB2 : Hid (Below w.heap.size w w2) := HB1.out.trans (hb2.mono HB1.out.size)
  clear hpa g1 g2 g3 hb2 hia2 hoa hia
  clear HMA HB1
  go_wp2_with fail
  refine Calls.mono (HMB.out w2) ?_
  rintro e9 w3 ⟨rfl, hw3⟩
  replace hw3 := hw3.symm
  subst hw3
  have HB3 : Hid (Below w.heap.size w w2) := HB2.out
  have HIA3 : Hid (In2 w.heap.size N 0 (.pointer (some ⟨bka, 0, none⟩)) ia ⟨.slice none 0 0, [], []⟩ w2) := HIA2.out
  clear HMB HB2 HIA2
  obtain ⟨kb, hkb⟩ : ∃ kb, kb = w2.heap.size := ⟨_, rfl⟩
  obtain ⟨W4, hW4⟩ : ∃ W4, W4 = w2.alloc (.cells #[.slice none 0 0, .slice none 0 0] 90) := ⟨_, rfl⟩
  have hb4 : Below w2.heap.size w2 W4 := by rw [hW4]; exact (Below.refl _ _).alloc (Nat.le_refl _) _
  have HKL : Hid (w.heap.size ≤ kb) := show w.heap.size ≤ kb from by rw [hkb]; exact HB3.out.size
  have HK4 : Hid (Blk W4 kb #[.slice none 0 0, .slice none 0 0] 90) := show Blk W4 kb #[.slice none 0 0, .slice none 0 0] 90 from by rw [hW4, hkb]; exact heap_alloc_new _ _
  have HB4 : Hid (Below w.heap.size w W4) := HB3.out.trans (hb4.mono HB3.out.size)
  have HIA4 : Hid (In2 w.heap.size N 0 (.pointer (some ⟨bka, 0, none⟩)) ia ⟨.slice none 0 0, [], []⟩ W4) := HIA3.out.more hb4
  go_upto_region 7 with fail
  rw [← hW4, ← hkb]
  clear hW4 hkb hb4 HB3 HIA3
  obtain ⟨W5, hW5⟩ : ∃ W5, W5 = W4.setCell ⟨ia.pb, 4, none⟩ (.pointer (some ⟨kb, 0, none⟩)) := ⟨_, rfl⟩
  obtain ⟨hia5, hc5⟩ := HIA4.out.setBook (.pointer (some ⟨kb, 0, none⟩))
  rw [← hW5] at hia5 hc5
  have HIA5 : Hid (In2 w.heap.size N 0 (.pointer (some ⟨kb, 0, none⟩)) ia ⟨.slice none 0 0, [], []⟩ W5) := hia5
  have HK5 : Hid (Blk W5 kb #[.slice none 0 0, .slice none 0 0] 90) := hc5.blk HK4.out (HIA4.out.book HK4.out)
  have HB5 : Hid (Below w.heap.size w W5) := HB4.out.trans (hc5.below HB4.out.size (fun k hk => HIA4.out.ge hk))
  have d4 : W4.cell? ⟨ia.pb, 4, none⟩ = some (.pointer (some ⟨bka, 0, none⟩)) := HIA4.out.pp.box.cell 4
  have f4 : W4.frozen? ⟨ia.pb, 4, none⟩ = false := HIA4.out.pp.box.frozen 4
  go_upto_region 9 with fail
  rw [← hW5]
  clear hW5 hia5 hc5 d4 f4 HIA4 HK4 HB4
  have HI0 : Hid (RI w N kb [ia] 0 W5) := RI.start (fun i hi => by rw [List.mem_singleton.1 hi]; exact HIA5.out) (List.pairwise_singleton _ _) HK5.out HKL.out HB5.out
  clear HIA5 HK5 HB5 HKL
  go_wp2_with fail
  go_loopw [19] (fun s19 wr => ∃ (k : Nat), k ≤ 200 ∧ k ≤ Ns ∧ s19 = .int .i64 k ∧ RI w N kb [ia] k wr) (fun s19 _ => Ns - (intOf s19).toNat)
  case atStart => exact ⟨0, by omega, by omega, rfl, HI0.out⟩
  case round =>
    obtain ⟨k, hk200, hkN, rfl, hri⟩ := hrel
    clear HI0
    have HI : Hid (RI w N kb [ia] k wr) := hri
    clear hri
    by_cases hkl : k < Ns
    · by_cases hk2 : k < 200
      · obtain ⟨hl0, hok0, hat0⟩ := HR.out
        obtain ⟨o, ho⟩ : ∃ o, os[k]? = some o := ⟨_, List.getElem?_eq_getElem (by rw [hl0]; exact hkl)⟩
        have HOK : Hid o.ok := hok0 o (List.mem_of_getElem? ho)
        obtain ⟨b, off, hao, hcell⟩ := hat0 (by omega)
        subst hao
        have HOA : Hid (OpAt w b (off + k * 9) o) := hcell k o ho
        obtain ⟨x0, x1, x2, x3, x4, x5, x6, x7, x8, _⟩ := HOA.out.below HI.out.bel
        obtain ⟨ob, hob⟩ : ∃ ob, ob = wr.heap.size := ⟨_, rfl⟩
        obtain ⟨X, hX⟩ : ∃ X, X = wr.alloc (.cells #[.int .i64 o.k, .int .i64 o.who, .int .i64 o.a, .int .i64 o.b, .int .i64 o.h, .string ⟨o.n.toArray⟩, .int .i64 o.d, .int .i64 o.u, .slice o.la o.K o.cap] 92) := ⟨_, rfl⟩
        have HBX : Hid (Below wr.heap.size wr X) := show Below wr.heap.size wr X from by rw [hX]; exact (Below.refl _ _).alloc (Nat.le_refl _) _
        have hBo : Blk X ob #[.int .i64 o.k, .int .i64 o.who, .int .i64 o.a, .int .i64 o.b, .int .i64 o.h, .string ⟨o.n.toArray⟩, .int .i64 o.d, .int .i64 o.u, .slice o.la o.K o.cap] 92 := by rw [hX, hob]; exact heap_alloc_new wr _
        have HIX : Hid (RI w N kb [ia] k X) := HI.out.more HBX.out
        clear ho hcell hl0 hok0 hat0
        go_upto_region 15 with fail
        rw [← hX, ← hob]
        clear hX hob x0 x1 x2 x3 x4 x5 x6 x7 x8
        have x0 : X.cell? ⟨ob, 0, none⟩ = some (.int .i64 o.k) := hBo.cell 0
        have x1 : X.cell? ⟨ob, 1, none⟩ = some (.int .i64 o.who) := hBo.cell 1
        have x2 : X.cell? ⟨ob, 2, none⟩ = some (.int .i64 o.a) := hBo.cell 2
        have x3 : X.cell? ⟨ob, 3, none⟩ = some (.int .i64 o.b) := hBo.cell 3
        have x4 : X.cell? ⟨ob, 4, none⟩ = some (.int .i64 o.h) := hBo.cell 4
        have x5 : X.cell? ⟨ob, 5, none⟩ = some (.string ⟨o.n.toArray⟩) := hBo.cell 5
        have x6 : X.cell? ⟨ob, 6, none⟩ = some (.int .i64 o.d) := hBo.cell 6
        have x7 : X.cell? ⟨ob, 7, none⟩ = some (.int .i64 o.u) := hBo.cell 7
        have x8 : X.cell? ⟨ob, 8, none⟩ = some (.slice o.la o.K o.cap) := hBo.cell 8
        clear hBo
        by_cases hw1 : o.who = 1
        · have hwb : (o.who == 1) = true := by simpa using hw1
          clear hw1
          go_upto_region 20 with fail
          refine wp_region_lit ?_
          refine withFrS (N := 113) rfl ?_
          intro f0 F0 hff
          have hs21 : f0 21 = Value.pointer none := hff 21
          have hs20 : f0 20 = Value.pointer (some ⟨ob, 0, none⟩) := hff 20
          have hs4 : f0 4 = Value.int .i64 lo := hff 4
          have hs5 : f0 5 = Value.int .i64 hi := hff 5
          clear hff
          refine syp F0 rfl (by omega) (wanted_none rfl) (v := Value.pointer none) (by simp only [execOp, (F0.eval 21 (by omega)).trans (show _ = Value.pointer none from by simp [upd, hs21, hs20, hs4, hs5])]; first | rfl | simp [go_sem]) fun F1 => ?_
          refine syp F1 rfl (by omega) (wanted_none rfl) (v := Value.bool true) (by simp only [execOp, (F1.eval 81 (by omega)).trans (show _ = Value.pointer none from by simp [upd, hs21, hs20, hs4, hs5])]; simp [go_sem, Act.eval]) fun F2 => ?_
          refine syp F2 rfl (by omega) (wanted_none rfl) (v := Value.bool true) (by simp only [execOp, (F2.eval 82 (by omega)).trans (show _ = Value.bool true from by simp [upd, hs21, hs20, hs4, hs5])]; first | rfl | simp [go_sem]) fun F3 => ?_
          refine snp F3 rfl (by omega) (want_no F3 rfl (e := 83) rfl (by omega) (show _ = Value.bool true from by simp [upd, hs21, hs20, hs4, hs5]) (by decide)) fun F4 => ?_
          refine snp F4 rfl (by omega) (want_no F4 rfl (e := 83) rfl (by omega) (show _ = Value.bool true from by simp [upd, hs21, hs20, hs4, hs5]) (by decide)) fun F5 => ?_
          refine snp F5 rfl (by omega) (want_no F5 rfl (e := 83) rfl (by omega) (show _ = Value.bool true from by simp [upd, hs21, hs20, hs4, hs5]) (by decide)) fun F6 => ?_
          refine snp F6 rfl (by omega) (want_no F6 rfl (e := 83) rfl (by omega) (show _ = Value.bool true from by simp [upd, hs21, hs20, hs4, hs5]) (by decide)) fun F7 => ?_
          refine snp F7 rfl (by omega) (want_not F7 rfl (e := 87) rfl (by omega) (show _ = undef from by simp [upd, hs21, hs20, hs4, hs5])) fun F8 => ?_
          refine snp F8 rfl (by omega) (want_not F8 rfl (e := 87) rfl (by omega) (show _ = undef from by simp [upd, hs21, hs20, hs4, hs5])) fun F9 => ?_
          refine snp F9 rfl (by omega) (want_not F9 rfl (e := 87) rfl (by omega) (show _ = undef from by simp [upd, hs21, hs20, hs4, hs5])) fun F10 => ?_
          refine snp F10 rfl (by omega) (want_no F10 rfl (e := 83) rfl (by omega) (show _ = Value.bool true from by simp [upd, hs21, hs20, hs4, hs5]) (by decide)) fun F11 => ?_
          refine snp F11 rfl (by omega) (want_no F11 rfl (e := 83) rfl (by omega) (show _ = Value.bool true from by simp [upd, hs21, hs20, hs4, hs5]) (by decide)) fun F12 => ?_
          refine snp F12 rfl (by omega) (want_not F12 rfl (e := 92) rfl (by omega) (show _ = undef from by simp [upd, hs21, hs20, hs4, hs5])) fun F13 => ?_
          refine snp F13 rfl (by omega) (want_not F13 rfl (e := 92) rfl (by omega) (show _ = undef from by simp [upd, hs21, hs20, hs4, hs5])) fun F14 => ?_
          refine snp F14 rfl (by omega) (want_not F14 rfl (e := 92) rfl (by omega) (show _ = undef from by simp [upd, hs21, hs20, hs4, hs5])) fun F15 => ?_
          refine snp F15 rfl (by omega) (want_not F15 rfl (e := 92) rfl (by omega) (show _ = undef from by simp [upd, hs21, hs20, hs4, hs5])) fun F16 => ?_
          refine snp F16 rfl (by omega) (want_not F16 rfl (e := 92) rfl (by omega) (show _ = undef from by simp [upd, hs21, hs20, hs4, hs5])) fun F17 => ?_
          refine snp F17 rfl (by omega) (want_not F17 rfl (e := 97) rfl (by omega) (show _ = undef from by simp [upd, hs21, hs20, hs4, hs5])) fun F18 => ?_
          refine snp F18 rfl (by omega) (want_not F18 rfl (e := 97) rfl (by omega) (show _ = undef from by simp [upd, hs21, hs20, hs4, hs5])) fun F19 => ?_
          refine snp F19 rfl (by omega) (want_not F19 rfl (e := 97) rfl (by omega) (show _ = undef from by simp [upd, hs21, hs20, hs4, hs5])) fun F20 => ?_
          refine snp F20 rfl (by omega) (want_not F20 rfl (e := 97) rfl (by omega) (show _ = undef from by simp [upd, hs21, hs20, hs4, hs5])) fun F21 => ?_
          refine snp F21 rfl (by omega) (want_not F21 rfl (e := 92) rfl (by omega) (show _ = undef from by simp [upd, hs21, hs20, hs4, hs5])) fun F22 => ?_
          refine snp F22 rfl (by omega) (want_no F22 rfl (e := 83) rfl (by omega) (show _ = Value.bool true from by simp [upd, hs21, hs20, hs4, hs5]) (by decide)) fun F23 => ?_
          refine syp F23 rfl (by omega) (wanted_none rfl) (v := Value.bool true) (by simp only [execOp, (F23.eval 83 (by omega)).trans (show _ = Value.bool true from by simp [upd, hs21, hs20, hs4, hs5])]; simp [go_sem, Act.eval]) fun F24 => ?_
          refine ⟨?_⟩
          clear F0 F1 F2 F3 F4 F5 F6 F7 F8 F9 F10 F11 F12 F13 F14 F15 F16 F17 F18 F19 F20 F21 F22 F23 F24 hs21 hs20 hs4 hs5 
          simp only [Act.put, List.setIfInBounds_toArray, List.set_cons_succ, List.set_cons_zero]
          go_wp2_with fail
          go_roundw
          case rel => exact ⟨k + 1, by omega, by omega, by go_num, HIX.out.mono⟩
          case measure => simp [intOf]; omega
        · have hwb : (o.who == 1) = false := by simpa using hw1
          clear hw1
          by_cases hk3 : 3 ≤ o.k
          · by_cases hk5 : o.k ≤ 5
            · by_cases hlo : o.k < lo
              · go_upto_region 20 with fail
                refine wp_region_lit ?_
                refine withFrS (N := 113) rfl ?_
                intro f0 F0 hff
                have hs21 : f0 21 = Value.pointer (some ⟨ia.pb, 0, none⟩) := hff 21
                have hs20 : f0 20 = Value.pointer (some ⟨ob, 0, none⟩) := hff 20
                have hs4 : f0 4 = Value.int .i64 lo := hff 4
                have hs5 : f0 5 = Value.int .i64 hi := hff 5
                clear hff
                refine syp F0 rfl (by omega) (wanted_none rfl) (v := Value.pointer (some ⟨ia.pb, 0, none⟩)) (by simp only [execOp, (F0.eval 21 (by omega)).trans (show _ = Value.pointer (some ⟨ia.pb, 0, none⟩) from by simp [upd, hs21, hs20, hs4, hs5])]; first | rfl | simp [go_sem]) fun F1 => ?_
                refine syp F1 rfl (by omega) (wanted_none rfl) (v := Value.bool false) (by simp only [execOp, (F1.eval 81 (by omega)).trans (show _ = Value.pointer (some ⟨ia.pb, 0, none⟩) from by simp [upd, hs21, hs20, hs4, hs5])]; simp [go_sem, Act.eval]) fun F2 => ?_
                refine syp F2 rfl (by omega) (wanted_none rfl) (v := Value.bool false) (by simp only [execOp, (F2.eval 82 (by omega)).trans (show _ = Value.bool false from by simp [upd, hs21, hs20, hs4, hs5])]; first | rfl | simp [go_sem]) fun F3 => ?_
                refine syp F3 rfl (by omega) (want_yes F3 rfl (e := 83) rfl (by omega) (show _ = Value.bool false from by simp [upd, hs21, hs20, hs4, hs5])) (v := Value.pointer (some ⟨ob, 0, none⟩)) (by simp only [execOp, (F3.eval 20 (by omega)).trans (show _ = Value.pointer (some ⟨ob, 0, none⟩) from by simp [upd, hs21, hs20, hs4, hs5])]; simp [go_sem, Act.eval]) fun F4 => ?_
                refine syp F4 rfl (by omega) (want_yes F4 rfl (e := 83) rfl (by omega) (show _ = Value.bool false from by simp [upd, hs21, hs20, hs4, hs5])) (v := Value.int .i64 o.k) (by simp only [execOp, (F4.eval 84 (by omega)).trans (show _ = Value.pointer (some ⟨ob, 0, none⟩) from by simp [upd, hs21, hs20, hs4, hs5])]; simp [go_sem, Act.eval, x0]) fun F5 => ?_
                refine syp F5 rfl (by omega) (want_yes F5 rfl (e := 83) rfl (by omega) (show _ = Value.bool false from by simp [upd, hs21, hs20, hs4, hs5])) (v := Value.bool true) (by simp only [execOp, (F5.eval 85 (by omega)).trans (show _ = Value.int .i64 o.k from by simp [upd, hs21, hs20, hs4, hs5])]; simp [go_sem, Act.eval, hk3]) fun F6 => ?_
                refine syp F6 rfl (by omega) (want_yes F6 rfl (e := 83) rfl (by omega) (show _ = Value.bool false from by simp [upd, hs21, hs20, hs4, hs5])) (v := Value.bool true) (by simp only [execOp, (F6.eval 86 (by omega)).trans (show _ = Value.bool true from by simp [upd, hs21, hs20, hs4, hs5])]; first | rfl | simp [go_sem]) fun F7 => ?_
                refine syp F7 rfl (by omega) (want_yes F7 rfl (e := 87) rfl (by omega) (show _ = Value.bool true from by simp [upd, hs21, hs20, hs4, hs5])) (v := Value.pointer (some ⟨ob, 0, none⟩)) (by simp only [execOp, (F7.eval 20 (by omega)).trans (show _ = Value.pointer (some ⟨ob, 0, none⟩) from by simp [upd, hs21, hs20, hs4, hs5])]; simp [go_sem, Act.eval]) fun F8 => ?_
                refine syp F8 rfl (by omega) (want_yes F8 rfl (e := 87) rfl (by omega) (show _ = Value.bool true from by simp [upd, hs21, hs20, hs4, hs5])) (v := Value.int .i64 o.k) (by simp only [execOp, (F8.eval 88 (by omega)).trans (show _ = Value.pointer (some ⟨ob, 0, none⟩) from by simp [upd, hs21, hs20, hs4, hs5])]; simp [go_sem, Act.eval, x0]) fun F9 => ?_
                refine syp F9 rfl (by omega) (want_yes F9 rfl (e := 87) rfl (by omega) (show _ = Value.bool true from by simp [upd, hs21, hs20, hs4, hs5])) (v := Value.bool true) (by simp only [execOp, (F9.eval 89 (by omega)).trans (show _ = Value.int .i64 o.k from by simp [upd, hs21, hs20, hs4, hs5])]; simp [go_sem, Act.eval, hk5]) fun F10 => ?_
                refine syp F10 rfl (by omega) (want_yes F10 rfl (e := 83) rfl (by omega) (show _ = Value.bool false from by simp [upd, hs21, hs20, hs4, hs5])) (v := Value.bool true) (by simp only [execOp, (F10.eval 87 (by omega)).trans (show _ = Value.bool true from by simp [upd, hs21, hs20, hs4, hs5]), (F10.eval 90 (by omega)).trans (show _ = Value.bool true from by simp [upd, hs21, hs20, hs4, hs5])]; simp [go_sem, Act.eval]) fun F11 => ?_
                refine syp F11 rfl (by omega) (want_yes F11 rfl (e := 83) rfl (by omega) (show _ = Value.bool false from by simp [upd, hs21, hs20, hs4, hs5])) (v := Value.bool true) (by simp only [execOp, (F11.eval 91 (by omega)).trans (show _ = Value.bool true from by simp [upd, hs21, hs20, hs4, hs5])]; first | rfl | simp [go_sem]) fun F12 => ?_
                refine syp F12 rfl (by omega) (want_yes F12 rfl (e := 92) rfl (by omega) (show _ = Value.bool true from by simp [upd, hs21, hs20, hs4, hs5])) (v := Value.pointer (some ⟨ob, 0, none⟩)) (by simp only [execOp, (F12.eval 20 (by omega)).trans (show _ = Value.pointer (some ⟨ob, 0, none⟩) from by simp [upd, hs21, hs20, hs4, hs5])]; simp [go_sem, Act.eval]) fun F13 => ?_
                refine syp F13 rfl (by omega) (want_yes F13 rfl (e := 92) rfl (by omega) (show _ = Value.bool true from by simp [upd, hs21, hs20, hs4, hs5])) (v := Value.int .i64 o.k) (by simp only [execOp, (F13.eval 93 (by omega)).trans (show _ = Value.pointer (some ⟨ob, 0, none⟩) from by simp [upd, hs21, hs20, hs4, hs5])]; simp [go_sem, Act.eval, x0]) fun F14 => ?_
                refine syp F14 rfl (by omega) (want_yes F14 rfl (e := 92) rfl (by omega) (show _ = Value.bool true from by simp [upd, hs21, hs20, hs4, hs5])) (v := Value.int .i64 lo) (by simp only [execOp, (F14.eval 4 (by omega)).trans (show _ = Value.int .i64 lo from by simp [upd, hs21, hs20, hs4, hs5])]; first | rfl | simp [go_sem]) fun F15 => ?_
                refine syp F15 rfl (by omega) (want_yes F15 rfl (e := 92) rfl (by omega) (show _ = Value.bool true from by simp [upd, hs21, hs20, hs4, hs5])) (v := Value.bool true) (by simp only [execOp, (F15.eval 94 (by omega)).trans (show _ = Value.int .i64 o.k from by simp [upd, hs21, hs20, hs4, hs5]), (F15.eval 95 (by omega)).trans (show _ = Value.int .i64 lo from by simp [upd, hs21, hs20, hs4, hs5])]; simp [go_sem, Act.eval, hlo]) fun F16 => ?_
                refine syp F16 rfl (by omega) (want_yes F16 rfl (e := 92) rfl (by omega) (show _ = Value.bool true from by simp [upd, hs21, hs20, hs4, hs5])) (v := Value.bool true) (by simp only [execOp, (F16.eval 96 (by omega)).trans (show _ = Value.bool true from by simp [upd, hs21, hs20, hs4, hs5])]; first | rfl | simp [go_sem]) fun F17 => ?_
                refine snp F17 rfl (by omega) (want_no F17 rfl (e := 97) rfl (by omega) (show _ = Value.bool true from by simp [upd, hs21, hs20, hs4, hs5]) (by decide)) fun F18 => ?_
                refine snp F18 rfl (by omega) (want_no F18 rfl (e := 97) rfl (by omega) (show _ = Value.bool true from by simp [upd, hs21, hs20, hs4, hs5]) (by decide)) fun F19 => ?_
                refine snp F19 rfl (by omega) (want_no F19 rfl (e := 97) rfl (by omega) (show _ = Value.bool true from by simp [upd, hs21, hs20, hs4, hs5]) (by decide)) fun F20 => ?_
                refine snp F20 rfl (by omega) (want_no F20 rfl (e := 97) rfl (by omega) (show _ = Value.bool true from by simp [upd, hs21, hs20, hs4, hs5]) (by decide)) fun F21 => ?_
                refine syp F21 rfl (by omega) (want_yes F21 rfl (e := 92) rfl (by omega) (show _ = Value.bool true from by simp [upd, hs21, hs20, hs4, hs5])) (v := Value.bool true) (by simp only [execOp, (F21.eval 97 (by omega)).trans (show _ = Value.bool true from by simp [upd, hs21, hs20, hs4, hs5])]; simp [go_sem, Act.eval]) fun F22 => ?_
                refine syp F22 rfl (by omega) (want_yes F22 rfl (e := 83) rfl (by omega) (show _ = Value.bool false from by simp [upd, hs21, hs20, hs4, hs5])) (v := Value.bool true) (by simp only [execOp, (F22.eval 92 (by omega)).trans (show _ = Value.bool true from by simp [upd, hs21, hs20, hs4, hs5]), (F22.eval 102 (by omega)).trans (show _ = Value.bool true from by simp [upd, hs21, hs20, hs4, hs5])]; simp [go_sem, Act.eval]) fun F23 => ?_
                refine syp F23 rfl (by omega) (wanted_none rfl) (v := Value.bool true) (by simp only [execOp, (F23.eval 83 (by omega)).trans (show _ = Value.bool false from by simp [upd, hs21, hs20, hs4, hs5]), (F23.eval 103 (by omega)).trans (show _ = Value.bool true from by simp [upd, hs21, hs20, hs4, hs5])]; simp [go_sem, Act.eval]) fun F24 => ?_
                refine ⟨?_⟩
                clear F0 F1 F2 F3 F4 F5 F6 F7 F8 F9 F10 F11 F12 F13 F14 F15 F16 F17 F18 F19 F20 F21 F22 F23 F24 hs21 hs20 hs4 hs5 
                simp only [Act.put, List.setIfInBounds_toArray, List.set_cons_succ, List.set_cons_zero]
                go_wp2_with fail
                go_roundw
                case rel => exact ⟨k + 1, by omega, by omega, by go_num, HIX.out.mono⟩
                case measure => simp [intOf]; omega
              · by_cases hhi : hi < o.k
                · go_upto_region 20 with fail
                  refine wp_region_lit ?_
                  refine withFrS (N := 113) rfl ?_
                  intro f0 F0 hff
                  have hs21 : f0 21 = Value.pointer (some ⟨ia.pb, 0, none⟩) := hff 21
                  have hs20 : f0 20 = Value.pointer (some ⟨ob, 0, none⟩) := hff 20
                  have hs4 : f0 4 = Value.int .i64 lo := hff 4
                  have hs5 : f0 5 = Value.int .i64 hi := hff 5
                  clear hff
                  refine syp F0 rfl (by omega) (wanted_none rfl) (v := Value.pointer (some ⟨ia.pb, 0, none⟩)) (by simp only [execOp, (F0.eval 21 (by omega)).trans (show _ = Value.pointer (some ⟨ia.pb, 0, none⟩) from by simp [upd, hs21, hs20, hs4, hs5])]; first | rfl | simp [go_sem]) fun F1 => ?_
                  refine syp F1 rfl (by omega) (wanted_none rfl) (v := Value.bool false) (by simp only [execOp, (F1.eval 81 (by omega)).trans (show _ = Value.pointer (some ⟨ia.pb, 0, none⟩) from by simp [upd, hs21, hs20, hs4, hs5])]; simp [go_sem, Act.eval]) fun F2 => ?_
                  refine syp F2 rfl (by omega) (wanted_none rfl) (v := Value.bool false) (by simp only [execOp, (F2.eval 82 (by omega)).trans (show _ = Value.bool false from by simp [upd, hs21, hs20, hs4, hs5])]; first | rfl | simp [go_sem]) fun F3 => ?_
                  refine syp F3 rfl (by omega) (want_yes F3 rfl (e := 83) rfl (by omega) (show _ = Value.bool false from by simp [upd, hs21, hs20, hs4, hs5])) (v := Value.pointer (some ⟨ob, 0, none⟩)) (by simp only [execOp, (F3.eval 20 (by omega)).trans (show _ = Value.pointer (some ⟨ob, 0, none⟩) from by simp [upd, hs21, hs20, hs4, hs5])]; simp [go_sem, Act.eval]) fun F4 => ?_
                  refine syp F4 rfl (by omega) (want_yes F4 rfl (e := 83) rfl (by omega) (show _ = Value.bool false from by simp [upd, hs21, hs20, hs4, hs5])) (v := Value.int .i64 o.k) (by simp only [execOp, (F4.eval 84 (by omega)).trans (show _ = Value.pointer (some ⟨ob, 0, none⟩) from by simp [upd, hs21, hs20, hs4, hs5])]; simp [go_sem, Act.eval, x0]) fun F5 => ?_
                  refine syp F5 rfl (by omega) (want_yes F5 rfl (e := 83) rfl (by omega) (show _ = Value.bool false from by simp [upd, hs21, hs20, hs4, hs5])) (v := Value.bool true) (by simp only [execOp, (F5.eval 85 (by omega)).trans (show _ = Value.int .i64 o.k from by simp [upd, hs21, hs20, hs4, hs5])]; simp [go_sem, Act.eval, hk3]) fun F6 => ?_
                  refine syp F6 rfl (by omega) (want_yes F6 rfl (e := 83) rfl (by omega) (show _ = Value.bool false from by simp [upd, hs21, hs20, hs4, hs5])) (v := Value.bool true) (by simp only [execOp, (F6.eval 86 (by omega)).trans (show _ = Value.bool true from by simp [upd, hs21, hs20, hs4, hs5])]; first | rfl | simp [go_sem]) fun F7 => ?_
                  refine syp F7 rfl (by omega) (want_yes F7 rfl (e := 87) rfl (by omega) (show _ = Value.bool true from by simp [upd, hs21, hs20, hs4, hs5])) (v := Value.pointer (some ⟨ob, 0, none⟩)) (by simp only [execOp, (F7.eval 20 (by omega)).trans (show _ = Value.pointer (some ⟨ob, 0, none⟩) from by simp [upd, hs21, hs20, hs4, hs5])]; simp [go_sem, Act.eval]) fun F8 => ?_
                  refine syp F8 rfl (by omega) (want_yes F8 rfl (e := 87) rfl (by omega) (show _ = Value.bool true from by simp [upd, hs21, hs20, hs4, hs5])) (v := Value.int .i64 o.k) (by simp only [execOp, (F8.eval 88 (by omega)).trans (show _ = Value.pointer (some ⟨ob, 0, none⟩) from by simp [upd, hs21, hs20, hs4, hs5])]; simp [go_sem, Act.eval, x0]) fun F9 => ?_
                  refine syp F9 rfl (by omega) (want_yes F9 rfl (e := 87) rfl (by omega) (show _ = Value.bool true from by simp [upd, hs21, hs20, hs4, hs5])) (v := Value.bool true) (by simp only [execOp, (F9.eval 89 (by omega)).trans (show _ = Value.int .i64 o.k from by simp [upd, hs21, hs20, hs4, hs5])]; simp [go_sem, Act.eval, hk5]) fun F10 => ?_
                  refine syp F10 rfl (by omega) (want_yes F10 rfl (e := 83) rfl (by omega) (show _ = Value.bool false from by simp [upd, hs21, hs20, hs4, hs5])) (v := Value.bool true) (by simp only [execOp, (F10.eval 87 (by omega)).trans (show _ = Value.bool true from by simp [upd, hs21, hs20, hs4, hs5]), (F10.eval 90 (by omega)).trans (show _ = Value.bool true from by simp [upd, hs21, hs20, hs4, hs5])]; simp [go_sem, Act.eval]) fun F11 => ?_
                  refine syp F11 rfl (by omega) (want_yes F11 rfl (e := 83) rfl (by omega) (show _ = Value.bool false from by simp [upd, hs21, hs20, hs4, hs5])) (v := Value.bool true) (by simp only [execOp, (F11.eval 91 (by omega)).trans (show _ = Value.bool true from by simp [upd, hs21, hs20, hs4, hs5])]; first | rfl | simp [go_sem]) fun F12 => ?_
                  refine syp F12 rfl (by omega) (want_yes F12 rfl (e := 92) rfl (by omega) (show _ = Value.bool true from by simp [upd, hs21, hs20, hs4, hs5])) (v := Value.pointer (some ⟨ob, 0, none⟩)) (by simp only [execOp, (F12.eval 20 (by omega)).trans (show _ = Value.pointer (some ⟨ob, 0, none⟩) from by simp [upd, hs21, hs20, hs4, hs5])]; simp [go_sem, Act.eval]) fun F13 => ?_
                  refine syp F13 rfl (by omega) (want_yes F13 rfl (e := 92) rfl (by omega) (show _ = Value.bool true from by simp [upd, hs21, hs20, hs4, hs5])) (v := Value.int .i64 o.k) (by simp only [execOp, (F13.eval 93 (by omega)).trans (show _ = Value.pointer (some ⟨ob, 0, none⟩) from by simp [upd, hs21, hs20, hs4, hs5])]; simp [go_sem, Act.eval, x0]) fun F14 => ?_
                  refine syp F14 rfl (by omega) (want_yes F14 rfl (e := 92) rfl (by omega) (show _ = Value.bool true from by simp [upd, hs21, hs20, hs4, hs5])) (v := Value.int .i64 lo) (by simp only [execOp, (F14.eval 4 (by omega)).trans (show _ = Value.int .i64 lo from by simp [upd, hs21, hs20, hs4, hs5])]; first | rfl | simp [go_sem]) fun F15 => ?_
                  refine syp F15 rfl (by omega) (want_yes F15 rfl (e := 92) rfl (by omega) (show _ = Value.bool true from by simp [upd, hs21, hs20, hs4, hs5])) (v := Value.bool false) (by simp only [execOp, (F15.eval 94 (by omega)).trans (show _ = Value.int .i64 o.k from by simp [upd, hs21, hs20, hs4, hs5]), (F15.eval 95 (by omega)).trans (show _ = Value.int .i64 lo from by simp [upd, hs21, hs20, hs4, hs5])]; simp [go_sem, Act.eval, hlo]) fun F16 => ?_
                  refine syp F16 rfl (by omega) (want_yes F16 rfl (e := 92) rfl (by omega) (show _ = Value.bool true from by simp [upd, hs21, hs20, hs4, hs5])) (v := Value.bool false) (by simp only [execOp, (F16.eval 96 (by omega)).trans (show _ = Value.bool false from by simp [upd, hs21, hs20, hs4, hs5])]; first | rfl | simp [go_sem]) fun F17 => ?_
                  refine syp F17 rfl (by omega) (want_yes F17 rfl (e := 97) rfl (by omega) (show _ = Value.bool false from by simp [upd, hs21, hs20, hs4, hs5])) (v := Value.pointer (some ⟨ob, 0, none⟩)) (by simp only [execOp, (F17.eval 20 (by omega)).trans (show _ = Value.pointer (some ⟨ob, 0, none⟩) from by simp [upd, hs21, hs20, hs4, hs5])]; simp [go_sem, Act.eval]) fun F18 => ?_
                  refine syp F18 rfl (by omega) (want_yes F18 rfl (e := 97) rfl (by omega) (show _ = Value.bool false from by simp [upd, hs21, hs20, hs4, hs5])) (v := Value.int .i64 o.k) (by simp only [execOp, (F18.eval 98 (by omega)).trans (show _ = Value.pointer (some ⟨ob, 0, none⟩) from by simp [upd, hs21, hs20, hs4, hs5])]; simp [go_sem, Act.eval, x0]) fun F19 => ?_
                  refine syp F19 rfl (by omega) (want_yes F19 rfl (e := 97) rfl (by omega) (show _ = Value.bool false from by simp [upd, hs21, hs20, hs4, hs5])) (v := Value.int .i64 hi) (by simp only [execOp, (F19.eval 5 (by omega)).trans (show _ = Value.int .i64 hi from by simp [upd, hs21, hs20, hs4, hs5])]; first | rfl | simp [go_sem]) fun F20 => ?_
                  refine syp F20 rfl (by omega) (want_yes F20 rfl (e := 97) rfl (by omega) (show _ = Value.bool false from by simp [upd, hs21, hs20, hs4, hs5])) (v := Value.bool true) (by simp only [execOp, (F20.eval 99 (by omega)).trans (show _ = Value.int .i64 o.k from by simp [upd, hs21, hs20, hs4, hs5]), (F20.eval 100 (by omega)).trans (show _ = Value.int .i64 hi from by simp [upd, hs21, hs20, hs4, hs5])]; simp [go_sem, Act.eval, hhi]) fun F21 => ?_
                  refine syp F21 rfl (by omega) (want_yes F21 rfl (e := 92) rfl (by omega) (show _ = Value.bool true from by simp [upd, hs21, hs20, hs4, hs5])) (v := Value.bool true) (by simp only [execOp, (F21.eval 97 (by omega)).trans (show _ = Value.bool false from by simp [upd, hs21, hs20, hs4, hs5]), (F21.eval 101 (by omega)).trans (show _ = Value.bool true from by simp [upd, hs21, hs20, hs4, hs5])]; simp [go_sem, Act.eval]) fun F22 => ?_
                  refine syp F22 rfl (by omega) (want_yes F22 rfl (e := 83) rfl (by omega) (show _ = Value.bool false from by simp [upd, hs21, hs20, hs4, hs5])) (v := Value.bool true) (by simp only [execOp, (F22.eval 92 (by omega)).trans (show _ = Value.bool true from by simp [upd, hs21, hs20, hs4, hs5]), (F22.eval 102 (by omega)).trans (show _ = Value.bool true from by simp [upd, hs21, hs20, hs4, hs5])]; simp [go_sem, Act.eval]) fun F23 => ?_
                  refine syp F23 rfl (by omega) (wanted_none rfl) (v := Value.bool true) (by simp only [execOp, (F23.eval 83 (by omega)).trans (show _ = Value.bool false from by simp [upd, hs21, hs20, hs4, hs5]), (F23.eval 103 (by omega)).trans (show _ = Value.bool true from by simp [upd, hs21, hs20, hs4, hs5])]; simp [go_sem, Act.eval]) fun F24 => ?_
                  refine ⟨?_⟩
                  clear F0 F1 F2 F3 F4 F5 F6 F7 F8 F9 F10 F11 F12 F13 F14 F15 F16 F17 F18 F19 F20 F21 F22 F23 F24 hs21 hs20 hs4 hs5 
                  simp only [Act.put, List.setIfInBounds_toArray, List.set_cons_succ, List.set_cons_zero]
                  go_wp2_with fail
                  go_roundw
                  case rel => exact ⟨k + 1, by omega, by omega, by go_num, HIX.out.mono⟩
                  case measure => simp [intOf]; omega
                · have HPL : Hid _ := HIX.out.play (i := ia) o (by simp) (by omega) hN16 HOK.out HOA.out.f (Or.inl rfl)
                  go_upto_region 20 with fail
                  refine wp_region_lit ?_
                  refine withFrS (N := 113) rfl ?_
                  intro f0 F0 hff
                  have hs21 : f0 21 = Value.pointer (some ⟨ia.pb, 0, none⟩) := hff 21
                  have hs20 : f0 20 = Value.pointer (some ⟨ob, 0, none⟩) := hff 20
                  have hs4 : f0 4 = Value.int .i64 lo := hff 4
                  have hs5 : f0 5 = Value.int .i64 hi := hff 5
                  clear hff
                  refine syp F0 rfl (by omega) (wanted_none rfl) (v := Value.pointer (some ⟨ia.pb, 0, none⟩)) (by simp only [execOp, (F0.eval 21 (by omega)).trans (show _ = Value.pointer (some ⟨ia.pb, 0, none⟩) from by simp [upd, hs21, hs20, hs4, hs5])]; first | rfl | simp [go_sem]) fun F1 => ?_
                  refine syp F1 rfl (by omega) (wanted_none rfl) (v := Value.bool false) (by simp only [execOp, (F1.eval 81 (by omega)).trans (show _ = Value.pointer (some ⟨ia.pb, 0, none⟩) from by simp [upd, hs21, hs20, hs4, hs5])]; simp [go_sem, Act.eval]) fun F2 => ?_
                  refine syp F2 rfl (by omega) (wanted_none rfl) (v := Value.bool false) (by simp only [execOp, (F2.eval 82 (by omega)).trans (show _ = Value.bool false from by simp [upd, hs21, hs20, hs4, hs5])]; first | rfl | simp [go_sem]) fun F3 => ?_
                  refine syp F3 rfl (by omega) (want_yes F3 rfl (e := 83) rfl (by omega) (show _ = Value.bool false from by simp [upd, hs21, hs20, hs4, hs5])) (v := Value.pointer (some ⟨ob, 0, none⟩)) (by simp only [execOp, (F3.eval 20 (by omega)).trans (show _ = Value.pointer (some ⟨ob, 0, none⟩) from by simp [upd, hs21, hs20, hs4, hs5])]; simp [go_sem, Act.eval]) fun F4 => ?_
                  refine syp F4 rfl (by omega) (want_yes F4 rfl (e := 83) rfl (by omega) (show _ = Value.bool false from by simp [upd, hs21, hs20, hs4, hs5])) (v := Value.int .i64 o.k) (by simp only [execOp, (F4.eval 84 (by omega)).trans (show _ = Value.pointer (some ⟨ob, 0, none⟩) from by simp [upd, hs21, hs20, hs4, hs5])]; simp [go_sem, Act.eval, x0]) fun F5 => ?_
                  refine syp F5 rfl (by omega) (want_yes F5 rfl (e := 83) rfl (by omega) (show _ = Value.bool false from by simp [upd, hs21, hs20, hs4, hs5])) (v := Value.bool true) (by simp only [execOp, (F5.eval 85 (by omega)).trans (show _ = Value.int .i64 o.k from by simp [upd, hs21, hs20, hs4, hs5])]; simp [go_sem, Act.eval, hk3]) fun F6 => ?_
                  refine syp F6 rfl (by omega) (want_yes F6 rfl (e := 83) rfl (by omega) (show _ = Value.bool false from by simp [upd, hs21, hs20, hs4, hs5])) (v := Value.bool true) (by simp only [execOp, (F6.eval 86 (by omega)).trans (show _ = Value.bool true from by simp [upd, hs21, hs20, hs4, hs5])]; first | rfl | simp [go_sem]) fun F7 => ?_
                  refine syp F7 rfl (by omega) (want_yes F7 rfl (e := 87) rfl (by omega) (show _ = Value.bool true from by simp [upd, hs21, hs20, hs4, hs5])) (v := Value.pointer (some ⟨ob, 0, none⟩)) (by simp only [execOp, (F7.eval 20 (by omega)).trans (show _ = Value.pointer (some ⟨ob, 0, none⟩) from by simp [upd, hs21, hs20, hs4, hs5])]; simp [go_sem, Act.eval]) fun F8 => ?_
                  refine syp F8 rfl (by omega) (want_yes F8 rfl (e := 87) rfl (by omega) (show _ = Value.bool true from by simp [upd, hs21, hs20, hs4, hs5])) (v := Value.int .i64 o.k) (by simp only [execOp, (F8.eval 88 (by omega)).trans (show _ = Value.pointer (some ⟨ob, 0, none⟩) from by simp [upd, hs21, hs20, hs4, hs5])]; simp [go_sem, Act.eval, x0]) fun F9 => ?_
                  refine syp F9 rfl (by omega) (want_yes F9 rfl (e := 87) rfl (by omega) (show _ = Value.bool true from by simp [upd, hs21, hs20, hs4, hs5])) (v := Value.bool true) (by simp only [execOp, (F9.eval 89 (by omega)).trans (show _ = Value.int .i64 o.k from by simp [upd, hs21, hs20, hs4, hs5])]; simp [go_sem, Act.eval, hk5]) fun F10 => ?_
                  refine syp F10 rfl (by omega) (want_yes F10 rfl (e := 83) rfl (by omega) (show _ = Value.bool false from by simp [upd, hs21, hs20, hs4, hs5])) (v := Value.bool true) (by simp only [execOp, (F10.eval 87 (by omega)).trans (show _ = Value.bool true from by simp [upd, hs21, hs20, hs4, hs5]), (F10.eval 90 (by omega)).trans (show _ = Value.bool true from by simp [upd, hs21, hs20, hs4, hs5])]; simp [go_sem, Act.eval]) fun F11 => ?_
                  refine syp F11 rfl (by omega) (want_yes F11 rfl (e := 83) rfl (by omega) (show _ = Value.bool false from by simp [upd, hs21, hs20, hs4, hs5])) (v := Value.bool true) (by simp only [execOp, (F11.eval 91 (by omega)).trans (show _ = Value.bool true from by simp [upd, hs21, hs20, hs4, hs5])]; first | rfl | simp [go_sem]) fun F12 => ?_
                  refine syp F12 rfl (by omega) (want_yes F12 rfl (e := 92) rfl (by omega) (show _ = Value.bool true from by simp [upd, hs21, hs20, hs4, hs5])) (v := Value.pointer (some ⟨ob, 0, none⟩)) (by simp only [execOp, (F12.eval 20 (by omega)).trans (show _ = Value.pointer (some ⟨ob, 0, none⟩) from by simp [upd, hs21, hs20, hs4, hs5])]; simp [go_sem, Act.eval]) fun F13 => ?_
                  refine syp F13 rfl (by omega) (want_yes F13 rfl (e := 92) rfl (by omega) (show _ = Value.bool true from by simp [upd, hs21, hs20, hs4, hs5])) (v := Value.int .i64 o.k) (by simp only [execOp, (F13.eval 93 (by omega)).trans (show _ = Value.pointer (some ⟨ob, 0, none⟩) from by simp [upd, hs21, hs20, hs4, hs5])]; simp [go_sem, Act.eval, x0]) fun F14 => ?_
                  refine syp F14 rfl (by omega) (want_yes F14 rfl (e := 92) rfl (by omega) (show _ = Value.bool true from by simp [upd, hs21, hs20, hs4, hs5])) (v := Value.int .i64 lo) (by simp only [execOp, (F14.eval 4 (by omega)).trans (show _ = Value.int .i64 lo from by simp [upd, hs21, hs20, hs4, hs5])]; first | rfl | simp [go_sem]) fun F15 => ?_
                  refine syp F15 rfl (by omega) (want_yes F15 rfl (e := 92) rfl (by omega) (show _ = Value.bool true from by simp [upd, hs21, hs20, hs4, hs5])) (v := Value.bool false) (by simp only [execOp, (F15.eval 94 (by omega)).trans (show _ = Value.int .i64 o.k from by simp [upd, hs21, hs20, hs4, hs5]), (F15.eval 95 (by omega)).trans (show _ = Value.int .i64 lo from by simp [upd, hs21, hs20, hs4, hs5])]; simp [go_sem, Act.eval, hlo]) fun F16 => ?_
                  refine syp F16 rfl (by omega) (want_yes F16 rfl (e := 92) rfl (by omega) (show _ = Value.bool true from by simp [upd, hs21, hs20, hs4, hs5])) (v := Value.bool false) (by simp only [execOp, (F16.eval 96 (by omega)).trans (show _ = Value.bool false from by simp [upd, hs21, hs20, hs4, hs5])]; first | rfl | simp [go_sem]) fun F17 => ?_
                  refine syp F17 rfl (by omega) (want_yes F17 rfl (e := 97) rfl (by omega) (show _ = Value.bool false from by simp [upd, hs21, hs20, hs4, hs5])) (v := Value.pointer (some ⟨ob, 0, none⟩)) (by simp only [execOp, (F17.eval 20 (by omega)).trans (show _ = Value.pointer (some ⟨ob, 0, none⟩) from by simp [upd, hs21, hs20, hs4, hs5])]; simp [go_sem, Act.eval]) fun F18 => ?_
                  refine syp F18 rfl (by omega) (want_yes F18 rfl (e := 97) rfl (by omega) (show _ = Value.bool false from by simp [upd, hs21, hs20, hs4, hs5])) (v := Value.int .i64 o.k) (by simp only [execOp, (F18.eval 98 (by omega)).trans (show _ = Value.pointer (some ⟨ob, 0, none⟩) from by simp [upd, hs21, hs20, hs4, hs5])]; simp [go_sem, Act.eval, x0]) fun F19 => ?_
                  refine syp F19 rfl (by omega) (want_yes F19 rfl (e := 97) rfl (by omega) (show _ = Value.bool false from by simp [upd, hs21, hs20, hs4, hs5])) (v := Value.int .i64 hi) (by simp only [execOp, (F19.eval 5 (by omega)).trans (show _ = Value.int .i64 hi from by simp [upd, hs21, hs20, hs4, hs5])]; first | rfl | simp [go_sem]) fun F20 => ?_
                  refine syp F20 rfl (by omega) (want_yes F20 rfl (e := 97) rfl (by omega) (show _ = Value.bool false from by simp [upd, hs21, hs20, hs4, hs5])) (v := Value.bool false) (by simp only [execOp, (F20.eval 99 (by omega)).trans (show _ = Value.int .i64 o.k from by simp [upd, hs21, hs20, hs4, hs5]), (F20.eval 100 (by omega)).trans (show _ = Value.int .i64 hi from by simp [upd, hs21, hs20, hs4, hs5])]; simp [go_sem, Act.eval, hhi]) fun F21 => ?_
                  refine syp F21 rfl (by omega) (want_yes F21 rfl (e := 92) rfl (by omega) (show _ = Value.bool true from by simp [upd, hs21, hs20, hs4, hs5])) (v := Value.bool false) (by simp only [execOp, (F21.eval 97 (by omega)).trans (show _ = Value.bool false from by simp [upd, hs21, hs20, hs4, hs5]), (F21.eval 101 (by omega)).trans (show _ = Value.bool false from by simp [upd, hs21, hs20, hs4, hs5])]; simp [go_sem, Act.eval]) fun F22 => ?_
                  refine syp F22 rfl (by omega) (want_yes F22 rfl (e := 83) rfl (by omega) (show _ = Value.bool false from by simp [upd, hs21, hs20, hs4, hs5])) (v := Value.bool false) (by simp only [execOp, (F22.eval 92 (by omega)).trans (show _ = Value.bool true from by simp [upd, hs21, hs20, hs4, hs5]), (F22.eval 102 (by omega)).trans (show _ = Value.bool false from by simp [upd, hs21, hs20, hs4, hs5])]; simp [go_sem, Act.eval]) fun F23 => ?_
                  refine syp F23 rfl (by omega) (wanted_none rfl) (v := Value.bool false) (by simp only [execOp, (F23.eval 83 (by omega)).trans (show _ = Value.bool false from by simp [upd, hs21, hs20, hs4, hs5]), (F23.eval 103 (by omega)).trans (show _ = Value.bool false from by simp [upd, hs21, hs20, hs4, hs5])]; simp [go_sem, Act.eval]) fun F24 => ?_
                  refine ⟨?_⟩
                  clear F0 F1 F2 F3 F4 F5 F6 F7 F8 F9 F10 F11 F12 F13 F14 F15 F16 F17 F18 F19 F20 F21 F22 F23 F24 hs21 hs20 hs4 hs5 
                  simp only [Act.put, List.setIfInBounds_toArray, List.set_cons_succ, List.set_cons_zero]
                  go_wp2_with fail
                  refine Calls.mono HPL.out ?_
                  rintro e9 w9 ⟨rfl, hP9⟩
                  have HI9 : Hid (RI w N kb [ia] (k + 1) w9) := hP9
                  clear hP9 HPL
                  go_wp2_with fail
                  go_roundw
                  case rel => exact ⟨k + 1, by omega, by omega, by go_num, HI9.out⟩
                  case measure => simp [intOf]; omega
            · have HPL : Hid _ := HIX.out.play (i := ia) o (by simp) (by omega) hN16 HOK.out HOA.out.f (Or.inl rfl)
              go_upto_region 20 with fail
              refine wp_region_lit ?_
              refine withFrS (N := 113) rfl ?_
              intro f0 F0 hff
              have hs21 : f0 21 = Value.pointer (some ⟨ia.pb, 0, none⟩) := hff 21
              have hs20 : f0 20 = Value.pointer (some ⟨ob, 0, none⟩) := hff 20
              have hs4 : f0 4 = Value.int .i64 lo := hff 4
              have hs5 : f0 5 = Value.int .i64 hi := hff 5
              clear hff
              refine syp F0 rfl (by omega) (wanted_none rfl) (v := Value.pointer (some ⟨ia.pb, 0, none⟩)) (by simp only [execOp, (F0.eval 21 (by omega)).trans (show _ = Value.pointer (some ⟨ia.pb, 0, none⟩) from by simp [upd, hs21, hs20, hs4, hs5])]; first | rfl | simp [go_sem]) fun F1 => ?_
              refine syp F1 rfl (by omega) (wanted_none rfl) (v := Value.bool false) (by simp only [execOp, (F1.eval 81 (by omega)).trans (show _ = Value.pointer (some ⟨ia.pb, 0, none⟩) from by simp [upd, hs21, hs20, hs4, hs5])]; simp [go_sem, Act.eval]) fun F2 => ?_
              refine syp F2 rfl (by omega) (wanted_none rfl) (v := Value.bool false) (by simp only [execOp, (F2.eval 82 (by omega)).trans (show _ = Value.bool false from by simp [upd, hs21, hs20, hs4, hs5])]; first | rfl | simp [go_sem]) fun F3 => ?_
              refine syp F3 rfl (by omega) (want_yes F3 rfl (e := 83) rfl (by omega) (show _ = Value.bool false from by simp [upd, hs21, hs20, hs4, hs5])) (v := Value.pointer (some ⟨ob, 0, none⟩)) (by simp only [execOp, (F3.eval 20 (by omega)).trans (show _ = Value.pointer (some ⟨ob, 0, none⟩) from by simp [upd, hs21, hs20, hs4, hs5])]; simp [go_sem, Act.eval]) fun F4 => ?_
              refine syp F4 rfl (by omega) (want_yes F4 rfl (e := 83) rfl (by omega) (show _ = Value.bool false from by simp [upd, hs21, hs20, hs4, hs5])) (v := Value.int .i64 o.k) (by simp only [execOp, (F4.eval 84 (by omega)).trans (show _ = Value.pointer (some ⟨ob, 0, none⟩) from by simp [upd, hs21, hs20, hs4, hs5])]; simp [go_sem, Act.eval, x0]) fun F5 => ?_
              refine syp F5 rfl (by omega) (want_yes F5 rfl (e := 83) rfl (by omega) (show _ = Value.bool false from by simp [upd, hs21, hs20, hs4, hs5])) (v := Value.bool true) (by simp only [execOp, (F5.eval 85 (by omega)).trans (show _ = Value.int .i64 o.k from by simp [upd, hs21, hs20, hs4, hs5])]; simp [go_sem, Act.eval, hk3]) fun F6 => ?_
              refine syp F6 rfl (by omega) (want_yes F6 rfl (e := 83) rfl (by omega) (show _ = Value.bool false from by simp [upd, hs21, hs20, hs4, hs5])) (v := Value.bool true) (by simp only [execOp, (F6.eval 86 (by omega)).trans (show _ = Value.bool true from by simp [upd, hs21, hs20, hs4, hs5])]; first | rfl | simp [go_sem]) fun F7 => ?_
              refine syp F7 rfl (by omega) (want_yes F7 rfl (e := 87) rfl (by omega) (show _ = Value.bool true from by simp [upd, hs21, hs20, hs4, hs5])) (v := Value.pointer (some ⟨ob, 0, none⟩)) (by simp only [execOp, (F7.eval 20 (by omega)).trans (show _ = Value.pointer (some ⟨ob, 0, none⟩) from by simp [upd, hs21, hs20, hs4, hs5])]; simp [go_sem, Act.eval]) fun F8 => ?_
              refine syp F8 rfl (by omega) (want_yes F8 rfl (e := 87) rfl (by omega) (show _ = Value.bool true from by simp [upd, hs21, hs20, hs4, hs5])) (v := Value.int .i64 o.k) (by simp only [execOp, (F8.eval 88 (by omega)).trans (show _ = Value.pointer (some ⟨ob, 0, none⟩) from by simp [upd, hs21, hs20, hs4, hs5])]; simp [go_sem, Act.eval, x0]) fun F9 => ?_
              refine syp F9 rfl (by omega) (want_yes F9 rfl (e := 87) rfl (by omega) (show _ = Value.bool true from by simp [upd, hs21, hs20, hs4, hs5])) (v := Value.bool false) (by simp only [execOp, (F9.eval 89 (by omega)).trans (show _ = Value.int .i64 o.k from by simp [upd, hs21, hs20, hs4, hs5])]; simp [go_sem, Act.eval, hk5]) fun F10 => ?_
              refine syp F10 rfl (by omega) (want_yes F10 rfl (e := 83) rfl (by omega) (show _ = Value.bool false from by simp [upd, hs21, hs20, hs4, hs5])) (v := Value.bool false) (by simp only [execOp, (F10.eval 87 (by omega)).trans (show _ = Value.bool true from by simp [upd, hs21, hs20, hs4, hs5]), (F10.eval 90 (by omega)).trans (show _ = Value.bool false from by simp [upd, hs21, hs20, hs4, hs5])]; simp [go_sem, Act.eval]) fun F11 => ?_
              refine syp F11 rfl (by omega) (want_yes F11 rfl (e := 83) rfl (by omega) (show _ = Value.bool false from by simp [upd, hs21, hs20, hs4, hs5])) (v := Value.bool false) (by simp only [execOp, (F11.eval 91 (by omega)).trans (show _ = Value.bool false from by simp [upd, hs21, hs20, hs4, hs5])]; first | rfl | simp [go_sem]) fun F12 => ?_
              refine snp F12 rfl (by omega) (want_no F12 rfl (e := 92) rfl (by omega) (show _ = Value.bool false from by simp [upd, hs21, hs20, hs4, hs5]) (by decide)) fun F13 => ?_
              refine snp F13 rfl (by omega) (want_no F13 rfl (e := 92) rfl (by omega) (show _ = Value.bool false from by simp [upd, hs21, hs20, hs4, hs5]) (by decide)) fun F14 => ?_
              refine snp F14 rfl (by omega) (want_no F14 rfl (e := 92) rfl (by omega) (show _ = Value.bool false from by simp [upd, hs21, hs20, hs4, hs5]) (by decide)) fun F15 => ?_
              refine snp F15 rfl (by omega) (want_no F15 rfl (e := 92) rfl (by omega) (show _ = Value.bool false from by simp [upd, hs21, hs20, hs4, hs5]) (by decide)) fun F16 => ?_
              refine snp F16 rfl (by omega) (want_no F16 rfl (e := 92) rfl (by omega) (show _ = Value.bool false from by simp [upd, hs21, hs20, hs4, hs5]) (by decide)) fun F17 => ?_
              refine snp F17 rfl (by omega) (want_not F17 rfl (e := 97) rfl (by omega) (show _ = undef from by simp [upd, hs21, hs20, hs4, hs5])) fun F18 => ?_
              refine snp F18 rfl (by omega) (want_not F18 rfl (e := 97) rfl (by omega) (show _ = undef from by simp [upd, hs21, hs20, hs4, hs5])) fun F19 => ?_
              refine snp F19 rfl (by omega) (want_not F19 rfl (e := 97) rfl (by omega) (show _ = undef from by simp [upd, hs21, hs20, hs4, hs5])) fun F20 => ?_
              refine snp F20 rfl (by omega) (want_not F20 rfl (e := 97) rfl (by omega) (show _ = undef from by simp [upd, hs21, hs20, hs4, hs5])) fun F21 => ?_
              refine snp F21 rfl (by omega) (want_no F21 rfl (e := 92) rfl (by omega) (show _ = Value.bool false from by simp [upd, hs21, hs20, hs4, hs5]) (by decide)) fun F22 => ?_
              refine syp F22 rfl (by omega) (want_yes F22 rfl (e := 83) rfl (by omega) (show _ = Value.bool false from by simp [upd, hs21, hs20, hs4, hs5])) (v := Value.bool false) (by simp only [execOp, (F22.eval 92 (by omega)).trans (show _ = Value.bool false from by simp [upd, hs21, hs20, hs4, hs5])]; simp [go_sem, Act.eval]) fun F23 => ?_
              refine syp F23 rfl (by omega) (wanted_none rfl) (v := Value.bool false) (by simp only [execOp, (F23.eval 83 (by omega)).trans (show _ = Value.bool false from by simp [upd, hs21, hs20, hs4, hs5]), (F23.eval 103 (by omega)).trans (show _ = Value.bool false from by simp [upd, hs21, hs20, hs4, hs5])]; simp [go_sem, Act.eval]) fun F24 => ?_
              refine ⟨?_⟩
              clear F0 F1 F2 F3 F4 F5 F6 F7 F8 F9 F10 F11 F12 F13 F14 F15 F16 F17 F18 F19 F20 F21 F22 F23 F24 hs21 hs20 hs4 hs5 
              simp only [Act.put, List.setIfInBounds_toArray, List.set_cons_succ, List.set_cons_zero]
              go_wp2_with fail
              refine Calls.mono HPL.out ?_
              rintro e9 w9 ⟨rfl, hP9⟩
              have HI9 : Hid (RI w N kb [ia] (k + 1) w9) := hP9
              clear hP9 HPL
              go_wp2_with fail
              go_roundw
              case rel => exact ⟨k + 1, by omega, by omega, by go_num, HI9.out⟩
              case measure => simp [intOf]; omega
          · have HPL : Hid _ := HIX.out.play (i := ia) o (by simp) (by omega) hN16 HOK.out HOA.out.f (Or.inl rfl)
            go_upto_region 20 with fail
            refine wp_region_lit ?_
            refine withFrS (N := 113) rfl ?_
            intro f0 F0 hff
            have hs21 : f0 21 = Value.pointer (some ⟨ia.pb, 0, none⟩) := hff 21
            have hs20 : f0 20 = Value.pointer (some ⟨ob, 0, none⟩) := hff 20
            have hs4 : f0 4 = Value.int .i64 lo := hff 4
            have hs5 : f0 5 = Value.int .i64 hi := hff 5
            clear hff
            refine syp F0 rfl (by omega) (wanted_none rfl) (v := Value.pointer (some ⟨ia.pb, 0, none⟩)) (by simp only [execOp, (F0.eval 21 (by omega)).trans (show _ = Value.pointer (some ⟨ia.pb, 0, none⟩) from by simp [upd, hs21, hs20, hs4, hs5])]; first | rfl | simp [go_sem]) fun F1 => ?_
            refine syp F1 rfl (by omega) (wanted_none rfl) (v := Value.bool false) (by simp only [execOp, (F1.eval 81 (by omega)).trans (show _ = Value.pointer (some ⟨ia.pb, 0, none⟩) from by simp [upd, hs21, hs20, hs4, hs5])]; simp [go_sem, Act.eval]) fun F2 => ?_
            refine syp F2 rfl (by omega) (wanted_none rfl) (v := Value.bool false) (by simp only [execOp, (F2.eval 82 (by omega)).trans (show _ = Value.bool false from by simp [upd, hs21, hs20, hs4, hs5])]; first | rfl | simp [go_sem]) fun F3 => ?_
            refine syp F3 rfl (by omega) (want_yes F3 rfl (e := 83) rfl (by omega) (show _ = Value.bool false from by simp [upd, hs21, hs20, hs4, hs5])) (v := Value.pointer (some ⟨ob, 0, none⟩)) (by simp only [execOp, (F3.eval 20 (by omega)).trans (show _ = Value.pointer (some ⟨ob, 0, none⟩) from by simp [upd, hs21, hs20, hs4, hs5])]; simp [go_sem, Act.eval]) fun F4 => ?_
            refine syp F4 rfl (by omega) (want_yes F4 rfl (e := 83) rfl (by omega) (show _ = Value.bool false from by simp [upd, hs21, hs20, hs4, hs5])) (v := Value.int .i64 o.k) (by simp only [execOp, (F4.eval 84 (by omega)).trans (show _ = Value.pointer (some ⟨ob, 0, none⟩) from by simp [upd, hs21, hs20, hs4, hs5])]; simp [go_sem, Act.eval, x0]) fun F5 => ?_
            refine syp F5 rfl (by omega) (want_yes F5 rfl (e := 83) rfl (by omega) (show _ = Value.bool false from by simp [upd, hs21, hs20, hs4, hs5])) (v := Value.bool false) (by simp only [execOp, (F5.eval 85 (by omega)).trans (show _ = Value.int .i64 o.k from by simp [upd, hs21, hs20, hs4, hs5])]; simp [go_sem, Act.eval, hk3]) fun F6 => ?_
            refine syp F6 rfl (by omega) (want_yes F6 rfl (e := 83) rfl (by omega) (show _ = Value.bool false from by simp [upd, hs21, hs20, hs4, hs5])) (v := Value.bool false) (by simp only [execOp, (F6.eval 86 (by omega)).trans (show _ = Value.bool false from by simp [upd, hs21, hs20, hs4, hs5])]; first | rfl | simp [go_sem]) fun F7 => ?_
            refine snp F7 rfl (by omega) (want_no F7 rfl (e := 87) rfl (by omega) (show _ = Value.bool false from by simp [upd, hs21, hs20, hs4, hs5]) (by decide)) fun F8 => ?_
            refine snp F8 rfl (by omega) (want_no F8 rfl (e := 87) rfl (by omega) (show _ = Value.bool false from by simp [upd, hs21, hs20, hs4, hs5]) (by decide)) fun F9 => ?_
            refine snp F9 rfl (by omega) (want_no F9 rfl (e := 87) rfl (by omega) (show _ = Value.bool false from by simp [upd, hs21, hs20, hs4, hs5]) (by decide)) fun F10 => ?_
            refine syp F10 rfl (by omega) (want_yes F10 rfl (e := 83) rfl (by omega) (show _ = Value.bool false from by simp [upd, hs21, hs20, hs4, hs5])) (v := Value.bool false) (by simp only [execOp, (F10.eval 87 (by omega)).trans (show _ = Value.bool false from by simp [upd, hs21, hs20, hs4, hs5])]; simp [go_sem, Act.eval]) fun F11 => ?_
            refine syp F11 rfl (by omega) (want_yes F11 rfl (e := 83) rfl (by omega) (show _ = Value.bool false from by simp [upd, hs21, hs20, hs4, hs5])) (v := Value.bool false) (by simp only [execOp, (F11.eval 91 (by omega)).trans (show _ = Value.bool false from by simp [upd, hs21, hs20, hs4, hs5])]; first | rfl | simp [go_sem]) fun F12 => ?_
            refine snp F12 rfl (by omega) (want_no F12 rfl (e := 92) rfl (by omega) (show _ = Value.bool false from by simp [upd, hs21, hs20, hs4, hs5]) (by decide)) fun F13 => ?_
            refine snp F13 rfl (by omega) (want_no F13 rfl (e := 92) rfl (by omega) (show _ = Value.bool false from by simp [upd, hs21, hs20, hs4, hs5]) (by decide)) fun F14 => ?_
            refine snp F14 rfl (by omega) (want_no F14 rfl (e := 92) rfl (by omega) (show _ = Value.bool false from by simp [upd, hs21, hs20, hs4, hs5]) (by decide)) fun F15 => ?_
            refine snp F15 rfl (by omega) (want_no F15 rfl (e := 92) rfl (by omega) (show _ = Value.bool false from by simp [upd, hs21, hs20, hs4, hs5]) (by decide)) fun F16 => ?_
            refine snp F16 rfl (by omega) (want_no F16 rfl (e := 92) rfl (by omega) (show _ = Value.bool false from by simp [upd, hs21, hs20, hs4, hs5]) (by decide)) fun F17 => ?_
            refine snp F17 rfl (by omega) (want_not F17 rfl (e := 97) rfl (by omega) (show _ = undef from by simp [upd, hs21, hs20, hs4, hs5])) fun F18 => ?_
            refine snp F18 rfl (by omega) (want_not F18 rfl (e := 97) rfl (by omega) (show _ = undef from by simp [upd, hs21, hs20, hs4, hs5])) fun F19 => ?_
            refine snp F19 rfl (by omega) (want_not F19 rfl (e := 97) rfl (by omega) (show _ = undef from by simp [upd, hs21, hs20, hs4, hs5])) fun F20 => ?_
            refine snp F20 rfl (by omega) (want_not F20 rfl (e := 97) rfl (by omega) (show _ = undef from by simp [upd, hs21, hs20, hs4, hs5])) fun F21 => ?_
            refine snp F21 rfl (by omega) (want_no F21 rfl (e := 92) rfl (by omega) (show _ = Value.bool false from by simp [upd, hs21, hs20, hs4, hs5]) (by decide)) fun F22 => ?_
            refine syp F22 rfl (by omega) (want_yes F22 rfl (e := 83) rfl (by omega) (show _ = Value.bool false from by simp [upd, hs21, hs20, hs4, hs5])) (v := Value.bool false) (by simp only [execOp, (F22.eval 92 (by omega)).trans (show _ = Value.bool false from by simp [upd, hs21, hs20, hs4, hs5])]; simp [go_sem, Act.eval]) fun F23 => ?_
            refine syp F23 rfl (by omega) (wanted_none rfl) (v := Value.bool false) (by simp only [execOp, (F23.eval 83 (by omega)).trans (show _ = Value.bool false from by simp [upd, hs21, hs20, hs4, hs5]), (F23.eval 103 (by omega)).trans (show _ = Value.bool false from by simp [upd, hs21, hs20, hs4, hs5])]; simp [go_sem, Act.eval]) fun F24 => ?_
            refine ⟨?_⟩
            clear F0 F1 F2 F3 F4 F5 F6 F7 F8 F9 F10 F11 F12 F13 F14 F15 F16 F17 F18 F19 F20 F21 F22 F23 F24 hs21 hs20 hs4 hs5 
            simp only [Act.put, List.setIfInBounds_toArray, List.set_cons_succ, List.set_cons_zero]
            go_wp2_with fail
            refine Calls.mono HPL.out ?_
            rintro e9 w9 ⟨rfl, hP9⟩
            have HI9 : Hid (RI w N kb [ia] (k + 1) w9) := hP9
            clear hP9 HPL
            go_wp2_with fail
            go_roundw
            case rel => exact ⟨k + 1, by omega, by omega, by go_num, HI9.out⟩
            case measure => simp [intOf]; omega
      · have HAP : Hid _ := HI.out.apart (by omega)
        go_wp2_with fail
        refine Calls.mono HAP.out ?_
        rintro e9 w9 ⟨rfl, hw9⟩
        have HB9 : Hid (Below w.heap.size w w9) := hw9
        clear hw9 HAP
        go_wp2_with fail
        go_ret
        exact ⟨rfl, HB9.out⟩
    · have HAP : Hid _ := HI.out.apart (by omega)
      go_wp2_with fail
      refine Calls.mono HAP.out ?_
      rintro e9 w9 ⟨rfl, hw9⟩
      have HB9 : Hid (Below w.heap.size w w9) := hw9
      clear hw9 HAP
      go_wp2_with fail
      go_ret
      exact ⟨rfl, HB9.out⟩
end Go.Proofs.Ytdblbjcdnkiepaa
namespace Go.Proofs.Ytdblbjcdnkiepaa
open Go.RowKit Go.PlainAid Go.MapKept
set_option linter.unusedVariables false
set_option linter.unusedSimpArgs false
set_option maxRecDepth 100000 in
set_option maxHeartbeats 12800000 in
theorem runs_01 (me peer n lo hi : Int) (ao : Option Addr) (Ns cap : Nat) (os : List OpA) (w : World) (hcm : Ns ≤ maxLen) (hr : RunOk (fun _ => True) ao Ns os w) (ha : newCode me n ≠ 0) (hb : newCode peer n = 0) :
    Calls Try.prog 20 #[.int .i64 me, .int .i64 peer, .int .i64 n, .slice ao Ns cap, .int .i64 lo, .int .i64 hi] w fun e w' => e = .returned (.bool true) ∧ Below w.heap.size w w' := by
  unfold maxLen at hcm
  have HR : Hid (RunOk (fun _ => True) ao Ns os w) := hr
  obtain ⟨N, hnN⟩ : ∃ N : Nat, n = N := ⟨n.toNat, by
    unfold newCode at hb
    split at hb
    · cases hb
    · omega⟩
  have hN16 : N ≤ 16 := by
    unfold newCode at hb
    split at hb
    · cases hb
    · omega
  subst hnN
  have HMA : Hid (∀ W, _) := fun W => made_none me (N : Int) W ha
  have HMB : Hid (∀ W, _) := fun W => made_pp peer N W hb
  clear hr ha hb
  go_enter Try.func20, Try.ntmps20
  go_wp2_with fail
  refine Calls.mono (alive_any w) ?_
  rintro e9 w1 ⟨rfl, hb1⟩
  have HB1 : Hid (Below w.heap.size w w1) := hb1
  clear hb1
  go_wp2_with fail
  refine Calls.mono (HMA.out w1) ?_
  rintro e9 w2 ⟨rfl, hw2⟩
  replace hw2 := hw2.symm
  subst hw2
  have HB2 : Hid (Below w.heap.size w w1) := HB1.out
  clear HMA HB1
  go_wp2_with fail
  refine Calls.mono (HMB.out w1) ?_
  rintro e9 w3 ⟨pb, hbb, mbb, rbb, bkb, rfl, hpb, _, g1, g2, g3, _, hb3⟩
  obtain ⟨hib2, hob⟩ := In2.ofMade (L0 := w.heap.size) hpb HB2.out.size g1 g2 g3
  obtain ⟨ib, hib⟩ : ∃ ib : PI, ib = ⟨pb, hbb, mbb, rbb, peer⟩ := ⟨_, rfl⟩
  rw [← hib] at hib2 hob
  have hpb2 : pb = ib.pb := by rw [hib]
  subst hpb2
  have HIB3 : Hid (In2 w.heap.size N 0 (.pointer (some ⟨bkb, 0, none⟩)) ib ⟨.slice none 0 0, [], []⟩ w3) := hib2
  have HB3 : Hid (Below w.heap.size w w3) := HB2.out.trans (hb3.mono HB2.out.size)
  clear hpb g1 g2 g3 hb3 hib2 hob hib
  clear HMB HB2
  obtain ⟨kb, hkb⟩ : ∃ kb, kb = w3.heap.size := ⟨_, rfl⟩
  obtain ⟨W4, hW4⟩ : ∃ W4, W4 = w3.alloc (.cells #[.slice none 0 0, .slice none 0 0] 90) := ⟨_, rfl⟩
  have hb4 : Below w3.heap.size w3 W4 := by rw [hW4]; exact (Below.refl _ _).alloc (Nat.le_refl _) _
  have HKL : Hid (w.heap.size ≤ kb) := show w.heap.size ≤ kb from by rw [hkb]; exact HB3.out.size
  have HK4 : Hid (Blk W4 kb #[.slice none 0 0, .slice none 0 0] 90) := show Blk W4 kb #[.slice none 0 0, .slice none 0 0] 90 from by rw [hW4, hkb]; exact heap_alloc_new _ _
  have HB4 : Hid (Below w.heap.size w W4) := HB3.out.trans (hb4.mono HB3.out.size)
  have HIB4 : Hid (In2 w.heap.size N 0 (.pointer (some ⟨bkb, 0, none⟩)) ib ⟨.slice none 0 0, [], []⟩ W4) := HIB3.out.more hb4
  go_upto_region 7 with fail
  rw [← hW4, ← hkb]
  clear hW4 hkb hb4 HB3 HIB3
  obtain ⟨W6, hW6⟩ : ∃ W6, W6 = W4.setCell ⟨ib.pb, 4, none⟩ (.pointer (some ⟨kb, 0, none⟩)) := ⟨_, rfl⟩
  obtain ⟨hib6, hc6⟩ := HIB4.out.setBook (.pointer (some ⟨kb, 0, none⟩))
  rw [← hW6] at hib6 hc6
  have HIB6 : Hid (In2 w.heap.size N 0 (.pointer (some ⟨kb, 0, none⟩)) ib ⟨.slice none 0 0, [], []⟩ W6) := hib6
  have HK6 : Hid (Blk W6 kb #[.slice none 0 0, .slice none 0 0] 90) := hc6.blk HK4.out (HIB4.out.book HK4.out)
  have HB6 : Hid (Below w.heap.size w W6) := HB4.out.trans (hc6.below HB4.out.size (fun k hk => HIB4.out.ge hk))
  have d4 : W4.cell? ⟨ib.pb, 4, none⟩ = some (.pointer (some ⟨bkb, 0, none⟩)) := HIB4.out.pp.box.cell 4
  have f4 : W4.frozen? ⟨ib.pb, 4, none⟩ = false := HIB4.out.pp.box.frozen 4
  go_upto_region 11 with fail
  rw [← hW6]
  clear hW6 hib6 hc6 d4 f4 HIB4 HK4 HB4
  have HI0 : Hid (RI w N kb [ib] 0 W6) := RI.start (fun i hi => by rw [List.mem_singleton.1 hi]; exact HIB6.out) (List.pairwise_singleton _ _) HK6.out HKL.out HB6.out
  clear HIB6 HK6 HB6 HKL
  go_wp2_with fail
  go_loopw [19] (fun s19 wr => ∃ (k : Nat), k ≤ 200 ∧ k ≤ Ns ∧ s19 = .int .i64 k ∧ RI w N kb [ib] k wr) (fun s19 _ => Ns - (intOf s19).toNat)
  case atStart => exact ⟨0, by omega, by omega, rfl, HI0.out⟩
  case round =>
    obtain ⟨k, hk200, hkN, rfl, hri⟩ := hrel
    clear HI0
    have HI : Hid (RI w N kb [ib] k wr) := hri
    clear hri
    by_cases hkl : k < Ns
    · by_cases hk2 : k < 200
      · obtain ⟨hl0, hok0, hat0⟩ := HR.out
        obtain ⟨o, ho⟩ : ∃ o, os[k]? = some o := ⟨_, List.getElem?_eq_getElem (by rw [hl0]; exact hkl)⟩
        have HOK : Hid o.ok := hok0 o (List.mem_of_getElem? ho)
        obtain ⟨b, off, hao, hcell⟩ := hat0 (by omega)
        subst hao
        have HOA : Hid (OpAt w b (off + k * 9) o) := hcell k o ho
        obtain ⟨x0, x1, x2, x3, x4, x5, x6, x7, x8, _⟩ := HOA.out.below HI.out.bel
        obtain ⟨ob, hob⟩ : ∃ ob, ob = wr.heap.size := ⟨_, rfl⟩
        obtain ⟨X, hX⟩ : ∃ X, X = wr.alloc (.cells #[.int .i64 o.k, .int .i64 o.who, .int .i64 o.a, .int .i64 o.b, .int .i64 o.h, .string ⟨o.n.toArray⟩, .int .i64 o.d, .int .i64 o.u, .slice o.la o.K o.cap] 92) := ⟨_, rfl⟩
        have HBX : Hid (Below wr.heap.size wr X) := show Below wr.heap.size wr X from by rw [hX]; exact (Below.refl _ _).alloc (Nat.le_refl _) _
        have hBo : Blk X ob #[.int .i64 o.k, .int .i64 o.who, .int .i64 o.a, .int .i64 o.b, .int .i64 o.h, .string ⟨o.n.toArray⟩, .int .i64 o.d, .int .i64 o.u, .slice o.la o.K o.cap] 92 := by rw [hX, hob]; exact heap_alloc_new wr _
        have HIX : Hid (RI w N kb [ib] k X) := HI.out.more HBX.out
        clear ho hcell hl0 hok0 hat0
        go_upto_region 15 with fail
        rw [← hX, ← hob]
        clear hX hob x0 x1 x2 x3 x4 x5 x6 x7 x8
        have x0 : X.cell? ⟨ob, 0, none⟩ = some (.int .i64 o.k) := hBo.cell 0
        have x1 : X.cell? ⟨ob, 1, none⟩ = some (.int .i64 o.who) := hBo.cell 1
        have x2 : X.cell? ⟨ob, 2, none⟩ = some (.int .i64 o.a) := hBo.cell 2
        have x3 : X.cell? ⟨ob, 3, none⟩ = some (.int .i64 o.b) := hBo.cell 3
        have x4 : X.cell? ⟨ob, 4, none⟩ = some (.int .i64 o.h) := hBo.cell 4
        have x5 : X.cell? ⟨ob, 5, none⟩ = some (.string ⟨o.n.toArray⟩) := hBo.cell 5
        have x6 : X.cell? ⟨ob, 6, none⟩ = some (.int .i64 o.d) := hBo.cell 6
        have x7 : X.cell? ⟨ob, 7, none⟩ = some (.int .i64 o.u) := hBo.cell 7
        have x8 : X.cell? ⟨ob, 8, none⟩ = some (.slice o.la o.K o.cap) := hBo.cell 8
        clear hBo
        by_cases hw1 : o.who = 1
        · have hwb : (o.who == 1) = true := by simpa using hw1
          clear hw1
          by_cases hk3 : 3 ≤ o.k
          · by_cases hk5 : o.k ≤ 5
            · by_cases hlo : o.k < lo
              · go_upto_region 20 with fail
                refine wp_region_lit ?_
                refine withFrS (N := 113) rfl ?_
                intro f0 F0 hff
                have hs21 : f0 21 = Value.pointer (some ⟨ib.pb, 0, none⟩) := hff 21
                have hs20 : f0 20 = Value.pointer (some ⟨ob, 0, none⟩) := hff 20
                have hs4 : f0 4 = Value.int .i64 lo := hff 4
                have hs5 : f0 5 = Value.int .i64 hi := hff 5
                clear hff
                refine syp F0 rfl (by omega) (wanted_none rfl) (v := Value.pointer (some ⟨ib.pb, 0, none⟩)) (by simp only [execOp, (F0.eval 21 (by omega)).trans (show _ = Value.pointer (some ⟨ib.pb, 0, none⟩) from by simp [upd, hs21, hs20, hs4, hs5])]; first | rfl | simp [go_sem]) fun F1 => ?_
                refine syp F1 rfl (by omega) (wanted_none rfl) (v := Value.bool false) (by simp only [execOp, (F1.eval 81 (by omega)).trans (show _ = Value.pointer (some ⟨ib.pb, 0, none⟩) from by simp [upd, hs21, hs20, hs4, hs5])]; simp [go_sem, Act.eval]) fun F2 => ?_
                refine syp F2 rfl (by omega) (wanted_none rfl) (v := Value.bool false) (by simp only [execOp, (F2.eval 82 (by omega)).trans (show _ = Value.bool false from by simp [upd, hs21, hs20, hs4, hs5])]; first | rfl | simp [go_sem]) fun F3 => ?_
                refine syp F3 rfl (by omega) (want_yes F3 rfl (e := 83) rfl (by omega) (show _ = Value.bool false from by simp [upd, hs21, hs20, hs4, hs5])) (v := Value.pointer (some ⟨ob, 0, none⟩)) (by simp only [execOp, (F3.eval 20 (by omega)).trans (show _ = Value.pointer (some ⟨ob, 0, none⟩) from by simp [upd, hs21, hs20, hs4, hs5])]; simp [go_sem, Act.eval]) fun F4 => ?_
                refine syp F4 rfl (by omega) (want_yes F4 rfl (e := 83) rfl (by omega) (show _ = Value.bool false from by simp [upd, hs21, hs20, hs4, hs5])) (v := Value.int .i64 o.k) (by simp only [execOp, (F4.eval 84 (by omega)).trans (show _ = Value.pointer (some ⟨ob, 0, none⟩) from by simp [upd, hs21, hs20, hs4, hs5])]; simp [go_sem, Act.eval, x0]) fun F5 => ?_
                refine syp F5 rfl (by omega) (want_yes F5 rfl (e := 83) rfl (by omega) (show _ = Value.bool false from by simp [upd, hs21, hs20, hs4, hs5])) (v := Value.bool true) (by simp only [execOp, (F5.eval 85 (by omega)).trans (show _ = Value.int .i64 o.k from by simp [upd, hs21, hs20, hs4, hs5])]; simp [go_sem, Act.eval, hk3]) fun F6 => ?_
                refine syp F6 rfl (by omega) (want_yes F6 rfl (e := 83) rfl (by omega) (show _ = Value.bool false from by simp [upd, hs21, hs20, hs4, hs5])) (v := Value.bool true) (by simp only [execOp, (F6.eval 86 (by omega)).trans (show _ = Value.bool true from by simp [upd, hs21, hs20, hs4, hs5])]; first | rfl | simp [go_sem]) fun F7 => ?_
                refine syp F7 rfl (by omega) (want_yes F7 rfl (e := 87) rfl (by omega) (show _ = Value.bool true from by simp [upd, hs21, hs20, hs4, hs5])) (v := Value.pointer (some ⟨ob, 0, none⟩)) (by simp only [execOp, (F7.eval 20 (by omega)).trans (show _ = Value.pointer (some ⟨ob, 0, none⟩) from by simp [upd, hs21, hs20, hs4, hs5])]; simp [go_sem, Act.eval]) fun F8 => ?_
                refine syp F8 rfl (by omega) (want_yes F8 rfl (e := 87) rfl (by omega) (show _ = Value.bool true from by simp [upd, hs21, hs20, hs4, hs5])) (v := Value.int .i64 o.k) (by simp only [execOp, (F8.eval 88 (by omega)).trans (show _ = Value.pointer (some ⟨ob, 0, none⟩) from by simp [upd, hs21, hs20, hs4, hs5])]; simp [go_sem, Act.eval, x0]) fun F9 => ?_
                refine syp F9 rfl (by omega) (want_yes F9 rfl (e := 87) rfl (by omega) (show _ = Value.bool true from by simp [upd, hs21, hs20, hs4, hs5])) (v := Value.bool true) (by simp only [execOp, (F9.eval 89 (by omega)).trans (show _ = Value.int .i64 o.k from by simp [upd, hs21, hs20, hs4, hs5])]; simp [go_sem, Act.eval, hk5]) fun F10 => ?_
                refine syp F10 rfl (by omega) (want_yes F10 rfl (e := 83) rfl (by omega) (show _ = Value.bool false from by simp [upd, hs21, hs20, hs4, hs5])) (v := Value.bool true) (by simp only [execOp, (F10.eval 87 (by omega)).trans (show _ = Value.bool true from by simp [upd, hs21, hs20, hs4, hs5]), (F10.eval 90 (by omega)).trans (show _ = Value.bool true from by simp [upd, hs21, hs20, hs4, hs5])]; simp [go_sem, Act.eval]) fun F11 => ?_
                refine syp F11 rfl (by omega) (want_yes F11 rfl (e := 83) rfl (by omega) (show _ = Value.bool false from by simp [upd, hs21, hs20, hs4, hs5])) (v := Value.bool true) (by simp only [execOp, (F11.eval 91 (by omega)).trans (show _ = Value.bool true from by simp [upd, hs21, hs20, hs4, hs5])]; first | rfl | simp [go_sem]) fun F12 => ?_
                refine syp F12 rfl (by omega) (want_yes F12 rfl (e := 92) rfl (by omega) (show _ = Value.bool true from by simp [upd, hs21, hs20, hs4, hs5])) (v := Value.pointer (some ⟨ob, 0, none⟩)) (by simp only [execOp, (F12.eval 20 (by omega)).trans (show _ = Value.pointer (some ⟨ob, 0, none⟩) from by simp [upd, hs21, hs20, hs4, hs5])]; simp [go_sem, Act.eval]) fun F13 => ?_
                refine syp F13 rfl (by omega) (want_yes F13 rfl (e := 92) rfl (by omega) (show _ = Value.bool true from by simp [upd, hs21, hs20, hs4, hs5])) (v := Value.int .i64 o.k) (by simp only [execOp, (F13.eval 93 (by omega)).trans (show _ = Value.pointer (some ⟨ob, 0, none⟩) from by simp [upd, hs21, hs20, hs4, hs5])]; simp [go_sem, Act.eval, x0]) fun F14 => ?_
                refine syp F14 rfl (by omega) (want_yes F14 rfl (e := 92) rfl (by omega) (show _ = Value.bool true from by simp [upd, hs21, hs20, hs4, hs5])) (v := Value.int .i64 lo) (by simp only [execOp, (F14.eval 4 (by omega)).trans (show _ = Value.int .i64 lo from by simp [upd, hs21, hs20, hs4, hs5])]; first | rfl | simp [go_sem]) fun F15 => ?_
                refine syp F15 rfl (by omega) (want_yes F15 rfl (e := 92) rfl (by omega) (show _ = Value.bool true from by simp [upd, hs21, hs20, hs4, hs5])) (v := Value.bool true) (by simp only [execOp, (F15.eval 94 (by omega)).trans (show _ = Value.int .i64 o.k from by simp [upd, hs21, hs20, hs4, hs5]), (F15.eval 95 (by omega)).trans (show _ = Value.int .i64 lo from by simp [upd, hs21, hs20, hs4, hs5])]; simp [go_sem, Act.eval, hlo]) fun F16 => ?_
                refine syp F16 rfl (by omega) (want_yes F16 rfl (e := 92) rfl (by omega) (show _ = Value.bool true from by simp [upd, hs21, hs20, hs4, hs5])) (v := Value.bool true) (by simp only [execOp, (F16.eval 96 (by omega)).trans (show _ = Value.bool true from by simp [upd, hs21, hs20, hs4, hs5])]; first | rfl | simp [go_sem]) fun F17 => ?_
                refine snp F17 rfl (by omega) (want_no F17 rfl (e := 97) rfl (by omega) (show _ = Value.bool true from by simp [upd, hs21, hs20, hs4, hs5]) (by decide)) fun F18 => ?_
                refine snp F18 rfl (by omega) (want_no F18 rfl (e := 97) rfl (by omega) (show _ = Value.bool true from by simp [upd, hs21, hs20, hs4, hs5]) (by decide)) fun F19 => ?_
                refine snp F19 rfl (by omega) (want_no F19 rfl (e := 97) rfl (by omega) (show _ = Value.bool true from by simp [upd, hs21, hs20, hs4, hs5]) (by decide)) fun F20 => ?_
                refine snp F20 rfl (by omega) (want_no F20 rfl (e := 97) rfl (by omega) (show _ = Value.bool true from by simp [upd, hs21, hs20, hs4, hs5]) (by decide)) fun F21 => ?_
                refine syp F21 rfl (by omega) (want_yes F21 rfl (e := 92) rfl (by omega) (show _ = Value.bool true from by simp [upd, hs21, hs20, hs4, hs5])) (v := Value.bool true) (by simp only [execOp, (F21.eval 97 (by omega)).trans (show _ = Value.bool true from by simp [upd, hs21, hs20, hs4, hs5])]; simp [go_sem, Act.eval]) fun F22 => ?_
                refine syp F22 rfl (by omega) (want_yes F22 rfl (e := 83) rfl (by omega) (show _ = Value.bool false from by simp [upd, hs21, hs20, hs4, hs5])) (v := Value.bool true) (by simp only [execOp, (F22.eval 92 (by omega)).trans (show _ = Value.bool true from by simp [upd, hs21, hs20, hs4, hs5]), (F22.eval 102 (by omega)).trans (show _ = Value.bool true from by simp [upd, hs21, hs20, hs4, hs5])]; simp [go_sem, Act.eval]) fun F23 => ?_
                refine syp F23 rfl (by omega) (wanted_none rfl) (v := Value.bool true) (by simp only [execOp, (F23.eval 83 (by omega)).trans (show _ = Value.bool false from by simp [upd, hs21, hs20, hs4, hs5]), (F23.eval 103 (by omega)).trans (show _ = Value.bool true from by simp [upd, hs21, hs20, hs4, hs5])]; simp [go_sem, Act.eval]) fun F24 => ?_
                refine ⟨?_⟩
                clear F0 F1 F2 F3 F4 F5 F6 F7 F8 F9 F10 F11 F12 F13 F14 F15 F16 F17 F18 F19 F20 F21 F22 F23 F24 hs21 hs20 hs4 hs5 
                simp only [Act.put, List.setIfInBounds_toArray, List.set_cons_succ, List.set_cons_zero]
                go_wp2_with fail
                go_roundw
                case rel => exact ⟨k + 1, by omega, by omega, by go_num, HIX.out.mono⟩
                case measure => simp [intOf]; omega
              · by_cases hhi : hi < o.k
                · go_upto_region 20 with fail
                  refine wp_region_lit ?_
                  refine withFrS (N := 113) rfl ?_
                  intro f0 F0 hff
                  have hs21 : f0 21 = Value.pointer (some ⟨ib.pb, 0, none⟩) := hff 21
                  have hs20 : f0 20 = Value.pointer (some ⟨ob, 0, none⟩) := hff 20
                  have hs4 : f0 4 = Value.int .i64 lo := hff 4
                  have hs5 : f0 5 = Value.int .i64 hi := hff 5
                  clear hff
                  refine syp F0 rfl (by omega) (wanted_none rfl) (v := Value.pointer (some ⟨ib.pb, 0, none⟩)) (by simp only [execOp, (F0.eval 21 (by omega)).trans (show _ = Value.pointer (some ⟨ib.pb, 0, none⟩) from by simp [upd, hs21, hs20, hs4, hs5])]; first | rfl | simp [go_sem]) fun F1 => ?_
                  refine syp F1 rfl (by omega) (wanted_none rfl) (v := Value.bool false) (by simp only [execOp, (F1.eval 81 (by omega)).trans (show _ = Value.pointer (some ⟨ib.pb, 0, none⟩) from by simp [upd, hs21, hs20, hs4, hs5])]; simp [go_sem, Act.eval]) fun F2 => ?_
                  refine syp F2 rfl (by omega) (wanted_none rfl) (v := Value.bool false) (by simp only [execOp, (F2.eval 82 (by omega)).trans (show _ = Value.bool false from by simp [upd, hs21, hs20, hs4, hs5])]; first | rfl | simp [go_sem]) fun F3 => ?_
                  refine syp F3 rfl (by omega) (want_yes F3 rfl (e := 83) rfl (by omega) (show _ = Value.bool false from by simp [upd, hs21, hs20, hs4, hs5])) (v := Value.pointer (some ⟨ob, 0, none⟩)) (by simp only [execOp, (F3.eval 20 (by omega)).trans (show _ = Value.pointer (some ⟨ob, 0, none⟩) from by simp [upd, hs21, hs20, hs4, hs5])]; simp [go_sem, Act.eval]) fun F4 => ?_
                  refine syp F4 rfl (by omega) (want_yes F4 rfl (e := 83) rfl (by omega) (show _ = Value.bool false from by simp [upd, hs21, hs20, hs4, hs5])) (v := Value.int .i64 o.k) (by simp only [execOp, (F4.eval 84 (by omega)).trans (show _ = Value.pointer (some ⟨ob, 0, none⟩) from by simp [upd, hs21, hs20, hs4, hs5])]; simp [go_sem, Act.eval, x0]) fun F5 => ?_
                  refine syp F5 rfl (by omega) (want_yes F5 rfl (e := 83) rfl (by omega) (show _ = Value.bool false from by simp [upd, hs21, hs20, hs4, hs5])) (v := Value.bool true) (by simp only [execOp, (F5.eval 85 (by omega)).trans (show _ = Value.int .i64 o.k from by simp [upd, hs21, hs20, hs4, hs5])]; simp [go_sem, Act.eval, hk3]) fun F6 => ?_
                  refine syp F6 rfl (by omega) (want_yes F6 rfl (e := 83) rfl (by omega) (show _ = Value.bool false from by simp [upd, hs21, hs20, hs4, hs5])) (v := Value.bool true) (by simp only [execOp, (F6.eval 86 (by omega)).trans (show _ = Value.bool true from by simp [upd, hs21, hs20, hs4, hs5])]; first | rfl | simp [go_sem]) fun F7 => ?_
                  refine syp F7 rfl (by omega) (want_yes F7 rfl (e := 87) rfl (by omega) (show _ = Value.bool true from by simp [upd, hs21, hs20, hs4, hs5])) (v := Value.pointer (some ⟨ob, 0, none⟩)) (by simp only [execOp, (F7.eval 20 (by omega)).trans (show _ = Value.pointer (some ⟨ob, 0, none⟩) from by simp [upd, hs21, hs20, hs4, hs5])]; simp [go_sem, Act.eval]) fun F8 => ?_
                  refine syp F8 rfl (by omega) (want_yes F8 rfl (e := 87) rfl (by omega) (show _ = Value.bool true from by simp [upd, hs21, hs20, hs4, hs5])) (v := Value.int .i64 o.k) (by simp only [execOp, (F8.eval 88 (by omega)).trans (show _ = Value.pointer (some ⟨ob, 0, none⟩) from by simp [upd, hs21, hs20, hs4, hs5])]; simp [go_sem, Act.eval, x0]) fun F9 => ?_
                  refine syp F9 rfl (by omega) (want_yes F9 rfl (e := 87) rfl (by omega) (show _ = Value.bool true from by simp [upd, hs21, hs20, hs4, hs5])) (v := Value.bool true) (by simp only [execOp, (F9.eval 89 (by omega)).trans (show _ = Value.int .i64 o.k from by simp [upd, hs21, hs20, hs4, hs5])]; simp [go_sem, Act.eval, hk5]) fun F10 => ?_
                  refine syp F10 rfl (by omega) (want_yes F10 rfl (e := 83) rfl (by omega) (show _ = Value.bool false from by simp [upd, hs21, hs20, hs4, hs5])) (v := Value.bool true) (by simp only [execOp, (F10.eval 87 (by omega)).trans (show _ = Value.bool true from by simp [upd, hs21, hs20, hs4, hs5]), (F10.eval 90 (by omega)).trans (show _ = Value.bool true from by simp [upd, hs21, hs20, hs4, hs5])]; simp [go_sem, Act.eval]) fun F11 => ?_
                  refine syp F11 rfl (by omega) (want_yes F11 rfl (e := 83) rfl (by omega) (show _ = Value.bool false from by simp [upd, hs21, hs20, hs4, hs5])) (v := Value.bool true) (by simp only [execOp, (F11.eval 91 (by omega)).trans (show _ = Value.bool true from by simp [upd, hs21, hs20, hs4, hs5])]; first | rfl | simp [go_sem]) fun F12 => ?_
                  refine syp F12 rfl (by omega) (want_yes F12 rfl (e := 92) rfl (by omega) (show _ = Value.bool true from by simp [upd, hs21, hs20, hs4, hs5])) (v := Value.pointer (some ⟨ob, 0, none⟩)) (by simp only [execOp, (F12.eval 20 (by omega)).trans (show _ = Value.pointer (some ⟨ob, 0, none⟩) from by simp [upd, hs21, hs20, hs4, hs5])]; simp [go_sem, Act.eval]) fun F13 => ?_
                  refine syp F13 rfl (by omega) (want_yes F13 rfl (e := 92) rfl (by omega) (show _ = Value.bool true from by simp [upd, hs21, hs20, hs4, hs5])) (v := Value.int .i64 o.k) (by simp only [execOp, (F13.eval 93 (by omega)).trans (show _ = Value.pointer (some ⟨ob, 0, none⟩) from by simp [upd, hs21, hs20, hs4, hs5])]; simp [go_sem, Act.eval, x0]) fun F14 => ?_
                  refine syp F14 rfl (by omega) (want_yes F14 rfl (e := 92) rfl (by omega) (show _ = Value.bool true from by simp [upd, hs21, hs20, hs4, hs5])) (v := Value.int .i64 lo) (by simp only [execOp, (F14.eval 4 (by omega)).trans (show _ = Value.int .i64 lo from by simp [upd, hs21, hs20, hs4, hs5])]; first | rfl | simp [go_sem]) fun F15 => ?_
                  refine syp F15 rfl (by omega) (want_yes F15 rfl (e := 92) rfl (by omega) (show _ = Value.bool true from by simp [upd, hs21, hs20, hs4, hs5])) (v := Value.bool false) (by simp only [execOp, (F15.eval 94 (by omega)).trans (show _ = Value.int .i64 o.k from by simp [upd, hs21, hs20, hs4, hs5]), (F15.eval 95 (by omega)).trans (show _ = Value.int .i64 lo from by simp [upd, hs21, hs20, hs4, hs5])]; simp [go_sem, Act.eval, hlo]) fun F16 => ?_
                  refine syp F16 rfl (by omega) (want_yes F16 rfl (e := 92) rfl (by omega) (show _ = Value.bool true from by simp [upd, hs21, hs20, hs4, hs5])) (v := Value.bool false) (by simp only [execOp, (F16.eval 96 (by omega)).trans (show _ = Value.bool false from by simp [upd, hs21, hs20, hs4, hs5])]; first | rfl | simp [go_sem]) fun F17 => ?_
                  refine syp F17 rfl (by omega) (want_yes F17 rfl (e := 97) rfl (by omega) (show _ = Value.bool false from by simp [upd, hs21, hs20, hs4, hs5])) (v := Value.pointer (some ⟨ob, 0, none⟩)) (by simp only [execOp, (F17.eval 20 (by omega)).trans (show _ = Value.pointer (some ⟨ob, 0, none⟩) from by simp [upd, hs21, hs20, hs4, hs5])]; simp [go_sem, Act.eval]) fun F18 => ?_
                  refine syp F18 rfl (by omega) (want_yes F18 rfl (e := 97) rfl (by omega) (show _ = Value.bool false from by simp [upd, hs21, hs20, hs4, hs5])) (v := Value.int .i64 o.k) (by simp only [execOp, (F18.eval 98 (by omega)).trans (show _ = Value.pointer (some ⟨ob, 0, none⟩) from by simp [upd, hs21, hs20, hs4, hs5])]; simp [go_sem, Act.eval, x0]) fun F19 => ?_
                  refine syp F19 rfl (by omega) (want_yes F19 rfl (e := 97) rfl (by omega) (show _ = Value.bool false from by simp [upd, hs21, hs20, hs4, hs5])) (v := Value.int .i64 hi) (by simp only [execOp, (F19.eval 5 (by omega)).trans (show _ = Value.int .i64 hi from by simp [upd, hs21, hs20, hs4, hs5])]; first | rfl | simp [go_sem]) fun F20 => ?_
                  refine syp F20 rfl (by omega) (want_yes F20 rfl (e := 97) rfl (by omega) (show _ = Value.bool false from by simp [upd, hs21, hs20, hs4, hs5])) (v := Value.bool true) (by simp only [execOp, (F20.eval 99 (by omega)).trans (show _ = Value.int .i64 o.k from by simp [upd, hs21, hs20, hs4, hs5]), (F20.eval 100 (by omega)).trans (show _ = Value.int .i64 hi from by simp [upd, hs21, hs20, hs4, hs5])]; simp [go_sem, Act.eval, hhi]) fun F21 => ?_
                  refine syp F21 rfl (by omega) (want_yes F21 rfl (e := 92) rfl (by omega) (show _ = Value.bool true from by simp [upd, hs21, hs20, hs4, hs5])) (v := Value.bool true) (by simp only [execOp, (F21.eval 97 (by omega)).trans (show _ = Value.bool false from by simp [upd, hs21, hs20, hs4, hs5]), (F21.eval 101 (by omega)).trans (show _ = Value.bool true from by simp [upd, hs21, hs20, hs4, hs5])]; simp [go_sem, Act.eval]) fun F22 => ?_
                  refine syp F22 rfl (by omega) (want_yes F22 rfl (e := 83) rfl (by omega) (show _ = Value.bool false from by simp [upd, hs21, hs20, hs4, hs5])) (v := Value.bool true) (by simp only [execOp, (F22.eval 92 (by omega)).trans (show _ = Value.bool true from by simp [upd, hs21, hs20, hs4, hs5]), (F22.eval 102 (by omega)).trans (show _ = Value.bool true from by simp [upd, hs21, hs20, hs4, hs5])]; simp [go_sem, Act.eval]) fun F23 => ?_
                  refine syp F23 rfl (by omega) (wanted_none rfl) (v := Value.bool true) (by simp only [execOp, (F23.eval 83 (by omega)).trans (show _ = Value.bool false from by simp [upd, hs21, hs20, hs4, hs5]), (F23.eval 103 (by omega)).trans (show _ = Value.bool true from by simp [upd, hs21, hs20, hs4, hs5])]; simp [go_sem, Act.eval]) fun F24 => ?_
                  refine ⟨?_⟩
                  clear F0 F1 F2 F3 F4 F5 F6 F7 F8 F9 F10 F11 F12 F13 F14 F15 F16 F17 F18 F19 F20 F21 F22 F23 F24 hs21 hs20 hs4 hs5 
                  simp only [Act.put, List.setIfInBounds_toArray, List.set_cons_succ, List.set_cons_zero]
                  go_wp2_with fail
                  go_roundw
                  case rel => exact ⟨k + 1, by omega, by omega, by go_num, HIX.out.mono⟩
                  case measure => simp [intOf]; omega
                · have HPL : Hid _ := HIX.out.play (i := ib) o (by simp) (by omega) hN16 HOK.out HOA.out.f (Or.inl rfl)
                  go_upto_region 20 with fail
                  refine wp_region_lit ?_
                  refine withFrS (N := 113) rfl ?_
                  intro f0 F0 hff
                  have hs21 : f0 21 = Value.pointer (some ⟨ib.pb, 0, none⟩) := hff 21
                  have hs20 : f0 20 = Value.pointer (some ⟨ob, 0, none⟩) := hff 20
                  have hs4 : f0 4 = Value.int .i64 lo := hff 4
                  have hs5 : f0 5 = Value.int .i64 hi := hff 5
                  clear hff
                  refine syp F0 rfl (by omega) (wanted_none rfl) (v := Value.pointer (some ⟨ib.pb, 0, none⟩)) (by simp only [execOp, (F0.eval 21 (by omega)).trans (show _ = Value.pointer (some ⟨ib.pb, 0, none⟩) from by simp [upd, hs21, hs20, hs4, hs5])]; first | rfl | simp [go_sem]) fun F1 => ?_
                  refine syp F1 rfl (by omega) (wanted_none rfl) (v := Value.bool false) (by simp only [execOp, (F1.eval 81 (by omega)).trans (show _ = Value.pointer (some ⟨ib.pb, 0, none⟩) from by simp [upd, hs21, hs20, hs4, hs5])]; simp [go_sem, Act.eval]) fun F2 => ?_
                  refine syp F2 rfl (by omega) (wanted_none rfl) (v := Value.bool false) (by simp only [execOp, (F2.eval 82 (by omega)).trans (show _ = Value.bool false from by simp [upd, hs21, hs20, hs4, hs5])]; first | rfl | simp [go_sem]) fun F3 => ?_
                  refine syp F3 rfl (by omega) (want_yes F3 rfl (e := 83) rfl (by omega) (show _ = Value.bool false from by simp [upd, hs21, hs20, hs4, hs5])) (v := Value.pointer (some ⟨ob, 0, none⟩)) (by simp only [execOp, (F3.eval 20 (by omega)).trans (show _ = Value.pointer (some ⟨ob, 0, none⟩) from by simp [upd, hs21, hs20, hs4, hs5])]; simp [go_sem, Act.eval]) fun F4 => ?_
                  refine syp F4 rfl (by omega) (want_yes F4 rfl (e := 83) rfl (by omega) (show _ = Value.bool false from by simp [upd, hs21, hs20, hs4, hs5])) (v := Value.int .i64 o.k) (by simp only [execOp, (F4.eval 84 (by omega)).trans (show _ = Value.pointer (some ⟨ob, 0, none⟩) from by simp [upd, hs21, hs20, hs4, hs5])]; simp [go_sem, Act.eval, x0]) fun F5 => ?_
                  refine syp F5 rfl (by omega) (want_yes F5 rfl (e := 83) rfl (by omega) (show _ = Value.bool false from by simp [upd, hs21, hs20, hs4, hs5])) (v := Value.bool true) (by simp only [execOp, (F5.eval 85 (by omega)).trans (show _ = Value.int .i64 o.k from by simp [upd, hs21, hs20, hs4, hs5])]; simp [go_sem, Act.eval, hk3]) fun F6 => ?_
                  refine syp F6 rfl (by omega) (want_yes F6 rfl (e := 83) rfl (by omega) (show _ = Value.bool false from by simp [upd, hs21, hs20, hs4, hs5])) (v := Value.bool true) (by simp only [execOp, (F6.eval 86 (by omega)).trans (show _ = Value.bool true from by simp [upd, hs21, hs20, hs4, hs5])]; first | rfl | simp [go_sem]) fun F7 => ?_
                  refine syp F7 rfl (by omega) (want_yes F7 rfl (e := 87) rfl (by omega) (show _ = Value.bool true from by simp [upd, hs21, hs20, hs4, hs5])) (v := Value.pointer (some ⟨ob, 0, none⟩)) (by simp only [execOp, (F7.eval 20 (by omega)).trans (show _ = Value.pointer (some ⟨ob, 0, none⟩) from by simp [upd, hs21, hs20, hs4, hs5])]; simp [go_sem, Act.eval]) fun F8 => ?_
                  refine syp F8 rfl (by omega) (want_yes F8 rfl (e := 87) rfl (by omega) (show _ = Value.bool true from by simp [upd, hs21, hs20, hs4, hs5])) (v := Value.int .i64 o.k) (by simp only [execOp, (F8.eval 88 (by omega)).trans (show _ = Value.pointer (some ⟨ob, 0, none⟩) from by simp [upd, hs21, hs20, hs4, hs5])]; simp [go_sem, Act.eval, x0]) fun F9 => ?_
                  refine syp F9 rfl (by omega) (want_yes F9 rfl (e := 87) rfl (by omega) (show _ = Value.bool true from by simp [upd, hs21, hs20, hs4, hs5])) (v := Value.bool true) (by simp only [execOp, (F9.eval 89 (by omega)).trans (show _ = Value.int .i64 o.k from by simp [upd, hs21, hs20, hs4, hs5])]; simp [go_sem, Act.eval, hk5]) fun F10 => ?_
                  refine syp F10 rfl (by omega) (want_yes F10 rfl (e := 83) rfl (by omega) (show _ = Value.bool false from by simp [upd, hs21, hs20, hs4, hs5])) (v := Value.bool true) (by simp only [execOp, (F10.eval 87 (by omega)).trans (show _ = Value.bool true from by simp [upd, hs21, hs20, hs4, hs5]), (F10.eval 90 (by omega)).trans (show _ = Value.bool true from by simp [upd, hs21, hs20, hs4, hs5])]; simp [go_sem, Act.eval]) fun F11 => ?_
                  refine syp F11 rfl (by omega) (want_yes F11 rfl (e := 83) rfl (by omega) (show _ = Value.bool false from by simp [upd, hs21, hs20, hs4, hs5])) (v := Value.bool true) (by simp only [execOp, (F11.eval 91 (by omega)).trans (show _ = Value.bool true from by simp [upd, hs21, hs20, hs4, hs5])]; first | rfl | simp [go_sem]) fun F12 => ?_
                  refine syp F12 rfl (by omega) (want_yes F12 rfl (e := 92) rfl (by omega) (show _ = Value.bool true from by simp [upd, hs21, hs20, hs4, hs5])) (v := Value.pointer (some ⟨ob, 0, none⟩)) (by simp only [execOp, (F12.eval 20 (by omega)).trans (show _ = Value.pointer (some ⟨ob, 0, none⟩) from by simp [upd, hs21, hs20, hs4, hs5])]; simp [go_sem, Act.eval]) fun F13 => ?_
                  refine syp F13 rfl (by omega) (want_yes F13 rfl (e := 92) rfl (by omega) (show _ = Value.bool true from by simp [upd, hs21, hs20, hs4, hs5])) (v := Value.int .i64 o.k) (by simp only [execOp, (F13.eval 93 (by omega)).trans (show _ = Value.pointer (some ⟨ob, 0, none⟩) from by simp [upd, hs21, hs20, hs4, hs5])]; simp [go_sem, Act.eval, x0]) fun F14 => ?_
                  refine syp F14 rfl (by omega) (want_yes F14 rfl (e := 92) rfl (by omega) (show _ = Value.bool true from by simp [upd, hs21, hs20, hs4, hs5])) (v := Value.int .i64 lo) (by simp only [execOp, (F14.eval 4 (by omega)).trans (show _ = Value.int .i64 lo from by simp [upd, hs21, hs20, hs4, hs5])]; first | rfl | simp [go_sem]) fun F15 => ?_
                  refine syp F15 rfl (by omega) (want_yes F15 rfl (e := 92) rfl (by omega) (show _ = Value.bool true from by simp [upd, hs21, hs20, hs4, hs5])) (v := Value.bool false) (by simp only [execOp, (F15.eval 94 (by omega)).trans (show _ = Value.int .i64 o.k from by simp [upd, hs21, hs20, hs4, hs5]), (F15.eval 95 (by omega)).trans (show _ = Value.int .i64 lo from by simp [upd, hs21, hs20, hs4, hs5])]; simp [go_sem, Act.eval, hlo]) fun F16 => ?_
                  refine syp F16 rfl (by omega) (want_yes F16 rfl (e := 92) rfl (by omega) (show _ = Value.bool true from by simp [upd, hs21, hs20, hs4, hs5])) (v := Value.bool false) (by simp only [execOp, (F16.eval 96 (by omega)).trans (show _ = Value.bool false from by simp [upd, hs21, hs20, hs4, hs5])]; first | rfl | simp [go_sem]) fun F17 => ?_
                  refine syp F17 rfl (by omega) (want_yes F17 rfl (e := 97) rfl (by omega) (show _ = Value.bool false from by simp [upd, hs21, hs20, hs4, hs5])) (v := Value.pointer (some ⟨ob, 0, none⟩)) (by simp only [execOp, (F17.eval 20 (by omega)).trans (show _ = Value.pointer (some ⟨ob, 0, none⟩) from by simp [upd, hs21, hs20, hs4, hs5])]; simp [go_sem, Act.eval]) fun F18 => ?_
                  refine syp F18 rfl (by omega) (want_yes F18 rfl (e := 97) rfl (by omega) (show _ = Value.bool false from by simp [upd, hs21, hs20, hs4, hs5])) (v := Value.int .i64 o.k) (by simp only [execOp, (F18.eval 98 (by omega)).trans (show _ = Value.pointer (some ⟨ob, 0, none⟩) from by simp [upd, hs21, hs20, hs4, hs5])]; simp [go_sem, Act.eval, x0]) fun F19 => ?_
                  refine syp F19 rfl (by omega) (want_yes F19 rfl (e := 97) rfl (by omega) (show _ = Value.bool false from by simp [upd, hs21, hs20, hs4, hs5])) (v := Value.int .i64 hi) (by simp only [execOp, (F19.eval 5 (by omega)).trans (show _ = Value.int .i64 hi from by simp [upd, hs21, hs20, hs4, hs5])]; first | rfl | simp [go_sem]) fun F20 => ?_
                  refine syp F20 rfl (by omega) (want_yes F20 rfl (e := 97) rfl (by omega) (show _ = Value.bool false from by simp [upd, hs21, hs20, hs4, hs5])) (v := Value.bool false) (by simp only [execOp, (F20.eval 99 (by omega)).trans (show _ = Value.int .i64 o.k from by simp [upd, hs21, hs20, hs4, hs5]), (F20.eval 100 (by omega)).trans (show _ = Value.int .i64 hi from by simp [upd, hs21, hs20, hs4, hs5])]; simp [go_sem, Act.eval, hhi]) fun F21 => ?_
                  refine syp F21 rfl (by omega) (want_yes F21 rfl (e := 92) rfl (by omega) (show _ = Value.bool true from by simp [upd, hs21, hs20, hs4, hs5])) (v := Value.bool false) (by simp only [execOp, (F21.eval 97 (by omega)).trans (show _ = Value.bool false from by simp [upd, hs21, hs20, hs4, hs5]), (F21.eval 101 (by omega)).trans (show _ = Value.bool false from by simp [upd, hs21, hs20, hs4, hs5])]; simp [go_sem, Act.eval]) fun F22 => ?_
                  refine syp F22 rfl (by omega) (want_yes F22 rfl (e := 83) rfl (by omega) (show _ = Value.bool false from by simp [upd, hs21, hs20, hs4, hs5])) (v := Value.bool false) (by simp only [execOp, (F22.eval 92 (by omega)).trans (show _ = Value.bool true from by simp [upd, hs21, hs20, hs4, hs5]), (F22.eval 102 (by omega)).trans (show _ = Value.bool false from by simp [upd, hs21, hs20, hs4, hs5])]; simp [go_sem, Act.eval]) fun F23 => ?_
                  refine syp F23 rfl (by omega) (wanted_none rfl) (v := Value.bool false) (by simp only [execOp, (F23.eval 83 (by omega)).trans (show _ = Value.bool false from by simp [upd, hs21, hs20, hs4, hs5]), (F23.eval 103 (by omega)).trans (show _ = Value.bool false from by simp [upd, hs21, hs20, hs4, hs5])]; simp [go_sem, Act.eval]) fun F24 => ?_
                  refine ⟨?_⟩
                  clear F0 F1 F2 F3 F4 F5 F6 F7 F8 F9 F10 F11 F12 F13 F14 F15 F16 F17 F18 F19 F20 F21 F22 F23 F24 hs21 hs20 hs4 hs5 
                  simp only [Act.put, List.setIfInBounds_toArray, List.set_cons_succ, List.set_cons_zero]
                  go_wp2_with fail
                  refine Calls.mono HPL.out ?_
                  rintro e9 w9 ⟨rfl, hP9⟩
                  have HI9 : Hid (RI w N kb [ib] (k + 1) w9) := hP9
                  clear hP9 HPL
                  go_wp2_with fail
                  go_roundw
                  case rel => exact ⟨k + 1, by omega, by omega, by go_num, HI9.out⟩
                  case measure => simp [intOf]; omega
            · have HPL : Hid _ := HIX.out.play (i := ib) o (by simp) (by omega) hN16 HOK.out HOA.out.f (Or.inl rfl)
              go_upto_region 20 with fail
              refine wp_region_lit ?_
              refine withFrS (N := 113) rfl ?_
              intro f0 F0 hff
              have hs21 : f0 21 = Value.pointer (some ⟨ib.pb, 0, none⟩) := hff 21
              have hs20 : f0 20 = Value.pointer (some ⟨ob, 0, none⟩) := hff 20
              have hs4 : f0 4 = Value.int .i64 lo := hff 4
              have hs5 : f0 5 = Value.int .i64 hi := hff 5
              clear hff
              refine syp F0 rfl (by omega) (wanted_none rfl) (v := Value.pointer (some ⟨ib.pb, 0, none⟩)) (by simp only [execOp, (F0.eval 21 (by omega)).trans (show _ = Value.pointer (some ⟨ib.pb, 0, none⟩) from by simp [upd, hs21, hs20, hs4, hs5])]; first | rfl | simp [go_sem]) fun F1 => ?_
              refine syp F1 rfl (by omega) (wanted_none rfl) (v := Value.bool false) (by simp only [execOp, (F1.eval 81 (by omega)).trans (show _ = Value.pointer (some ⟨ib.pb, 0, none⟩) from by simp [upd, hs21, hs20, hs4, hs5])]; simp [go_sem, Act.eval]) fun F2 => ?_
              refine syp F2 rfl (by omega) (wanted_none rfl) (v := Value.bool false) (by simp only [execOp, (F2.eval 82 (by omega)).trans (show _ = Value.bool false from by simp [upd, hs21, hs20, hs4, hs5])]; first | rfl | simp [go_sem]) fun F3 => ?_
              refine syp F3 rfl (by omega) (want_yes F3 rfl (e := 83) rfl (by omega) (show _ = Value.bool false from by simp [upd, hs21, hs20, hs4, hs5])) (v := Value.pointer (some ⟨ob, 0, none⟩)) (by simp only [execOp, (F3.eval 20 (by omega)).trans (show _ = Value.pointer (some ⟨ob, 0, none⟩) from by simp [upd, hs21, hs20, hs4, hs5])]; simp [go_sem, Act.eval]) fun F4 => ?_
              refine syp F4 rfl (by omega) (want_yes F4 rfl (e := 83) rfl (by omega) (show _ = Value.bool false from by simp [upd, hs21, hs20, hs4, hs5])) (v := Value.int .i64 o.k) (by simp only [execOp, (F4.eval 84 (by omega)).trans (show _ = Value.pointer (some ⟨ob, 0, none⟩) from by simp [upd, hs21, hs20, hs4, hs5])]; simp [go_sem, Act.eval, x0]) fun F5 => ?_
              refine syp F5 rfl (by omega) (want_yes F5 rfl (e := 83) rfl (by omega) (show _ = Value.bool false from by simp [upd, hs21, hs20, hs4, hs5])) (v := Value.bool true) (by simp only [execOp, (F5.eval 85 (by omega)).trans (show _ = Value.int .i64 o.k from by simp [upd, hs21, hs20, hs4, hs5])]; simp [go_sem, Act.eval, hk3]) fun F6 => ?_
              refine syp F6 rfl (by omega) (want_yes F6 rfl (e := 83) rfl (by omega) (show _ = Value.bool false from by simp [upd, hs21, hs20, hs4, hs5])) (v := Value.bool true) (by simp only [execOp, (F6.eval 86 (by omega)).trans (show _ = Value.bool true from by simp [upd, hs21, hs20, hs4, hs5])]; first | rfl | simp [go_sem]) fun F7 => ?_
              refine syp F7 rfl (by omega) (want_yes F7 rfl (e := 87) rfl (by omega) (show _ = Value.bool true from by simp [upd, hs21, hs20, hs4, hs5])) (v := Value.pointer (some ⟨ob, 0, none⟩)) (by simp only [execOp, (F7.eval 20 (by omega)).trans (show _ = Value.pointer (some ⟨ob, 0, none⟩) from by simp [upd, hs21, hs20, hs4, hs5])]; simp [go_sem, Act.eval]) fun F8 => ?_
              refine syp F8 rfl (by omega) (want_yes F8 rfl (e := 87) rfl (by omega) (show _ = Value.bool true from by simp [upd, hs21, hs20, hs4, hs5])) (v := Value.int .i64 o.k) (by simp only [execOp, (F8.eval 88 (by omega)).trans (show _ = Value.pointer (some ⟨ob, 0, none⟩) from by simp [upd, hs21, hs20, hs4, hs5])]; simp [go_sem, Act.eval, x0]) fun F9 => ?_
              refine syp F9 rfl (by omega) (want_yes F9 rfl (e := 87) rfl (by omega) (show _ = Value.bool true from by simp [upd, hs21, hs20, hs4, hs5])) (v := Value.bool false) (by simp only [execOp, (F9.eval 89 (by omega)).trans (show _ = Value.int .i64 o.k from by simp [upd, hs21, hs20, hs4, hs5])]; simp [go_sem, Act.eval, hk5]) fun F10 => ?_
              refine syp F10 rfl (by omega) (want_yes F10 rfl (e := 83) rfl (by omega) (show _ = Value.bool false from by simp [upd, hs21, hs20, hs4, hs5])) (v := Value.bool false) (by simp only [execOp, (F10.eval 87 (by omega)).trans (show _ = Value.bool true from by simp [upd, hs21, hs20, hs4, hs5]), (F10.eval 90 (by omega)).trans (show _ = Value.bool false from by simp [upd, hs21, hs20, hs4, hs5])]; simp [go_sem, Act.eval]) fun F11 => ?_
              refine syp F11 rfl (by omega) (want_yes F11 rfl (e := 83) rfl (by omega) (show _ = Value.bool false from by simp [upd, hs21, hs20, hs4, hs5])) (v := Value.bool false) (by simp only [execOp, (F11.eval 91 (by omega)).trans (show _ = Value.bool false from by simp [upd, hs21, hs20, hs4, hs5])]; first | rfl | simp [go_sem]) fun F12 => ?_
              refine snp F12 rfl (by omega) (want_no F12 rfl (e := 92) rfl (by omega) (show _ = Value.bool false from by simp [upd, hs21, hs20, hs4, hs5]) (by decide)) fun F13 => ?_
              refine snp F13 rfl (by omega) (want_no F13 rfl (e := 92) rfl (by omega) (show _ = Value.bool false from by simp [upd, hs21, hs20, hs4, hs5]) (by decide)) fun F14 => ?_
              refine snp F14 rfl (by omega) (want_no F14 rfl (e := 92) rfl (by omega) (show _ = Value.bool false from by simp [upd, hs21, hs20, hs4, hs5]) (by decide)) fun F15 => ?_
              refine snp F15 rfl (by omega) (want_no F15 rfl (e := 92) rfl (by omega) (show _ = Value.bool false from by simp [upd, hs21, hs20, hs4, hs5]) (by decide)) fun F16 => ?_
              refine snp F16 rfl (by omega) (want_no F16 rfl (e := 92) rfl (by omega) (show _ = Value.bool false from by simp [upd, hs21, hs20, hs4, hs5]) (by decide)) fun F17 => ?_
              refine snp F17 rfl (by omega) (want_not F17 rfl (e := 97) rfl (by omega) (show _ = undef from by simp [upd, hs21, hs20, hs4, hs5])) fun F18 => ?_
              refine snp F18 rfl (by omega) (want_not F18 rfl (e := 97) rfl (by omega) (show _ = undef from by simp [upd, hs21, hs20, hs4, hs5])) fun F19 => ?_
              refine snp F19 rfl (by omega) (want_not F19 rfl (e := 97) rfl (by omega) (show _ = undef from by simp [upd, hs21, hs20, hs4, hs5])) fun F20 => ?_
              refine snp F20 rfl (by omega) (want_not F20 rfl (e := 97) rfl (by omega) (show _ = undef from by simp [upd, hs21, hs20, hs4, hs5])) fun F21 => ?_
              refine snp F21 rfl (by omega) (want_no F21 rfl (e := 92) rfl (by omega) (show _ = Value.bool false from by simp [upd, hs21, hs20, hs4, hs5]) (by decide)) fun F22 => ?_
              refine syp F22 rfl (by omega) (want_yes F22 rfl (e := 83) rfl (by omega) (show _ = Value.bool false from by simp [upd, hs21, hs20, hs4, hs5])) (v := Value.bool false) (by simp only [execOp, (F22.eval 92 (by omega)).trans (show _ = Value.bool false from by simp [upd, hs21, hs20, hs4, hs5])]; simp [go_sem, Act.eval]) fun F23 => ?_
              refine syp F23 rfl (by omega) (wanted_none rfl) (v := Value.bool false) (by simp only [execOp, (F23.eval 83 (by omega)).trans (show _ = Value.bool false from by simp [upd, hs21, hs20, hs4, hs5]), (F23.eval 103 (by omega)).trans (show _ = Value.bool false from by simp [upd, hs21, hs20, hs4, hs5])]; simp [go_sem, Act.eval]) fun F24 => ?_
              refine ⟨?_⟩
              clear F0 F1 F2 F3 F4 F5 F6 F7 F8 F9 F10 F11 F12 F13 F14 F15 F16 F17 F18 F19 F20 F21 F22 F23 F24 hs21 hs20 hs4 hs5 
              simp only [Act.put, List.setIfInBounds_toArray, List.set_cons_succ, List.set_cons_zero]
              go_wp2_with fail
              refine Calls.mono HPL.out ?_
              rintro e9 w9 ⟨rfl, hP9⟩
              have HI9 : Hid (RI w N kb [ib] (k + 1) w9) := hP9
              clear hP9 HPL
              go_wp2_with fail
              go_roundw
              case rel => exact ⟨k + 1, by omega, by omega, by go_num, HI9.out⟩
              case measure => simp [intOf]; omega
          · have HPL : Hid _ := HIX.out.play (i := ib) o (by simp) (by omega) hN16 HOK.out HOA.out.f (Or.inl rfl)
            go_upto_region 20 with fail
            refine wp_region_lit ?_
            refine withFrS (N := 113) rfl ?_
            intro f0 F0 hff
            have hs21 : f0 21 = Value.pointer (some ⟨ib.pb, 0, none⟩) := hff 21
            have hs20 : f0 20 = Value.pointer (some ⟨ob, 0, none⟩) := hff 20
            have hs4 : f0 4 = Value.int .i64 lo := hff 4
            have hs5 : f0 5 = Value.int .i64 hi := hff 5
            clear hff
            refine syp F0 rfl (by omega) (wanted_none rfl) (v := Value.pointer (some ⟨ib.pb, 0, none⟩)) (by simp only [execOp, (F0.eval 21 (by omega)).trans (show _ = Value.pointer (some ⟨ib.pb, 0, none⟩) from by simp [upd, hs21, hs20, hs4, hs5])]; first | rfl | simp [go_sem]) fun F1 => ?_
            refine syp F1 rfl (by omega) (wanted_none rfl) (v := Value.bool false) (by simp only [execOp, (F1.eval 81 (by omega)).trans (show _ = Value.pointer (some ⟨ib.pb, 0, none⟩) from by simp [upd, hs21, hs20, hs4, hs5])]; simp [go_sem, Act.eval]) fun F2 => ?_
            refine syp F2 rfl (by omega) (wanted_none rfl) (v := Value.bool false) (by simp only [execOp, (F2.eval 82 (by omega)).trans (show _ = Value.bool false from by simp [upd, hs21, hs20, hs4, hs5])]; first | rfl | simp [go_sem]) fun F3 => ?_
            refine syp F3 rfl (by omega) (want_yes F3 rfl (e := 83) rfl (by omega) (show _ = Value.bool false from by simp [upd, hs21, hs20, hs4, hs5])) (v := Value.pointer (some ⟨ob, 0, none⟩)) (by simp only [execOp, (F3.eval 20 (by omega)).trans (show _ = Value.pointer (some ⟨ob, 0, none⟩) from by simp [upd, hs21, hs20, hs4, hs5])]; simp [go_sem, Act.eval]) fun F4 => ?_
            refine syp F4 rfl (by omega) (want_yes F4 rfl (e := 83) rfl (by omega) (show _ = Value.bool false from by simp [upd, hs21, hs20, hs4, hs5])) (v := Value.int .i64 o.k) (by simp only [execOp, (F4.eval 84 (by omega)).trans (show _ = Value.pointer (some ⟨ob, 0, none⟩) from by simp [upd, hs21, hs20, hs4, hs5])]; simp [go_sem, Act.eval, x0]) fun F5 => ?_
            refine syp F5 rfl (by omega) (want_yes F5 rfl (e := 83) rfl (by omega) (show _ = Value.bool false from by simp [upd, hs21, hs20, hs4, hs5])) (v := Value.bool false) (by simp only [execOp, (F5.eval 85 (by omega)).trans (show _ = Value.int .i64 o.k from by simp [upd, hs21, hs20, hs4, hs5])]; simp [go_sem, Act.eval, hk3]) fun F6 => ?_
            refine syp F6 rfl (by omega) (want_yes F6 rfl (e := 83) rfl (by omega) (show _ = Value.bool false from by simp [upd, hs21, hs20, hs4, hs5])) (v := Value.bool false) (by simp only [execOp, (F6.eval 86 (by omega)).trans (show _ = Value.bool false from by simp [upd, hs21, hs20, hs4, hs5])]; first | rfl | simp [go_sem]) fun F7 => ?_
            refine snp F7 rfl (by omega) (want_no F7 rfl (e := 87) rfl (by omega) (show _ = Value.bool false from by simp [upd, hs21, hs20, hs4, hs5]) (by decide)) fun F8 => ?_
            refine snp F8 rfl (by omega) (want_no F8 rfl (e := 87) rfl (by omega) (show _ = Value.bool false from by simp [upd, hs21, hs20, hs4, hs5]) (by decide)) fun F9 => ?_
            refine snp F9 rfl (by omega) (want_no F9 rfl (e := 87) rfl (by omega) (show _ = Value.bool false from by simp [upd, hs21, hs20, hs4, hs5]) (by decide)) fun F10 => ?_
            refine syp F10 rfl (by omega) (want_yes F10 rfl (e := 83) rfl (by omega) (show _ = Value.bool false from by simp [upd, hs21, hs20, hs4, hs5])) (v := Value.bool false) (by simp only [execOp, (F10.eval 87 (by omega)).trans (show _ = Value.bool false from by simp [upd, hs21, hs20, hs4, hs5])]; simp [go_sem, Act.eval]) fun F11 => ?_
            refine syp F11 rfl (by omega) (want_yes F11 rfl (e := 83) rfl (by omega) (show _ = Value.bool false from by simp [upd, hs21, hs20, hs4, hs5])) (v := Value.bool false) (by simp only [execOp, (F11.eval 91 (by omega)).trans (show _ = Value.bool false from by simp [upd, hs21, hs20, hs4, hs5])]; first | rfl | simp [go_sem]) fun F12 => ?_
            refine snp F12 rfl (by omega) (want_no F12 rfl (e := 92) rfl (by omega) (show _ = Value.bool false from by simp [upd, hs21, hs20, hs4, hs5]) (by decide)) fun F13 => ?_
            refine snp F13 rfl (by omega) (want_no F13 rfl (e := 92) rfl (by omega) (show _ = Value.bool false from by simp [upd, hs21, hs20, hs4, hs5]) (by decide)) fun F14 => ?_
            refine snp F14 rfl (by omega) (want_no F14 rfl (e := 92) rfl (by omega) (show _ = Value.bool false from by simp [upd, hs21, hs20, hs4, hs5]) (by decide)) fun F15 => ?_
            refine snp F15 rfl (by omega) (want_no F15 rfl (e := 92) rfl (by omega) (show _ = Value.bool false from by simp [upd, hs21, hs20, hs4, hs5]) (by decide)) fun F16 => ?_
            refine snp F16 rfl (by omega) (want_no F16 rfl (e := 92) rfl (by omega) (show _ = Value.bool false from by simp [upd, hs21, hs20, hs4, hs5]) (by decide)) fun F17 => ?_
            refine snp F17 rfl (by omega) (want_not F17 rfl (e := 97) rfl (by omega) (show _ = undef from by simp [upd, hs21, hs20, hs4, hs5])) fun F18 => ?_
            refine snp F18 rfl (by omega) (want_not F18 rfl (e := 97) rfl (by omega) (show _ = undef from by simp [upd, hs21, hs20, hs4, hs5])) fun F19 => ?_
            refine snp F19 rfl (by omega) (want_not F19 rfl (e := 97) rfl (by omega) (show _ = undef from by simp [upd, hs21, hs20, hs4, hs5])) fun F20 => ?_
            refine snp F20 rfl (by omega) (want_not F20 rfl (e := 97) rfl (by omega) (show _ = undef from by simp [upd, hs21, hs20, hs4, hs5])) fun F21 => ?_
            refine snp F21 rfl (by omega) (want_no F21 rfl (e := 92) rfl (by omega) (show _ = Value.bool false from by simp [upd, hs21, hs20, hs4, hs5]) (by decide)) fun F22 => ?_
            refine syp F22 rfl (by omega) (want_yes F22 rfl (e := 83) rfl (by omega) (show _ = Value.bool false from by simp [upd, hs21, hs20, hs4, hs5])) (v := Value.bool false) (by simp only [execOp, (F22.eval 92 (by omega)).trans (show _ = Value.bool false from by simp [upd, hs21, hs20, hs4, hs5])]; simp [go_sem, Act.eval]) fun F23 => ?_
            refine syp F23 rfl (by omega) (wanted_none rfl) (v := Value.bool false) (by simp only [execOp, (F23.eval 83 (by omega)).trans (show _ = Value.bool false from by simp [upd, hs21, hs20, hs4, hs5]), (F23.eval 103 (by omega)).trans (show _ = Value.bool false from by simp [upd, hs21, hs20, hs4, hs5])]; simp [go_sem, Act.eval]) fun F24 => ?_
            refine ⟨?_⟩
            clear F0 F1 F2 F3 F4 F5 F6 F7 F8 F9 F10 F11 F12 F13 F14 F15 F16 F17 F18 F19 F20 F21 F22 F23 F24 hs21 hs20 hs4 hs5 
            simp only [Act.put, List.setIfInBounds_toArray, List.set_cons_succ, List.set_cons_zero]
            go_wp2_with fail
            refine Calls.mono HPL.out ?_
            rintro e9 w9 ⟨rfl, hP9⟩
            have HI9 : Hid (RI w N kb [ib] (k + 1) w9) := hP9
            clear hP9 HPL
            go_wp2_with fail
            go_roundw
            case rel => exact ⟨k + 1, by omega, by omega, by go_num, HI9.out⟩
            case measure => simp [intOf]; omega
        · have hwb : (o.who == 1) = false := by simpa using hw1
          clear hw1
          go_upto_region 20 with fail
          refine wp_region_lit ?_
          refine withFrS (N := 113) rfl ?_
          intro f0 F0 hff
          have hs21 : f0 21 = Value.pointer none := hff 21
          have hs20 : f0 20 = Value.pointer (some ⟨ob, 0, none⟩) := hff 20
          have hs4 : f0 4 = Value.int .i64 lo := hff 4
          have hs5 : f0 5 = Value.int .i64 hi := hff 5
          clear hff
          refine syp F0 rfl (by omega) (wanted_none rfl) (v := Value.pointer none) (by simp only [execOp, (F0.eval 21 (by omega)).trans (show _ = Value.pointer none from by simp [upd, hs21, hs20, hs4, hs5])]; first | rfl | simp [go_sem]) fun F1 => ?_
          refine syp F1 rfl (by omega) (wanted_none rfl) (v := Value.bool true) (by simp only [execOp, (F1.eval 81 (by omega)).trans (show _ = Value.pointer none from by simp [upd, hs21, hs20, hs4, hs5])]; simp [go_sem, Act.eval]) fun F2 => ?_
          refine syp F2 rfl (by omega) (wanted_none rfl) (v := Value.bool true) (by simp only [execOp, (F2.eval 82 (by omega)).trans (show _ = Value.bool true from by simp [upd, hs21, hs20, hs4, hs5])]; first | rfl | simp [go_sem]) fun F3 => ?_
          refine snp F3 rfl (by omega) (want_no F3 rfl (e := 83) rfl (by omega) (show _ = Value.bool true from by simp [upd, hs21, hs20, hs4, hs5]) (by decide)) fun F4 => ?_
          refine snp F4 rfl (by omega) (want_no F4 rfl (e := 83) rfl (by omega) (show _ = Value.bool true from by simp [upd, hs21, hs20, hs4, hs5]) (by decide)) fun F5 => ?_
          refine snp F5 rfl (by omega) (want_no F5 rfl (e := 83) rfl (by omega) (show _ = Value.bool true from by simp [upd, hs21, hs20, hs4, hs5]) (by decide)) fun F6 => ?_
          refine snp F6 rfl (by omega) (want_no F6 rfl (e := 83) rfl (by omega) (show _ = Value.bool true from by simp [upd, hs21, hs20, hs4, hs5]) (by decide)) fun F7 => ?_
          refine snp F7 rfl (by omega) (want_not F7 rfl (e := 87) rfl (by omega) (show _ = undef from by simp [upd, hs21, hs20, hs4, hs5])) fun F8 => ?_
          refine snp F8 rfl (by omega) (want_not F8 rfl (e := 87) rfl (by omega) (show _ = undef from by simp [upd, hs21, hs20, hs4, hs5])) fun F9 => ?_
          refine snp F9 rfl (by omega) (want_not F9 rfl (e := 87) rfl (by omega) (show _ = undef from by simp [upd, hs21, hs20, hs4, hs5])) fun F10 => ?_
          refine snp F10 rfl (by omega) (want_no F10 rfl (e := 83) rfl (by omega) (show _ = Value.bool true from by simp [upd, hs21, hs20, hs4, hs5]) (by decide)) fun F11 => ?_
          refine snp F11 rfl (by omega) (want_no F11 rfl (e := 83) rfl (by omega) (show _ = Value.bool true from by simp [upd, hs21, hs20, hs4, hs5]) (by decide)) fun F12 => ?_
          refine snp F12 rfl (by omega) (want_not F12 rfl (e := 92) rfl (by omega) (show _ = undef from by simp [upd, hs21, hs20, hs4, hs5])) fun F13 => ?_
          refine snp F13 rfl (by omega) (want_not F13 rfl (e := 92) rfl (by omega) (show _ = undef from by simp [upd, hs21, hs20, hs4, hs5])) fun F14 => ?_
          refine snp F14 rfl (by omega) (want_not F14 rfl (e := 92) rfl (by omega) (show _ = undef from by simp [upd, hs21, hs20, hs4, hs5])) fun F15 => ?_
          refine snp F15 rfl (by omega) (want_not F15 rfl (e := 92) rfl (by omega) (show _ = undef from by simp [upd, hs21, hs20, hs4, hs5])) fun F16 => ?_
          refine snp F16 rfl (by omega) (want_not F16 rfl (e := 92) rfl (by omega) (show _ = undef from by simp [upd, hs21, hs20, hs4, hs5])) fun F17 => ?_
          refine snp F17 rfl (by omega) (want_not F17 rfl (e := 97) rfl (by omega) (show _ = undef from by simp [upd, hs21, hs20, hs4, hs5])) fun F18 => ?_
          refine snp F18 rfl (by omega) (want_not F18 rfl (e := 97) rfl (by omega) (show _ = undef from by simp [upd, hs21, hs20, hs4, hs5])) fun F19 => ?_
          refine snp F19 rfl (by omega) (want_not F19 rfl (e := 97) rfl (by omega) (show _ = undef from by simp [upd, hs21, hs20, hs4, hs5])) fun F20 => ?_
          refine snp F20 rfl (by omega) (want_not F20 rfl (e := 97) rfl (by omega) (show _ = undef from by simp [upd, hs21, hs20, hs4, hs5])) fun F21 => ?_
          refine snp F21 rfl (by omega) (want_not F21 rfl (e := 92) rfl (by omega) (show _ = undef from by simp [upd, hs21, hs20, hs4, hs5])) fun F22 => ?_
          refine snp F22 rfl (by omega) (want_no F22 rfl (e := 83) rfl (by omega) (show _ = Value.bool true from by simp [upd, hs21, hs20, hs4, hs5]) (by decide)) fun F23 => ?_
          refine syp F23 rfl (by omega) (wanted_none rfl) (v := Value.bool true) (by simp only [execOp, (F23.eval 83 (by omega)).trans (show _ = Value.bool true from by simp [upd, hs21, hs20, hs4, hs5])]; simp [go_sem, Act.eval]) fun F24 => ?_
          refine ⟨?_⟩
          clear F0 F1 F2 F3 F4 F5 F6 F7 F8 F9 F10 F11 F12 F13 F14 F15 F16 F17 F18 F19 F20 F21 F22 F23 F24 hs21 hs20 hs4 hs5 
          simp only [Act.put, List.setIfInBounds_toArray, List.set_cons_succ, List.set_cons_zero]
          go_wp2_with fail
          go_roundw
          case rel => exact ⟨k + 1, by omega, by omega, by go_num, HIX.out.mono⟩
          case measure => simp [intOf]; omega
      · have HAP : Hid _ := HI.out.apart (by omega)
        go_wp2_with fail
        refine Calls.mono HAP.out ?_
        rintro e9 w9 ⟨rfl, hw9⟩
        have HB9 : Hid (Below w.heap.size w w9) := hw9
        clear hw9 HAP
        go_wp2_with fail
        go_ret
        exact ⟨rfl, HB9.out⟩
    · have HAP : Hid _ := HI.out.apart (by omega)
      go_wp2_with fail
      refine Calls.mono HAP.out ?_
      rintro e9 w9 ⟨rfl, hw9⟩
      have HB9 : Hid (Below w.heap.size w w9) := hw9
      clear hw9 HAP
      go_wp2_with fail
      go_ret
      exact ⟨rfl, HB9.out⟩
end Go.Proofs.Ytdblbjcdnkiepaa
namespace Go.Proofs.Ytdblbjcdnkiepaa
open Go.RowKit Go.PlainAid Go.MapKept
set_option linter.unusedVariables false
set_option linter.unusedSimpArgs false
set_option maxRecDepth 100000 in
set_option maxHeartbeats 12800000 in
theorem runs_00 (me peer n lo hi : Int) (ao : Option Addr) (Ns cap : Nat) (os : List OpA) (w : World) (hcm : Ns ≤ maxLen) (hr : RunOk (fun _ => True) ao Ns os w) (ha : newCode me n ≠ 0) (hb : newCode peer n ≠ 0) :
    Calls Try.prog 20 #[.int .i64 me, .int .i64 peer, .int .i64 n, .slice ao Ns cap, .int .i64 lo, .int .i64 hi] w fun e w' => e = .returned (.bool true) ∧ Below w.heap.size w w' := by
  unfold maxLen at hcm
  obtain ⟨N, hN0⟩ : ∃ N : Nat, N = 0 := ⟨_, rfl⟩
  clear hN0
  have HR : Hid (RunOk (fun _ => True) ao Ns os w) := hr
  have HMA : Hid (∀ W, _) := fun W => made_none me n W ha
  have HMB : Hid (∀ W, _) := fun W => made_none peer n W hb
  clear hr ha hb
  go_enter Try.func20, Try.ntmps20
  go_wp2_with fail
  refine Calls.mono (alive_any w) ?_
  rintro e9 w1 ⟨rfl, hb1⟩
  have HB1 : Hid (Below w.heap.size w w1) := hb1
  clear hb1
  go_wp2_with fail
  refine Calls.mono (HMA.out w1) ?_
  rintro e9 w2 ⟨rfl, hw2⟩
  replace hw2 := hw2.symm
  subst hw2
  have HB2 : Hid (Below w.heap.size w w1) := HB1.out
  clear HMA HB1
  go_wp2_with fail
  refine Calls.mono (HMB.out w1) ?_
  rintro e9 w3 ⟨rfl, hw3⟩
  replace hw3 := hw3.symm
  subst hw3
  have HB3 : Hid (Below w.heap.size w w1) := HB2.out
  clear HMB HB2
  obtain ⟨kb, hkb⟩ : ∃ kb, kb = w1.heap.size := ⟨_, rfl⟩
  obtain ⟨W4, hW4⟩ : ∃ W4, W4 = w1.alloc (.cells #[.slice none 0 0, .slice none 0 0] 90) := ⟨_, rfl⟩
  have hb4 : Below w1.heap.size w1 W4 := by rw [hW4]; exact (Below.refl _ _).alloc (Nat.le_refl _) _
  have HKL : Hid (w.heap.size ≤ kb) := show w.heap.size ≤ kb from by rw [hkb]; exact HB3.out.size
  have HK4 : Hid (Blk W4 kb #[.slice none 0 0, .slice none 0 0] 90) := show Blk W4 kb #[.slice none 0 0, .slice none 0 0] 90 from by rw [hW4, hkb]; exact heap_alloc_new _ _
  have HB4 : Hid (Below w.heap.size w W4) := HB3.out.trans (hb4.mono HB3.out.size)
  go_upto_region 7 with fail
  rw [← hW4, ← hkb]
  clear hW4 hkb hb4 HB3
  have HI0 : Hid (RI w N kb [] 0 W4) := RI.start (fun i hi => by cases hi) List.Pairwise.nil HK4.out HKL.out HB4.out
  clear HK4 HB4 HKL
  go_wp2_with fail
  go_loopw [19] (fun s19 wr => ∃ (k : Nat), k ≤ 200 ∧ k ≤ Ns ∧ s19 = .int .i64 k ∧ RI w N kb [] k wr) (fun s19 _ => Ns - (intOf s19).toNat)
  case atStart => exact ⟨0, by omega, by omega, rfl, HI0.out⟩
  case round =>
    obtain ⟨k, hk200, hkN, rfl, hri⟩ := hrel
    clear HI0
    have HI : Hid (RI w N kb [] k wr) := hri
    clear hri
    by_cases hkl : k < Ns
    · by_cases hk2 : k < 200
      · obtain ⟨hl0, hok0, hat0⟩ := HR.out
        obtain ⟨o, ho⟩ : ∃ o, os[k]? = some o := ⟨_, List.getElem?_eq_getElem (by rw [hl0]; exact hkl)⟩
        have HOK : Hid o.ok := hok0 o (List.mem_of_getElem? ho)
        obtain ⟨b, off, hao, hcell⟩ := hat0 (by omega)
        subst hao
        have HOA : Hid (OpAt w b (off + k * 9) o) := hcell k o ho
        obtain ⟨x0, x1, x2, x3, x4, x5, x6, x7, x8, _⟩ := HOA.out.below HI.out.bel
        obtain ⟨ob, hob⟩ : ∃ ob, ob = wr.heap.size := ⟨_, rfl⟩
        obtain ⟨X, hX⟩ : ∃ X, X = wr.alloc (.cells #[.int .i64 o.k, .int .i64 o.who, .int .i64 o.a, .int .i64 o.b, .int .i64 o.h, .string ⟨o.n.toArray⟩, .int .i64 o.d, .int .i64 o.u, .slice o.la o.K o.cap] 92) := ⟨_, rfl⟩
        have HBX : Hid (Below wr.heap.size wr X) := show Below wr.heap.size wr X from by rw [hX]; exact (Below.refl _ _).alloc (Nat.le_refl _) _
        have hBo : Blk X ob #[.int .i64 o.k, .int .i64 o.who, .int .i64 o.a, .int .i64 o.b, .int .i64 o.h, .string ⟨o.n.toArray⟩, .int .i64 o.d, .int .i64 o.u, .slice o.la o.K o.cap] 92 := by rw [hX, hob]; exact heap_alloc_new wr _
        have HIX : Hid (RI w N kb [] k X) := HI.out.more HBX.out
        clear ho hcell hl0 hok0 hat0
        go_upto_region 15 with fail
        rw [← hX, ← hob]
        clear hX hob x0 x1 x2 x3 x4 x5 x6 x7 x8
        have x0 : X.cell? ⟨ob, 0, none⟩ = some (.int .i64 o.k) := hBo.cell 0
        have x1 : X.cell? ⟨ob, 1, none⟩ = some (.int .i64 o.who) := hBo.cell 1
        have x2 : X.cell? ⟨ob, 2, none⟩ = some (.int .i64 o.a) := hBo.cell 2
        have x3 : X.cell? ⟨ob, 3, none⟩ = some (.int .i64 o.b) := hBo.cell 3
        have x4 : X.cell? ⟨ob, 4, none⟩ = some (.int .i64 o.h) := hBo.cell 4
        have x5 : X.cell? ⟨ob, 5, none⟩ = some (.string ⟨o.n.toArray⟩) := hBo.cell 5
        have x6 : X.cell? ⟨ob, 6, none⟩ = some (.int .i64 o.d) := hBo.cell 6
        have x7 : X.cell? ⟨ob, 7, none⟩ = some (.int .i64 o.u) := hBo.cell 7
        have x8 : X.cell? ⟨ob, 8, none⟩ = some (.slice o.la o.K o.cap) := hBo.cell 8
        clear hBo
        by_cases hw1 : o.who = 1
        · have hwb : (o.who == 1) = true := by simpa using hw1
          clear hw1
          go_upto_region 20 with fail
          refine wp_region_lit ?_
          refine withFrS (N := 113) rfl ?_
          intro f0 F0 hff
          have hs21 : f0 21 = Value.pointer none := hff 21
          have hs20 : f0 20 = Value.pointer (some ⟨ob, 0, none⟩) := hff 20
          have hs4 : f0 4 = Value.int .i64 lo := hff 4
          have hs5 : f0 5 = Value.int .i64 hi := hff 5
          clear hff
          refine syp F0 rfl (by omega) (wanted_none rfl) (v := Value.pointer none) (by simp only [execOp, (F0.eval 21 (by omega)).trans (show _ = Value.pointer none from by simp [upd, hs21, hs20, hs4, hs5])]; first | rfl | simp [go_sem]) fun F1 => ?_
          refine syp F1 rfl (by omega) (wanted_none rfl) (v := Value.bool true) (by simp only [execOp, (F1.eval 81 (by omega)).trans (show _ = Value.pointer none from by simp [upd, hs21, hs20, hs4, hs5])]; simp [go_sem, Act.eval]) fun F2 => ?_
          refine syp F2 rfl (by omega) (wanted_none rfl) (v := Value.bool true) (by simp only [execOp, (F2.eval 82 (by omega)).trans (show _ = Value.bool true from by simp [upd, hs21, hs20, hs4, hs5])]; first | rfl | simp [go_sem]) fun F3 => ?_
          refine snp F3 rfl (by omega) (want_no F3 rfl (e := 83) rfl (by omega) (show _ = Value.bool true from by simp [upd, hs21, hs20, hs4, hs5]) (by decide)) fun F4 => ?_
          refine snp F4 rfl (by omega) (want_no F4 rfl (e := 83) rfl (by omega) (show _ = Value.bool true from by simp [upd, hs21, hs20, hs4, hs5]) (by decide)) fun F5 => ?_
          refine snp F5 rfl (by omega) (want_no F5 rfl (e := 83) rfl (by omega) (show _ = Value.bool true from by simp [upd, hs21, hs20, hs4, hs5]) (by decide)) fun F6 => ?_
          refine snp F6 rfl (by omega) (want_no F6 rfl (e := 83) rfl (by omega) (show _ = Value.bool true from by simp [upd, hs21, hs20, hs4, hs5]) (by decide)) fun F7 => ?_
          refine snp F7 rfl (by omega) (want_not F7 rfl (e := 87) rfl (by omega) (show _ = undef from by simp [upd, hs21, hs20, hs4, hs5])) fun F8 => ?_
          refine snp F8 rfl (by omega) (want_not F8 rfl (e := 87) rfl (by omega) (show _ = undef from by simp [upd, hs21, hs20, hs4, hs5])) fun F9 => ?_
          refine snp F9 rfl (by omega) (want_not F9 rfl (e := 87) rfl (by omega) (show _ = undef from by simp [upd, hs21, hs20, hs4, hs5])) fun F10 => ?_
          refine snp F10 rfl (by omega) (want_no F10 rfl (e := 83) rfl (by omega) (show _ = Value.bool true from by simp [upd, hs21, hs20, hs4, hs5]) (by decide)) fun F11 => ?_
          refine snp F11 rfl (by omega) (want_no F11 rfl (e := 83) rfl (by omega) (show _ = Value.bool true from by simp [upd, hs21, hs20, hs4, hs5]) (by decide)) fun F12 => ?_
          refine snp F12 rfl (by omega) (want_not F12 rfl (e := 92) rfl (by omega) (show _ = undef from by simp [upd, hs21, hs20, hs4, hs5])) fun F13 => ?_
          refine snp F13 rfl (by omega) (want_not F13 rfl (e := 92) rfl (by omega) (show _ = undef from by simp [upd, hs21, hs20, hs4, hs5])) fun F14 => ?_
          refine snp F14 rfl (by omega) (want_not F14 rfl (e := 92) rfl (by omega) (show _ = undef from by simp [upd, hs21, hs20, hs4, hs5])) fun F15 => ?_
          refine snp F15 rfl (by omega) (want_not F15 rfl (e := 92) rfl (by omega) (show _ = undef from by simp [upd, hs21, hs20, hs4, hs5])) fun F16 => ?_
          refine snp F16 rfl (by omega) (want_not F16 rfl (e := 92) rfl (by omega) (show _ = undef from by simp [upd, hs21, hs20, hs4, hs5])) fun F17 => ?_
          refine snp F17 rfl (by omega) (want_not F17 rfl (e := 97) rfl (by omega) (show _ = undef from by simp [upd, hs21, hs20, hs4, hs5])) fun F18 => ?_
          refine snp F18 rfl (by omega) (want_not F18 rfl (e := 97) rfl (by omega) (show _ = undef from by simp [upd, hs21, hs20, hs4, hs5])) fun F19 => ?_
          refine snp F19 rfl (by omega) (want_not F19 rfl (e := 97) rfl (by omega) (show _ = undef from by simp [upd, hs21, hs20, hs4, hs5])) fun F20 => ?_
          refine snp F20 rfl (by omega) (want_not F20 rfl (e := 97) rfl (by omega) (show _ = undef from by simp [upd, hs21, hs20, hs4, hs5])) fun F21 => ?_
          refine snp F21 rfl (by omega) (want_not F21 rfl (e := 92) rfl (by omega) (show _ = undef from by simp [upd, hs21, hs20, hs4, hs5])) fun F22 => ?_
          refine snp F22 rfl (by omega) (want_no F22 rfl (e := 83) rfl (by omega) (show _ = Value.bool true from by simp [upd, hs21, hs20, hs4, hs5]) (by decide)) fun F23 => ?_
          refine syp F23 rfl (by omega) (wanted_none rfl) (v := Value.bool true) (by simp only [execOp, (F23.eval 83 (by omega)).trans (show _ = Value.bool true from by simp [upd, hs21, hs20, hs4, hs5])]; simp [go_sem, Act.eval]) fun F24 => ?_
          refine ⟨?_⟩
          clear F0 F1 F2 F3 F4 F5 F6 F7 F8 F9 F10 F11 F12 F13 F14 F15 F16 F17 F18 F19 F20 F21 F22 F23 F24 hs21 hs20 hs4 hs5 
          simp only [Act.put, List.setIfInBounds_toArray, List.set_cons_succ, List.set_cons_zero]
          go_wp2_with fail
          go_roundw
          case rel => exact ⟨k + 1, by omega, by omega, by go_num, HIX.out.mono⟩
          case measure => simp [intOf]; omega
        · have hwb : (o.who == 1) = false := by simpa using hw1
          clear hw1
          go_upto_region 20 with fail
          refine wp_region_lit ?_
          refine withFrS (N := 113) rfl ?_
          intro f0 F0 hff
          have hs21 : f0 21 = Value.pointer none := hff 21
          have hs20 : f0 20 = Value.pointer (some ⟨ob, 0, none⟩) := hff 20
          have hs4 : f0 4 = Value.int .i64 lo := hff 4
          have hs5 : f0 5 = Value.int .i64 hi := hff 5
          clear hff
          refine syp F0 rfl (by omega) (wanted_none rfl) (v := Value.pointer none) (by simp only [execOp, (F0.eval 21 (by omega)).trans (show _ = Value.pointer none from by simp [upd, hs21, hs20, hs4, hs5])]; first | rfl | simp [go_sem]) fun F1 => ?_
          refine syp F1 rfl (by omega) (wanted_none rfl) (v := Value.bool true) (by simp only [execOp, (F1.eval 81 (by omega)).trans (show _ = Value.pointer none from by simp [upd, hs21, hs20, hs4, hs5])]; simp [go_sem, Act.eval]) fun F2 => ?_
          refine syp F2 rfl (by omega) (wanted_none rfl) (v := Value.bool true) (by simp only [execOp, (F2.eval 82 (by omega)).trans (show _ = Value.bool true from by simp [upd, hs21, hs20, hs4, hs5])]; first | rfl | simp [go_sem]) fun F3 => ?_
          refine snp F3 rfl (by omega) (want_no F3 rfl (e := 83) rfl (by omega) (show _ = Value.bool true from by simp [upd, hs21, hs20, hs4, hs5]) (by decide)) fun F4 => ?_
          refine snp F4 rfl (by omega) (want_no F4 rfl (e := 83) rfl (by omega) (show _ = Value.bool true from by simp [upd, hs21, hs20, hs4, hs5]) (by decide)) fun F5 => ?_
          refine snp F5 rfl (by omega) (want_no F5 rfl (e := 83) rfl (by omega) (show _ = Value.bool true from by simp [upd, hs21, hs20, hs4, hs5]) (by decide)) fun F6 => ?_
          refine snp F6 rfl (by omega) (want_no F6 rfl (e := 83) rfl (by omega) (show _ = Value.bool true from by simp [upd, hs21, hs20, hs4, hs5]) (by decide)) fun F7 => ?_
          refine snp F7 rfl (by omega) (want_not F7 rfl (e := 87) rfl (by omega) (show _ = undef from by simp [upd, hs21, hs20, hs4, hs5])) fun F8 => ?_
          refine snp F8 rfl (by omega) (want_not F8 rfl (e := 87) rfl (by omega) (show _ = undef from by simp [upd, hs21, hs20, hs4, hs5])) fun F9 => ?_
          refine snp F9 rfl (by omega) (want_not F9 rfl (e := 87) rfl (by omega) (show _ = undef from by simp [upd, hs21, hs20, hs4, hs5])) fun F10 => ?_
          refine snp F10 rfl (by omega) (want_no F10 rfl (e := 83) rfl (by omega) (show _ = Value.bool true from by simp [upd, hs21, hs20, hs4, hs5]) (by decide)) fun F11 => ?_
          refine snp F11 rfl (by omega) (want_no F11 rfl (e := 83) rfl (by omega) (show _ = Value.bool true from by simp [upd, hs21, hs20, hs4, hs5]) (by decide)) fun F12 => ?_
          refine snp F12 rfl (by omega) (want_not F12 rfl (e := 92) rfl (by omega) (show _ = undef from by simp [upd, hs21, hs20, hs4, hs5])) fun F13 => ?_
          refine snp F13 rfl (by omega) (want_not F13 rfl (e := 92) rfl (by omega) (show _ = undef from by simp [upd, hs21, hs20, hs4, hs5])) fun F14 => ?_
          refine snp F14 rfl (by omega) (want_not F14 rfl (e := 92) rfl (by omega) (show _ = undef from by simp [upd, hs21, hs20, hs4, hs5])) fun F15 => ?_
          refine snp F15 rfl (by omega) (want_not F15 rfl (e := 92) rfl (by omega) (show _ = undef from by simp [upd, hs21, hs20, hs4, hs5])) fun F16 => ?_
          refine snp F16 rfl (by omega) (want_not F16 rfl (e := 92) rfl (by omega) (show _ = undef from by simp [upd, hs21, hs20, hs4, hs5])) fun F17 => ?_
          refine snp F17 rfl (by omega) (want_not F17 rfl (e := 97) rfl (by omega) (show _ = undef from by simp [upd, hs21, hs20, hs4, hs5])) fun F18 => ?_
          refine snp F18 rfl (by omega) (want_not F18 rfl (e := 97) rfl (by omega) (show _ = undef from by simp [upd, hs21, hs20, hs4, hs5])) fun F19 => ?_
          refine snp F19 rfl (by omega) (want_not F19 rfl (e := 97) rfl (by omega) (show _ = undef from by simp [upd, hs21, hs20, hs4, hs5])) fun F20 => ?_
          refine snp F20 rfl (by omega) (want_not F20 rfl (e := 97) rfl (by omega) (show _ = undef from by simp [upd, hs21, hs20, hs4, hs5])) fun F21 => ?_
          refine snp F21 rfl (by omega) (want_not F21 rfl (e := 92) rfl (by omega) (show _ = undef from by simp [upd, hs21, hs20, hs4, hs5])) fun F22 => ?_
          refine snp F22 rfl (by omega) (want_no F22 rfl (e := 83) rfl (by omega) (show _ = Value.bool true from by simp [upd, hs21, hs20, hs4, hs5]) (by decide)) fun F23 => ?_
          refine syp F23 rfl (by omega) (wanted_none rfl) (v := Value.bool true) (by simp only [execOp, (F23.eval 83 (by omega)).trans (show _ = Value.bool true from by simp [upd, hs21, hs20, hs4, hs5])]; simp [go_sem, Act.eval]) fun F24 => ?_
          refine ⟨?_⟩
          clear F0 F1 F2 F3 F4 F5 F6 F7 F8 F9 F10 F11 F12 F13 F14 F15 F16 F17 F18 F19 F20 F21 F22 F23 F24 hs21 hs20 hs4 hs5 
          simp only [Act.put, List.setIfInBounds_toArray, List.set_cons_succ, List.set_cons_zero]
          go_wp2_with fail
          go_roundw
          case rel => exact ⟨k + 1, by omega, by omega, by go_num, HIX.out.mono⟩
          case measure => simp [intOf]; omega
      · have HAP : Hid _ := HI.out.apart (by omega)
        go_wp2_with fail
        refine Calls.mono HAP.out ?_
        rintro e9 w9 ⟨rfl, hw9⟩
        have HB9 : Hid (Below w.heap.size w w9) := hw9
        clear hw9 HAP
        go_wp2_with fail
        go_ret
        exact ⟨rfl, HB9.out⟩
    · have HAP : Hid _ := HI.out.apart (by omega)
      go_wp2_with fail
      refine Calls.mono HAP.out ?_
      rintro e9 w9 ⟨rfl, hw9⟩
      have HB9 : Hid (Below w.heap.size w w9) := hw9
      clear hw9 HAP
      go_wp2_with fail
      go_ret
      exact ⟨rfl, HB9.out⟩
end Go.Proofs.Ytdblbjcdnkiepaa
