import Derived.Test.YtifgmefdlmjocaaLt4
import Derived.Test.YtifgmefdlmjocaaSt
import Derived.Deep.CutBlock
import Derived.Deep.CutRange
namespace Go.Proofs.Ytifgmefdlmjocaa
open Go.RowKit Go.PlainAid
set_option linter.unusedVariables false
set_option linter.unusedSimpArgs false
/-- .. and behind the first digest: it lies there still, and for each old view there is one of the same name that is no older. -/
def LRel2 (L tb vr vc h0 m0 h1 m1 n : Nat) (W : World) (Lo : List Ent) (q B : Nat) (vo : Value) (dso : List Ent) (k : Nat) (wr : World) : Prop := ∃ L0 hv Hs, TK L tb vr vc h0 m0 h1 m1 n L0 [] hv Hs wr ∧ LI (q + k) L0 ∧ (∀ j, j < 4 → (Hs j).length ≤ q + k) ∧ Below W.heap.size W wr ∧ (∀ e ∈ Lo, ∃ e' ∈ L0, e'.n = e.n ∧ e.v ≤ e'.v) ∧ wr.ownsRow B 46 7 vo dso.length (flatV dso) ∧ ∀ k, k < 4 → ∀ b, (hv k).ownBlock = some b → vo.ownBlock ≠ some b
theorem row_ta {L tb vr vc h0 m0 h1 m1 n B : Nat} {L0 L1 ds : List Ent} {hv : Nat → Value} {Hs : Nat → List Ent} {w w' : World} {vo : Value} (h : TK L tb vr vc h0 m0 h1 m1 n L0 L1 hv Hs w) (hc : Chg (TA tb m0 hv) w w') (ho : w.ownsRow B 46 7 vo ds.length (flatV ds)) (ha : ∀ k, k < 4 → ∀ b, (hv k).ownBlock = some b → vo.ownBlock ≠ some b) : w'.ownsRow B 46 7 vo ds.length (flatV ds) :=
  ownsRow_same ho (fun g e => hc.block g (ownsRow_lt ho e).2 (fun hta => by
    obtain ⟨cu, hcu⟩ := ownsRow_type ho e
    rcases hta with rfl | rfl | ⟨k, hk, e2⟩
    · obtain ⟨C, hb, _⟩ := h.tk
      exact Blk.ne_t hb (show Blk w g cu 46 from hcu) (by decide) rfl
    · exact h.v0.map.ne_b (show Blk w g cu 46 from hcu) rfl
    · exact ha k hk g e2 e))
theorem step_rel {L tb vr vc h0 m0 h1 m1 n q : Nat} {L0 : List Ent} {hv : Nat → Value} {Hs : Nat → List Ent} {W wr : World} (s : SayA) (hT : TK L tb vr vc h0 m0 h1 m1 n L0 [] hv Hs wr) (hLI : LI q L0) (hHs : ∀ j, j < 4 → (Hs j).length ≤ q) (hbel : Below W.heap.size W wr) (hLW : W.heap.size ≤ L) (hn : 2 ≤ n ∧ n ≤ 8) (hq : q ≤ 1000) (rg : i64 s.nm ∧ i64 s.d ∧ i64 s.u ∧ i64 s.h) :
    Calls Try.prog 12 #[.pointer (some ⟨tb, 0, none⟩), .agg #[.int .i64 0, .int .i64 0, .int .i64 s.a, .int .i64 s.nm, .int .i64 s.d, .int .i64 s.u, .int .i64 s.h]] (wr.alloc (.cells #[.int .i64 0, .int .i64 0, .int .i64 s.a, .int .i64 s.nm, .int .i64 s.d, .int .i64 s.u, .int .i64 s.h] 29)) fun e w' => e = .returned (.bool true) ∧ Chg (TA tb m0 hv) wr w' ∧ Below W.heap.size W w' ∧ ∃ L0' hv' Hs', TK L tb vr vc h0 m0 h1 m1 n L0' [] hv' Hs' w' ∧ LI (q + 1) L0' ∧ (∀ j, j < 4 → (Hs' j).length ≤ q + 1) ∧ (∀ e ∈ L0, ∃ e' ∈ L0', e'.n = e.n ∧ e.v ≤ e'.v) ∧ ∀ k, k < 4 → ∀ b, (hv' k).ownBlock = some b → (hv k).ownBlock = some b ∨ wr.heap.size ≤ b := by
  have hg : Below wr.heap.size wr (wr.alloc (.cells #[.int .i64 0, .int .i64 0, .int .i64 s.a, .int .i64 s.nm, .int .i64 s.d, .int .i64 s.u, .int .i64 s.h] 29)) := (Below.refl _ _).alloc (Nat.le_refl _) _
  have hj := wx_in s.nm 4 (by decide)
  have hj4 : (wx s.nm 4).toNat < 4 := by omega
  have a1 := wx_in s.d 31 (by decide)
  have a2 := wx_in s.u 31 (by decide)
  have a3 := wx_in s.h 31 (by decide)
  have hT2 := hT.more hg
  refine (step0_any s.a s.nm s.d s.u s.h _ hT2 hn (by have := hLI.len; omega) (fun e he => by have := hLI.v e he; omega) (fun k hk => by have := hHs k hk; omega) rg (hLI.code hj4 a1 a2 a3)).mono ?_
  rintro e w' ⟨rfl, hc, hv', Hs', hT', hl', ha'⟩
  obtain ⟨n1, n2⟩ := hLI.next hj4 a1 a2 a3
  refine ⟨rfl, (Chg.ofBelow (TA tb m0 hv) hg).trans hc (fun _ _ e => e), (hbel.trans (hg.mono hbel.size)).trans ((hT2.ta hc).mono hLW), _, hv', Hs', hT', n1, fun j hj => by have := hl' j hj; have := hHs j hj; omega, n2, fun k hk b e => ?_⟩
  rcases ha' k hk b e with h | h
  · exact Or.inl h
  · exact Or.inr (by rw [World.size_alloc] at h; omega)
set_option maxRecDepth 100000 in
set_option maxHeartbeats 3200000 in
theorem viewsLate_law (z : Int) (hz : i64 z) (ao1 ao2 : Option Addr) (N1 N2 cap1 cap2 : Nat) (ss1 ss2 : List SayA) (W : World) (hl1 : ss1.length = N1) (hl2 : ss2.length = N2) (hm1 : N1 ≤ maxLen) (hm2 : N2 ≤ maxLen)
    (hat1 : 0 < N1 → ∃ b off, ao1 = some ⟨b, off, none⟩ ∧ ∀ (i : Nat) (s : SayA), ss1[i]? = some s → SayAt W b (off + i * 7) s) (hat2 : 0 < N2 → ∃ b off, ao2 = some ⟨b, off, none⟩ ∧ ∀ (i : Nat) (s : SayA), ss2[i]? = some s → SayAt W b (off + i * 7) s) :
    Calls Try.prog 4 #[.int .i64 z, .slice ao1 N1 cap1, .slice ao2 N2 cap2] W fun e w' => e = .returned (.bool true) ∧ Below W.heap.size W w' := by
  have HAL : Hid _ := alive_any W
  have i1 := wx_in z 7 (by decide)
  obtain ⟨n, hn⟩ : ∃ n : Nat, 2 + wx z 7 = n := ⟨(2 + wx z 7).toNat, by omega⟩
  have HW : Hid (∀ w, Calls Try.prog 10 #[.int .i64 z, .int .i64 2, .int .i64 8] w fun e w' => e = .returned (.int .i64 (n : Int)) ∧ w' = w) := fun w => by
    have := within_any z 2 8 w hz.1 hz.2 (by decide) (by decide) (by decide)
    rw [show (2 : Int) + wx z (8 - 2 + 1) = n from hn] at this
    exact this
  have hn2 : 2 ≤ n ∧ n ≤ 8 := by omega
  have hx1 : N1 ≤ 9223372036854775807 := by unfold maxLen at hm1; omega
  have hx2 : N2 ≤ 9223372036854775807 := by unfold maxLen at hm2; omega
  have HBG : Hid (∀ w, _) := fun w => begun_any n w hn2
  have HL1 : Hid _ := hl1
  have HL2 : Hid _ := hl2
  have HA1 : Hid _ := hat1
  have HA2 : Hid _ := hat2
  have HN : Hid _ := hn2
  clear hn i1 hn2 hl1 hl2 hat1 hat2 hm1 hm2 hz
  go_enter Try.func4, Try.ntmps4
  go_wp2_with fail
  refine Calls.mono HAL.out ?_
  rintro e w1 ⟨rfl, hb1⟩
  have HB1 : Hid _ := hb1
  clear hb1 HAL
  go_wp2_with fail
  refine Calls.mono (HW.out _) ?_
  rintro e w' ⟨rfl, hw'⟩
  replace hw' := hw'.symm
  subst hw'
  go_wp2_with fail
  refine Calls.mono (HBG.out _) ?_
  rintro e w2 ⟨tb, ps, rfl, htb, hBG⟩
  obtain ⟨vr, vc, h0, m0, h1, m1, hTK⟩ := bg_tk hBG HN.out.1 htb
  have HR0 : Hid (LRel w1.heap.size tb vr vc h0 m0 h1 m1 n W 0 w2) := ⟨[], _, _, hTK, ⟨(fun e h => by cases h), (fun e h => by cases h), (fun e h => by cases h), (fun e h => by cases h), List.Pairwise.nil⟩, fun j hj => Nat.le_refl _, HB1.out.trans (hBG.bel.mono HB1.out.size)⟩
  obtain ⟨L, hLe⟩ : ∃ L, L = w1.heap.size := ⟨_, rfl⟩
  rw [← hLe] at HR0
  have HLW : Hid (W.heap.size ≤ L) := show W.heap.size ≤ L from by rw [hLe]; exact HB1.out.size
  clear hTK hBG htb hLe HB1 HBG HW
  go_upto_block 0 with fail
  go_cut [10, 11] from 36 to 55 (fun _ _ wc => ∃ q : Nat, q ≤ 200 ∧ LRel L tb vr vc h0 m0 h1 m1 n W q wc)
  case first =>
    go_wp2_with fail
    go_loopw [10, 11] (fun i _ wr => ∃ q : Nat, q ≤ 200 ∧ i = .int .i64 q ∧ LRel L tb vr vc h0 m0 h1 m1 n W q wr) (fun i _ _ => 200 - (intOf i).toNat)
    case atStart => exact ⟨0, by decide, rfl, HR0.out⟩
    case round =>
      obtain ⟨q, hq, rfl, hR⟩ := hrel
      by_cases hlt : q < N1
      · by_cases h200 : q < 200
        · obtain ⟨s, hs⟩ : ∃ s, ss1[q]? = some s := ⟨ss1[q]'(by rw [HL1.out]; exact hlt), List.getElem?_eq_getElem _⟩
          obtain ⟨b, off, rfl, hc⟩ := HA1.out (by omega)
          obtain ⟨L0, hv, Hs, hT, hLI, hHs, hbel⟩ := hR
          have hb := World.block_lt_of_cell? W _ (hc q s hs).c0
          obtain ⟨d0, d1, d2, d3, d4, d5, d6, rg⟩ := (hc q s hs).keep (hbel.block b hb)
          have HST : Hid _ := step_rel s hT hLI hHs hbel HLW.out HN.out (by omega) rg
          clear hT hLI hHs hbel rg hs hc hb HR0
          go_wp2_with fail
          refine Calls.mono HST.out ?_
          rintro e w5 ⟨rfl, _, hb5, L0', hv', Hs', hT', hLI', hHs', _, _⟩
          have HN5 : Hid (LRel L tb vr vc h0 m0 h1 m1 n W (q + 1) w5) := ⟨L0', hv', Hs', hT', hLI', hHs', hb5⟩
          clear hb5 hT' hLI' hHs' HST
          go_wp2_with fail
          go_roundw
          case rel => exact ⟨q + 1, by omega, by go_num, HN5.out⟩
          case measure => simp [intOf]; omega
        · have HR : Hid _ := hR
          clear hR
          go_wp2_with fail
          go_meet
          case rel => exact ⟨q, hq, HR.out⟩
      · have HR : Hid _ := hR
        clear hR
        go_wp2_with fail
        go_meet
        case rel => exact ⟨q, hq, HR.out⟩
  case rest =>
    obtain ⟨q, hq, L0, hv, Hs, hT, hLI, hHs, hbel⟩ := hcut
    obtain ⟨t0, p0, _, _⟩ := hT.cell0
    have hn0 : 0 < n := by have := HN.out; omega
    have HDG : Hid _ := digest_any wc hT.v0 (by have := hLI.len; omega)
    have HT : Hid _ := hT
    have HLI : Hid _ := hLI
    have HHS : Hid _ := hHs
    have HBE : Hid _ := hbel
    unfold Ptr at p0
    clear hT hLI hHs hbel HR0
    go_wp2_with fail
    refine Calls.mono HDG.out ?_
    rintro e wd ⟨vo, dso, rfl, htold, howd, hbd⟩
    have HDO : Hid (Dg0 q L0 dso) := told_dg HLI.out htold
    obtain ⟨aoo, capo, hvo, hno, hco, hfo, hgo⟩ := own_fromV howd
    have HR2 : Hid (LRel2 L tb vr vc h0 m0 h1 m1 n W L0 q wc.heap.size vo dso 0 wd) := ⟨L0, hv, Hs, HT.out.more hbd, HLI.out, HHS.out, HBE.out.trans (hbd.mono HBE.out.size), fun e he => ⟨e, he, rfl, Int.le_refl _⟩, howd, fun k hk b e1 e2 => by
      have := (ownsRow_lt (HT.out.rows k hk) e1).2
      have := (ownsRow_lt howd e2).1
      omega⟩
    subst hvo
    clear hno hco hfo hgo htold howd hbd HDG HT HLI HHS HBE t0 p0
    generalize wc.heap.size = B at *
    go_upto_block 2 with fail
    go_cut [13, 14] from 63 to 82 (fun _ _ we => ∃ k : Nat, k ≤ 200 ∧ LRel2 L tb vr vc h0 m0 h1 m1 n W L0 q B (.slice aoo dso.length capo) dso k we)
    case first =>
      go_wp2_with fail
      go_loopw [13, 14] (fun i _ wr => ∃ k : Nat, k ≤ 200 ∧ i = .int .i64 k ∧ LRel2 L tb vr vc h0 m0 h1 m1 n W L0 q B (.slice aoo dso.length capo) dso k wr) (fun i _ _ => 200 - (intOf i).toNat)
      case atStart => exact ⟨0, by decide, rfl, HR2.out⟩
      case round =>
        obtain ⟨k, hk, rfl, hR⟩ := hrel
        by_cases hlt : k < N2
        · by_cases h200 : k < 200
          · obtain ⟨s, hs⟩ : ∃ s, ss2[k]? = some s := ⟨ss2[k]'(by rw [HL2.out]; exact hlt), List.getElem?_eq_getElem _⟩
            obtain ⟨b, off, rfl, hc⟩ := HA2.out (by omega)
            obtain ⟨L1, hv1, Hs1, hT, hLI, hHs, hbel, hmon, hrow, hap⟩ := hR
            have hb := World.block_lt_of_cell? W _ (hc k s hs).c0
            obtain ⟨d0, d1, d2, d3, d4, d5, d6, rg⟩ := (hc k s hs).keep (hbel.block b hb)
            have HST : Hid _ := step_rel s hT hLI hHs hbel HLW.out HN.out (by omega) rg
            have HT1 : Hid _ := hT
            have HMON : Hid _ := hmon
            have HROW : Hid _ := hrow
            have HAP : Hid _ := hap
            clear hT hLI hHs hbel rg hs hc hb HR2 hmon hrow hap
            go_wp2_with fail
            refine Calls.mono HST.out ?_
            rintro e w5 ⟨rfl, hch5, hb5, L2, hv2, Hs2, hT2, hLI2, hHs2, hmon2, hat2⟩
            have HN5 : Hid (LRel2 L tb vr vc h0 m0 h1 m1 n W L0 q B (.slice aoo dso.length capo) dso (k + 1) w5) := ⟨L2, hv2, Hs2, hT2, hLI2, hHs2, hb5, fun e he => by
                obtain ⟨e1, g1, g2, g3⟩ := HMON.out e he
                obtain ⟨e2, g4, g5, g6⟩ := hmon2 e1 g1
                exact ⟨e2, g4, g5.trans g2, Int.le_trans g3 g6⟩, row_ta HT1.out hch5 HROW.out HAP.out, fun j hj b e1 e2 => by
                rcases hat2 j hj b e1 with h | h
                · exact HAP.out j hj b h e2
                · have := (ownsRow_lt HROW.out e2).2
                  omega⟩
            clear hch5 hb5 hT2 hLI2 hHs2 hmon2 hat2 HST HT1 HMON HROW HAP
            go_wp2_with fail
            go_roundw
            case rel => exact ⟨k + 1, by omega, by go_num, HN5.out⟩
            case measure => simp [intOf]; omega
          · have HR : Hid _ := hR
            clear hR
            go_wp2_with fail
            go_meet
            case rel => exact ⟨k, hk, HR.out⟩
        · have HR : Hid _ := hR
          clear hR
          go_wp2_with fail
          go_meet
          case rel => exact ⟨k, hk, HR.out⟩
    case rest =>
      obtain ⟨k, hk, L1, hv1, Hs1, hT, hLI, hHs, hbel, hmon, hrow, hap⟩ := hcut
      obtain ⟨t0, p0, p1, px⟩ := hT.cell0
      have hn0 : 0 < n := by have := HN.out; omega
      have hn1 : 1 < n := by have := HN.out; omega
      have HDG : Hid _ := digest_any wc hT.v0 (by have := hLI.len; omega)
      have HT : Hid _ := hT
      have HLI : Hid _ := hLI
      have HBE : Hid _ := hbel
      have HMON : Hid _ := hmon
      have HROW : Hid _ := hrow
      unfold Ptr at p0 p1
      clear hT hLI hHs hbel hmon hrow hap px HR2 hq
      go_wp2_with fail
      refine Calls.mono HDG.out ?_
      rintro e wl ⟨vl, dl, rfl, htold, hol, hbl⟩
      have HDL : Hid (Dg0 (q + k) L1 dl) := told_dg HLI.out htold
      have HC0 : Hid _ := take_first (n := n) HN.out.1 HDL.out
      have HC1 : Hid _ := take_again (n := n) HN.out.1 HDL.out HDL.out (fun e he => ⟨e, he, rfl, Int.le_refl _⟩)
      have HC2 : Hid _ := take_again (n := n) HN.out.1 HDL.out HDO.out HMON.out
      have HTA : Hid _ := take_call (HT.out.more hbl) (Nat.zero_le _) hol HDL.out HC0.out.1 HC0.out.2
      have HTM : Hid _ := HT.out.more hbl
      have HRO : Hid _ := row_more hbl HROW.out
      have HRL : Hid _ := hol
      have HBW : Hid (Below W.heap.size W wl) := HBE.out.trans (hbl.mono HBE.out.size)
      have t0l := (hbl.cell (p := ⟨tb, 0, none⟩) (World.block_lt_of_cell? wc _ t0)).trans t0
      have p1l := (hbl.cell (p := ⟨vr, 1, none⟩) (World.block_lt_of_cell? wc _ p1)).trans p1
      obtain ⟨aol, capl, hvl, hvl9⟩ := own_slice hol
      subst hvl
      clear hvl9 htold hol hbl HDG HT HLI HBE HMON HROW t0 p0 p1
      go_wp2_with fail
      refine Calls.mono HTA.out ?_
      rintro e wt ⟨rfl, hTt, hct⟩
      have HR3 : Hid (LRel3 L tb vr vc h0 m0 h1 m1 n W (.slice aoo dso.length capo) (.slice aol dl.length capl) dso dl wt) := ⟨L1, hv1, Hs1, hTt, HBW.out.trans ((hct.below HTM.out.low (fun k e => by rw [e]; exact HTM.out.lo.2.2)).mono HLW.out), ownsRow_mono (row_map HTM.out.v1.map hct HRO.out) (Nat.zero_le _), ownsRow_mono (row_map HTM.out.v1.map hct HRL.out) (Nat.zero_le _)⟩
      clear hTt hct HTA HTM HRO HRL HBW t0l p1l
      go_wp2_with fail
      go_loopw [18] (fun i wr => ∃ j : Nat, j ≤ 4 ∧ i = .int .i64 j ∧ LRel3 L tb vr vc h0 m0 h1 m1 n W (.slice aoo dso.length capo) (.slice aol dl.length capl) dso dl wr) (fun i _ => 4 - (intOf i).toNat)
      case atStart => exact ⟨0, by decide, rfl, HR3.out⟩
      case round =>
        obtain ⟨j, hj, rfl, hR⟩ := hrel
        clear HR3 HC0
        by_cases h4 : j < 4
        · have h5 : j = 0 ∨ j = 1 ∨ j = 2 ∨ j = 3 := by omega
          rcases h5 with rfl | rfl | rfl | rfl
          · obtain ⟨Lx, hvx, Hsx, hTx, hbx, r1, r2⟩ := hR
            obtain ⟨t0j, _, p1j, _⟩ := hTx.cell0
            unfold Ptr at p1j
            have HTK : Hid _ := take_rel (show LRel3 L tb vr vc h0 m0 h1 m1 n W (.slice aoo dso.length capo) (.slice aol dl.length capl) dso dl wr from ⟨Lx, hvx, Hsx, hTx, hbx, r1, r2⟩) HLW.out HDL.out.len r2 HDL.out HC1.out.1 HC1.out.2
            clear hTx hbx r1 r2
            go_wp2_with fail
            refine Calls.mono HTK.out ?_
            rintro e w6 ⟨rfl, hR6⟩
            have HR6 : Hid _ := hR6
            clear hR6 HTK t0j p1j
            go_wp2_with fail
            go_loopw [22] (fun i wr => ∃ m : Nat, m ≤ dl.length ∧ i = .int .i64 m ∧ LRel3 L tb vr vc h0 m0 h1 m1 n W (.slice aoo dso.length capo) (.slice aol dl.length capl) dso dl wr) (fun i _ => dl.length - (intOf i).toNat)
            case atStart => exact ⟨0, Nat.zero_le _, rfl, HR6.out⟩
            case round =>
              obtain ⟨m, hm, rfl, hRi⟩ := hrel
              clear HR6
              by_cases hml : m < dl.length
              · have HML : Hid (m < dl.length) := hml
                have hd4 : dl.length ≤ 4 := HDL.out.len
                have hwm : IntKind.i64.wrap ((m : Int) + 1) = (m : Int) + 1 := by rw [IntKind.wrap_i64]; omega
                obtain ⟨x, hx⟩ : ∃ x, dl[m]? = some x := ⟨dl[m], List.getElem?_eq_getElem hml⟩
                obtain ⟨Ly, hvy, Hsy, hTy, hby, y1, y2⟩ := hRi
                obtain ⟨XT, _, XV, _⟩ := hTy.cell0
                unfold Ptr at XV
                obtain ⟨ao2, cap2, hv2, _, _, hfv, hat⟩ := own_fromV y2
                obtain ⟨g, hg, _, _⟩ := hat (by omega)
                cases hv2
                subst hg
                obtain ⟨b2, off2, hbo, hcv⟩ := hfv (by omega)
                cases hbo
                have hvat := hcv _ _ hx
                have XN := hvat.c0
                have XD := hvat.c4
                simp only [Nat.zero_add] at XN XD
                have hRi : LRel3 L tb vr vc h0 m0 h1 m1 n W (.slice aoo dso.length capo) (.slice (some ⟨g, 0, none⟩) dl.length capl) dso dl wr := ⟨Ly, hvy, Hsy, hTy, hby, y1, y2⟩
                have HABT : Hid (∀ w', LRel3 L tb vr vc h0 m0 h1 m1 n W (.slice aoo dso.length capo) (.slice (some ⟨g, 0, none⟩) dl.length capl) dso dl w' → Calls Try.prog 15 #[.pointer (some ⟨h1, 0, none⟩), .string ⟨x.n.toArray⟩] w' fun r w'' => r = .returned (.tuple #[.int .i64 x.d, .bool true]) ∧ Below w'.heap.size w' w'') := fun w' h => about_rel h HN.out HDL.out (List.mem_of_getElem? hx)
                clear hTy hby y1 y2 hfv hat hcv hvat hx
                go_wp2_with fail
                rename_i K hK
                try rw [show ∀ a : Act, a.put none undef = a from fun _ => rfl]
                refine wp_region_mix (fun wq => wq.cell? ⟨tb, 0, none⟩ = some (.slice (some ⟨vr, 0, none⟩) n vc) ∧ wq.cell? ⟨vr, 1, none⟩ = some (.pointer (some ⟨h1, 0, none⟩)) ∧ wq.cell? ⟨g, m * 7, none⟩ = some (.string ⟨x.n.toArray⟩)) (fun i => i == 11 || i == 99) 99 (by kernel_rfl) rfl (by kernel_rfl) (by kernel_rfl) (by kernel_rfl) ?_
                refine withFrP (N := 168) rfl ?_
                intro f0 F0 hff
                have e9 : f0 9 = Value.pointer (some ⟨tb, 0, none⟩) := hff 9
                have e15 : f0 15 = Value.slice (some ⟨g, 0, none⟩) dl.length capl := hff 15
                have e22 : f0 22 = Value.int .i64 (m : Int) := hff 22
                clear hff
                have HCC : (fun wq => wq.cell? ⟨tb, 0, none⟩ = some (.slice (some ⟨vr, 0, none⟩) n vc) ∧ wq.cell? ⟨vr, 1, none⟩ = some (.pointer (some ⟨h1, 0, none⟩)) ∧ wq.cell? ⟨g, m * 7, none⟩ = some (.string ⟨x.n.toArray⟩)) (({ wr with drawn := wr.drawn + 1 } : World)) := ⟨XT, XV, XN⟩
                refine lyp F0 rfl HCC rfl (by omega) (wanted_none rfl) (v := Value.pointer (some ⟨tb, 0, none⟩)) (fun wr hwr => by simp only [execOp, (F0.eval 9 (by omega)).trans (show _ = Value.pointer (some ⟨tb, 0, none⟩) from by simp [upd, e9, e15, e22])]; first | rfl | simp [go_sem]) fun F1 => ?_
                refine lyp F1 rfl HCC rfl (by omega) (wanted_none rfl) (v := Value.pointer (some ⟨tb, 0, none⟩)) (fun wr hwr => by simp only [execOp, (F1.eval 142 (by omega)).trans (show _ = Value.pointer (some ⟨tb, 0, none⟩) from by simp [upd, e9, e15, e22])]; simp [go_sem]) fun F2 => ?_
                refine lyp F2 rfl HCC rfl (by omega) (wanted_none rfl) (v := Value.pointer (some ⟨tb, 0, none⟩)) (fun wr hwr => by simp only [execOp, (F2.eval 143 (by omega)).trans (show _ = Value.pointer (some ⟨tb, 0, none⟩) from by simp [upd, e9, e15, e22])]; simp [go_sem]) fun F3 => ?_
                refine lyp F3 rfl HCC rfl (by omega) (wanted_none rfl) (v := Value.slice (some ⟨vr, 0, none⟩) n vc) (fun wr hwr => by simp only [execOp, (F3.eval 144 (by omega)).trans (show _ = Value.pointer (some ⟨tb, 0, none⟩) from by simp [upd, e9, e15, e22])]; simp [go_sem, hwr.1]) fun F4 => ?_
                refine lyp F4 rfl HCC rfl (by omega) (wanted_none rfl) (v := Value.pointer (some ⟨vr, 1, none⟩)) (fun wr hwr => by simp only [execOp, (F4.eval 145 (by omega)).trans (show _ = Value.slice (some ⟨vr, 0, none⟩) n vc from by simp [upd, e9, e15, e22])]; simp [go_sem, Act.eval, hn1, show ¬ (n : Int) ≤ 1 from by omega]) fun F5 => ?_
                refine lyp F5 rfl HCC rfl (by omega) (wanted_none rfl) (v := Value.pointer (some ⟨h1, 0, none⟩)) (fun wr hwr => by simp only [execOp, (F5.eval 146 (by omega)).trans (show _ = Value.pointer (some ⟨vr, 1, none⟩) from by simp [upd, e9, e15, e22])]; simp [go_sem, hwr.2.1]) fun F6 => ?_
                refine lyp F6 rfl HCC rfl (by omega) (wanted_none rfl) (v := Value.slice (some ⟨g, 0, none⟩) dl.length capl) (fun wr hwr => by simp only [execOp, (F6.eval 15 (by omega)).trans (show _ = Value.slice (some ⟨g, 0, none⟩) dl.length capl from by simp [upd, e9, e15, e22])]; first | rfl | simp [go_sem]) fun F7 => ?_
                refine lyp F7 rfl HCC rfl (by omega) (wanted_none rfl) (v := Value.int .i64 (m : Int)) (fun wr hwr => by simp only [execOp, (F7.eval 22 (by omega)).trans (show _ = Value.int .i64 (m : Int) from by simp [upd, e9, e15, e22])]; first | rfl | simp [go_sem]) fun F8 => ?_
                refine lyp F8 rfl HCC rfl (by omega) (wanted_none rfl) (v := Value.pointer (some ⟨g, m * 7, none⟩)) (fun wr hwr => by simp only [execOp, (F8.eval 148 (by omega)).trans (show _ = Value.slice (some ⟨g, 0, none⟩) dl.length capl from by simp [upd, e9, e15, e22]), (F8.eval 149 (by omega)).trans (show _ = Value.int .i64 (m : Int) from by simp [upd, e9, e15, e22])]; simp [go_sem, hml]) fun F9 => ?_
                refine lyp F9 rfl HCC rfl (by omega) (wanted_none rfl) (v := Value.pointer (some ⟨g, m * 7, none⟩)) (fun wr hwr => by simp only [execOp, (F9.eval 150 (by omega)).trans (show _ = Value.pointer (some ⟨g, m * 7, none⟩) from by simp [upd, e9, e15, e22])]; simp [go_sem]) fun F10 => ?_
                refine lyp F10 rfl HCC rfl (by omega) (wanted_none rfl) (v := Value.string ⟨x.n.toArray⟩) (fun wr hwr => by simp only [execOp, (F10.eval 151 (by omega)).trans (show _ = Value.pointer (some ⟨g, m * 7, none⟩) from by simp [upd, e9, e15, e22])]; simp [go_sem, hwr.2.2]) fun F11 => ?_
                refine lcp F11 rfl HCC rfl (by omega) (wanted_none rfl) (g := 15) (args := #[Value.pointer (some ⟨h1, 0, none⟩), Value.string ⟨x.n.toArray⟩]) (by simp only [execOp, resolve, invoke, List.map_toArray, List.map_cons, List.map_nil, (F11.eval 147 (by omega)).trans (show _ = Value.pointer (some ⟨h1, 0, none⟩) from by simp [upd, e9, e15, e22]), (F11.eval 152 (by omega)).trans (show _ = Value.string ⟨x.n.toArray⟩ from by simp [upd, e9, e15, e22])]; simp [go_sem, Act.eval]) (HABT.out (({ wr with drawn := wr.drawn + 1 } : World)) (LRel3.more hRi (Below.drew (Below.refl _ _)))) ?_
                rintro e w8 ⟨rfl, hb8⟩
                refine ⟨_, rfl, fun F12 => ?_⟩
                have HC8 : (fun wq => wq.cell? ⟨tb, 0, none⟩ = some (.slice (some ⟨vr, 0, none⟩) n vc) ∧ wq.cell? ⟨vr, 1, none⟩ = some (.pointer (some ⟨h1, 0, none⟩)) ∧ wq.cell? ⟨g, m * 7, none⟩ = some (.string ⟨x.n.toArray⟩)) w8 := ⟨(hb8.cell (p := ⟨tb, 0, none⟩) (World.block_lt_of_cell? wr _ XT)).trans XT, (hb8.cell (p := ⟨vr, 1, none⟩) (World.block_lt_of_cell? wr _ XV)).trans XV, (hb8.cell (p := ⟨g, m * 7, none⟩) (World.block_lt_of_cell? wr _ XN)).trans XN⟩
                refine lyp F12 rfl HC8 rfl (by omega) (wanted_none rfl) (v := Value.tuple #[.int .i64 x.d, .bool true]) (fun wr hwr => by simp only [execOp, (F12.eval 153 (by omega)).trans (show _ = Value.tuple #[.int .i64 x.d, .bool true] from by simp [upd, e9, e15, e22])]; first | rfl | simp [go_sem]) fun F13 => ?_
                refine lyp F13 rfl HC8 rfl (by omega) (wanted_none rfl) (v := Value.int .i64 x.d) (fun wr hwr => by simp only [execOp, (F13.eval 141 (by omega)).trans (show _ = Value.tuple #[.int .i64 x.d, .bool true] from by simp [upd, e9, e15, e22])]; simp [go_sem]) fun F14 => ?_
                refine lyp F14 rfl HC8 rfl (by omega) (wanted_none rfl) (v := Value.bool true) (fun wr hwr => by simp only [execOp, (F14.eval 141 (by omega)).trans (show _ = Value.tuple #[.int .i64 x.d, .bool true] from by simp [upd, e9, e15, e22])]; simp [go_sem]) fun F15 => ?_
                refine lyp F15 rfl HC8 rfl (by omega) (wanted_none rfl) (v := Value.int .i64 x.d) (fun wr hwr => by simp only [execOp, (F15.eval 154 (by omega)).trans (show _ = Value.int .i64 x.d from by simp [upd, e9, e15, e22])]; first | rfl | simp [go_sem]) fun F16 => ?_
                refine lyp F16 rfl HC8 rfl (by omega) (wanted_none rfl) (v := Value.bool true) (fun wr hwr => by simp only [execOp, (F16.eval 155 (by omega)).trans (show _ = Value.bool true from by simp [upd, e9, e15, e22])]; first | rfl | simp [go_sem]) fun F17 => ?_
                refine ⟨fun _ => HC8, ?_⟩
                refine hK _ _ ?_
                clear F0 F1 F2 F3 F4 F5 F6 F7 F8 F9 F10 F11 F12 F13 F14 F15 F16 F17 e9 e15 e22 HCC
                simp only [Act.put, List.setIfInBounds_toArray, List.set_cons_succ, List.set_cons_zero]
                have HRj : Hid (LRel3 L tb vr vc h0 m0 h1 m1 n W (.slice aoo dso.length capo) (.slice (some ⟨g, 0, none⟩) dl.length capl) dso dl w8) := LRel3.more (LRel3.more hRi (Below.drew (Below.refl _ _))) hb8
                have XD8 : w8.cell? ⟨g, m * 7 + 4, none⟩ = some (.int .i64 x.d) := (hb8.cell (p := ⟨g, m * 7 + 4, none⟩) (World.block_lt_of_cell? wr _ XD)).trans XD
                clear hRi hb8 XT XV XN XD HABT HC8
                go_wp2_with fail
                go_roundw
                case rel => exact ⟨m + 1, HML.out, by have := HDL.out.len; have := HML.out; go_num, HRj.out⟩
                case measure =>
                  have := HML.out
                  have := HDL.out.len
                  simp [intOf]
                  omega
              · have HRi : Hid _ := hRi
                clear hRi
                go_wp2_with fail
                go_roundw
                case rel => exact ⟨0 + 1, by decide, by go_num, HRi.out⟩
                case measure => first | (simp [intOf]; done) | (simp [intOf]; omega)
          · obtain ⟨Lx, hvx, Hsx, hTx, hbx, r1, r2⟩ := hR
            obtain ⟨t0j, _, p1j, _⟩ := hTx.cell0
            unfold Ptr at p1j
            have HTK : Hid _ := take_rel (show LRel3 L tb vr vc h0 m0 h1 m1 n W (.slice aoo dso.length capo) (.slice aol dl.length capl) dso dl wr from ⟨Lx, hvx, Hsx, hTx, hbx, r1, r2⟩) HLW.out HDL.out.len r1 HDO.out HC2.out.1 HC2.out.2
            clear hTx hbx r1 r2
            go_wp2_with fail
            refine Calls.mono HTK.out ?_
            rintro e w6 ⟨rfl, hR6⟩
            have HR6 : Hid _ := hR6
            clear hR6 HTK t0j p1j
            go_wp2_with fail
            go_loopw [22] (fun i wr => ∃ m : Nat, m ≤ dl.length ∧ i = .int .i64 m ∧ LRel3 L tb vr vc h0 m0 h1 m1 n W (.slice aoo dso.length capo) (.slice aol dl.length capl) dso dl wr) (fun i _ => dl.length - (intOf i).toNat)
            case atStart => exact ⟨0, Nat.zero_le _, rfl, HR6.out⟩
            case round =>
              obtain ⟨m, hm, rfl, hRi⟩ := hrel
              clear HR6
              by_cases hml : m < dl.length
              · have HML : Hid (m < dl.length) := hml
                have hd4 : dl.length ≤ 4 := HDL.out.len
                have hwm : IntKind.i64.wrap ((m : Int) + 1) = (m : Int) + 1 := by rw [IntKind.wrap_i64]; omega
                obtain ⟨x, hx⟩ : ∃ x, dl[m]? = some x := ⟨dl[m], List.getElem?_eq_getElem hml⟩
                obtain ⟨Ly, hvy, Hsy, hTy, hby, y1, y2⟩ := hRi
                obtain ⟨XT, _, XV, _⟩ := hTy.cell0
                unfold Ptr at XV
                obtain ⟨ao2, cap2, hv2, _, _, hfv, hat⟩ := own_fromV y2
                obtain ⟨g, hg, _, _⟩ := hat (by omega)
                cases hv2
                subst hg
                obtain ⟨b2, off2, hbo, hcv⟩ := hfv (by omega)
                cases hbo
                have hvat := hcv _ _ hx
                have XN := hvat.c0
                have XD := hvat.c4
                simp only [Nat.zero_add] at XN XD
                have hRi : LRel3 L tb vr vc h0 m0 h1 m1 n W (.slice aoo dso.length capo) (.slice (some ⟨g, 0, none⟩) dl.length capl) dso dl wr := ⟨Ly, hvy, Hsy, hTy, hby, y1, y2⟩
                have HABT : Hid (∀ w', LRel3 L tb vr vc h0 m0 h1 m1 n W (.slice aoo dso.length capo) (.slice (some ⟨g, 0, none⟩) dl.length capl) dso dl w' → Calls Try.prog 15 #[.pointer (some ⟨h1, 0, none⟩), .string ⟨x.n.toArray⟩] w' fun r w'' => r = .returned (.tuple #[.int .i64 x.d, .bool true]) ∧ Below w'.heap.size w' w'') := fun w' h => about_rel h HN.out HDL.out (List.mem_of_getElem? hx)
                clear hTy hby y1 y2 hfv hat hcv hvat hx
                go_wp2_with fail
                rename_i K hK
                try rw [show ∀ a : Act, a.put none undef = a from fun _ => rfl]
                refine wp_region_mix (fun wq => wq.cell? ⟨tb, 0, none⟩ = some (.slice (some ⟨vr, 0, none⟩) n vc) ∧ wq.cell? ⟨vr, 1, none⟩ = some (.pointer (some ⟨h1, 0, none⟩)) ∧ wq.cell? ⟨g, m * 7, none⟩ = some (.string ⟨x.n.toArray⟩)) (fun i => i == 11 || i == 99) 99 (by kernel_rfl) rfl (by kernel_rfl) (by kernel_rfl) (by kernel_rfl) ?_
                refine withFrP (N := 168) rfl ?_
                intro f0 F0 hff
                have e9 : f0 9 = Value.pointer (some ⟨tb, 0, none⟩) := hff 9
                have e15 : f0 15 = Value.slice (some ⟨g, 0, none⟩) dl.length capl := hff 15
                have e22 : f0 22 = Value.int .i64 (m : Int) := hff 22
                clear hff
                have HCC : (fun wq => wq.cell? ⟨tb, 0, none⟩ = some (.slice (some ⟨vr, 0, none⟩) n vc) ∧ wq.cell? ⟨vr, 1, none⟩ = some (.pointer (some ⟨h1, 0, none⟩)) ∧ wq.cell? ⟨g, m * 7, none⟩ = some (.string ⟨x.n.toArray⟩)) (({ wr with drawn := wr.drawn + 1 } : World)) := ⟨XT, XV, XN⟩
                refine lyp F0 rfl HCC rfl (by omega) (wanted_none rfl) (v := Value.pointer (some ⟨tb, 0, none⟩)) (fun wr hwr => by simp only [execOp, (F0.eval 9 (by omega)).trans (show _ = Value.pointer (some ⟨tb, 0, none⟩) from by simp [upd, e9, e15, e22])]; first | rfl | simp [go_sem]) fun F1 => ?_
                refine lyp F1 rfl HCC rfl (by omega) (wanted_none rfl) (v := Value.pointer (some ⟨tb, 0, none⟩)) (fun wr hwr => by simp only [execOp, (F1.eval 142 (by omega)).trans (show _ = Value.pointer (some ⟨tb, 0, none⟩) from by simp [upd, e9, e15, e22])]; simp [go_sem]) fun F2 => ?_
                refine lyp F2 rfl HCC rfl (by omega) (wanted_none rfl) (v := Value.pointer (some ⟨tb, 0, none⟩)) (fun wr hwr => by simp only [execOp, (F2.eval 143 (by omega)).trans (show _ = Value.pointer (some ⟨tb, 0, none⟩) from by simp [upd, e9, e15, e22])]; simp [go_sem]) fun F3 => ?_
                refine lyp F3 rfl HCC rfl (by omega) (wanted_none rfl) (v := Value.slice (some ⟨vr, 0, none⟩) n vc) (fun wr hwr => by simp only [execOp, (F3.eval 144 (by omega)).trans (show _ = Value.pointer (some ⟨tb, 0, none⟩) from by simp [upd, e9, e15, e22])]; simp [go_sem, hwr.1]) fun F4 => ?_
                refine lyp F4 rfl HCC rfl (by omega) (wanted_none rfl) (v := Value.pointer (some ⟨vr, 1, none⟩)) (fun wr hwr => by simp only [execOp, (F4.eval 145 (by omega)).trans (show _ = Value.slice (some ⟨vr, 0, none⟩) n vc from by simp [upd, e9, e15, e22])]; simp [go_sem, Act.eval, hn1, show ¬ (n : Int) ≤ 1 from by omega]) fun F5 => ?_
                refine lyp F5 rfl HCC rfl (by omega) (wanted_none rfl) (v := Value.pointer (some ⟨h1, 0, none⟩)) (fun wr hwr => by simp only [execOp, (F5.eval 146 (by omega)).trans (show _ = Value.pointer (some ⟨vr, 1, none⟩) from by simp [upd, e9, e15, e22])]; simp [go_sem, hwr.2.1]) fun F6 => ?_
                refine lyp F6 rfl HCC rfl (by omega) (wanted_none rfl) (v := Value.slice (some ⟨g, 0, none⟩) dl.length capl) (fun wr hwr => by simp only [execOp, (F6.eval 15 (by omega)).trans (show _ = Value.slice (some ⟨g, 0, none⟩) dl.length capl from by simp [upd, e9, e15, e22])]; first | rfl | simp [go_sem]) fun F7 => ?_
                refine lyp F7 rfl HCC rfl (by omega) (wanted_none rfl) (v := Value.int .i64 (m : Int)) (fun wr hwr => by simp only [execOp, (F7.eval 22 (by omega)).trans (show _ = Value.int .i64 (m : Int) from by simp [upd, e9, e15, e22])]; first | rfl | simp [go_sem]) fun F8 => ?_
                refine lyp F8 rfl HCC rfl (by omega) (wanted_none rfl) (v := Value.pointer (some ⟨g, m * 7, none⟩)) (fun wr hwr => by simp only [execOp, (F8.eval 148 (by omega)).trans (show _ = Value.slice (some ⟨g, 0, none⟩) dl.length capl from by simp [upd, e9, e15, e22]), (F8.eval 149 (by omega)).trans (show _ = Value.int .i64 (m : Int) from by simp [upd, e9, e15, e22])]; simp [go_sem, hml]) fun F9 => ?_
                refine lyp F9 rfl HCC rfl (by omega) (wanted_none rfl) (v := Value.pointer (some ⟨g, m * 7, none⟩)) (fun wr hwr => by simp only [execOp, (F9.eval 150 (by omega)).trans (show _ = Value.pointer (some ⟨g, m * 7, none⟩) from by simp [upd, e9, e15, e22])]; simp [go_sem]) fun F10 => ?_
                refine lyp F10 rfl HCC rfl (by omega) (wanted_none rfl) (v := Value.string ⟨x.n.toArray⟩) (fun wr hwr => by simp only [execOp, (F10.eval 151 (by omega)).trans (show _ = Value.pointer (some ⟨g, m * 7, none⟩) from by simp [upd, e9, e15, e22])]; simp [go_sem, hwr.2.2]) fun F11 => ?_
                refine lcp F11 rfl HCC rfl (by omega) (wanted_none rfl) (g := 15) (args := #[Value.pointer (some ⟨h1, 0, none⟩), Value.string ⟨x.n.toArray⟩]) (by simp only [execOp, resolve, invoke, List.map_toArray, List.map_cons, List.map_nil, (F11.eval 147 (by omega)).trans (show _ = Value.pointer (some ⟨h1, 0, none⟩) from by simp [upd, e9, e15, e22]), (F11.eval 152 (by omega)).trans (show _ = Value.string ⟨x.n.toArray⟩ from by simp [upd, e9, e15, e22])]; simp [go_sem, Act.eval]) (HABT.out (({ wr with drawn := wr.drawn + 1 } : World)) (LRel3.more hRi (Below.drew (Below.refl _ _)))) ?_
                rintro e w8 ⟨rfl, hb8⟩
                refine ⟨_, rfl, fun F12 => ?_⟩
                have HC8 : (fun wq => wq.cell? ⟨tb, 0, none⟩ = some (.slice (some ⟨vr, 0, none⟩) n vc) ∧ wq.cell? ⟨vr, 1, none⟩ = some (.pointer (some ⟨h1, 0, none⟩)) ∧ wq.cell? ⟨g, m * 7, none⟩ = some (.string ⟨x.n.toArray⟩)) w8 := ⟨(hb8.cell (p := ⟨tb, 0, none⟩) (World.block_lt_of_cell? wr _ XT)).trans XT, (hb8.cell (p := ⟨vr, 1, none⟩) (World.block_lt_of_cell? wr _ XV)).trans XV, (hb8.cell (p := ⟨g, m * 7, none⟩) (World.block_lt_of_cell? wr _ XN)).trans XN⟩
                refine lyp F12 rfl HC8 rfl (by omega) (wanted_none rfl) (v := Value.tuple #[.int .i64 x.d, .bool true]) (fun wr hwr => by simp only [execOp, (F12.eval 153 (by omega)).trans (show _ = Value.tuple #[.int .i64 x.d, .bool true] from by simp [upd, e9, e15, e22])]; first | rfl | simp [go_sem]) fun F13 => ?_
                refine lyp F13 rfl HC8 rfl (by omega) (wanted_none rfl) (v := Value.int .i64 x.d) (fun wr hwr => by simp only [execOp, (F13.eval 141 (by omega)).trans (show _ = Value.tuple #[.int .i64 x.d, .bool true] from by simp [upd, e9, e15, e22])]; simp [go_sem]) fun F14 => ?_
                refine lyp F14 rfl HC8 rfl (by omega) (wanted_none rfl) (v := Value.bool true) (fun wr hwr => by simp only [execOp, (F14.eval 141 (by omega)).trans (show _ = Value.tuple #[.int .i64 x.d, .bool true] from by simp [upd, e9, e15, e22])]; simp [go_sem]) fun F15 => ?_
                refine lyp F15 rfl HC8 rfl (by omega) (wanted_none rfl) (v := Value.int .i64 x.d) (fun wr hwr => by simp only [execOp, (F15.eval 154 (by omega)).trans (show _ = Value.int .i64 x.d from by simp [upd, e9, e15, e22])]; first | rfl | simp [go_sem]) fun F16 => ?_
                refine lyp F16 rfl HC8 rfl (by omega) (wanted_none rfl) (v := Value.bool true) (fun wr hwr => by simp only [execOp, (F16.eval 155 (by omega)).trans (show _ = Value.bool true from by simp [upd, e9, e15, e22])]; first | rfl | simp [go_sem]) fun F17 => ?_
                refine ⟨fun _ => HC8, ?_⟩
                refine hK _ _ ?_
                clear F0 F1 F2 F3 F4 F5 F6 F7 F8 F9 F10 F11 F12 F13 F14 F15 F16 F17 e9 e15 e22 HCC
                simp only [Act.put, List.setIfInBounds_toArray, List.set_cons_succ, List.set_cons_zero]
                have HRj : Hid (LRel3 L tb vr vc h0 m0 h1 m1 n W (.slice aoo dso.length capo) (.slice (some ⟨g, 0, none⟩) dl.length capl) dso dl w8) := LRel3.more (LRel3.more hRi (Below.drew (Below.refl _ _))) hb8
                have XD8 : w8.cell? ⟨g, m * 7 + 4, none⟩ = some (.int .i64 x.d) := (hb8.cell (p := ⟨g, m * 7 + 4, none⟩) (World.block_lt_of_cell? wr _ XD)).trans XD
                clear hRi hb8 XT XV XN XD HABT HC8
                go_wp2_with fail
                go_roundw
                case rel => exact ⟨m + 1, HML.out, by have := HDL.out.len; have := HML.out; go_num, HRj.out⟩
                case measure =>
                  have := HML.out
                  have := HDL.out.len
                  simp [intOf]
                  omega
              · have HRi : Hid _ := hRi
                clear hRi
                go_wp2_with fail
                go_roundw
                case rel => exact ⟨1 + 1, by decide, by go_num, HRi.out⟩
                case measure => first | (simp [intOf]; done) | (simp [intOf]; omega)
          · obtain ⟨Lx, hvx, Hsx, hTx, hbx, r1, r2⟩ := hR
            obtain ⟨t0j, _, p1j, _⟩ := hTx.cell0
            unfold Ptr at p1j
            have HTK : Hid _ := take_rel (show LRel3 L tb vr vc h0 m0 h1 m1 n W (.slice aoo dso.length capo) (.slice aol dl.length capl) dso dl wr from ⟨Lx, hvx, Hsx, hTx, hbx, r1, r2⟩) HLW.out HDL.out.len r2 HDL.out HC1.out.1 HC1.out.2
            clear hTx hbx r1 r2
            go_wp2_with fail
            refine Calls.mono HTK.out ?_
            rintro e w6 ⟨rfl, hR6⟩
            have HR6 : Hid _ := hR6
            clear hR6 HTK t0j p1j
            go_wp2_with fail
            go_loopw [22] (fun i wr => ∃ m : Nat, m ≤ dl.length ∧ i = .int .i64 m ∧ LRel3 L tb vr vc h0 m0 h1 m1 n W (.slice aoo dso.length capo) (.slice aol dl.length capl) dso dl wr) (fun i _ => dl.length - (intOf i).toNat)
            case atStart => exact ⟨0, Nat.zero_le _, rfl, HR6.out⟩
            case round =>
              obtain ⟨m, hm, rfl, hRi⟩ := hrel
              clear HR6
              by_cases hml : m < dl.length
              · have HML : Hid (m < dl.length) := hml
                have hd4 : dl.length ≤ 4 := HDL.out.len
                have hwm : IntKind.i64.wrap ((m : Int) + 1) = (m : Int) + 1 := by rw [IntKind.wrap_i64]; omega
                obtain ⟨x, hx⟩ : ∃ x, dl[m]? = some x := ⟨dl[m], List.getElem?_eq_getElem hml⟩
                obtain ⟨Ly, hvy, Hsy, hTy, hby, y1, y2⟩ := hRi
                obtain ⟨XT, _, XV, _⟩ := hTy.cell0
                unfold Ptr at XV
                obtain ⟨ao2, cap2, hv2, _, _, hfv, hat⟩ := own_fromV y2
                obtain ⟨g, hg, _, _⟩ := hat (by omega)
                cases hv2
                subst hg
                obtain ⟨b2, off2, hbo, hcv⟩ := hfv (by omega)
                cases hbo
                have hvat := hcv _ _ hx
                have XN := hvat.c0
                have XD := hvat.c4
                simp only [Nat.zero_add] at XN XD
                have hRi : LRel3 L tb vr vc h0 m0 h1 m1 n W (.slice aoo dso.length capo) (.slice (some ⟨g, 0, none⟩) dl.length capl) dso dl wr := ⟨Ly, hvy, Hsy, hTy, hby, y1, y2⟩
                have HABT : Hid (∀ w', LRel3 L tb vr vc h0 m0 h1 m1 n W (.slice aoo dso.length capo) (.slice (some ⟨g, 0, none⟩) dl.length capl) dso dl w' → Calls Try.prog 15 #[.pointer (some ⟨h1, 0, none⟩), .string ⟨x.n.toArray⟩] w' fun r w'' => r = .returned (.tuple #[.int .i64 x.d, .bool true]) ∧ Below w'.heap.size w' w'') := fun w' h => about_rel h HN.out HDL.out (List.mem_of_getElem? hx)
                clear hTy hby y1 y2 hfv hat hcv hvat hx
                go_wp2_with fail
                rename_i K hK
                try rw [show ∀ a : Act, a.put none undef = a from fun _ => rfl]
                refine wp_region_mix (fun wq => wq.cell? ⟨tb, 0, none⟩ = some (.slice (some ⟨vr, 0, none⟩) n vc) ∧ wq.cell? ⟨vr, 1, none⟩ = some (.pointer (some ⟨h1, 0, none⟩)) ∧ wq.cell? ⟨g, m * 7, none⟩ = some (.string ⟨x.n.toArray⟩)) (fun i => i == 11 || i == 99) 99 (by kernel_rfl) rfl (by kernel_rfl) (by kernel_rfl) (by kernel_rfl) ?_
                refine withFrP (N := 168) rfl ?_
                intro f0 F0 hff
                have e9 : f0 9 = Value.pointer (some ⟨tb, 0, none⟩) := hff 9
                have e15 : f0 15 = Value.slice (some ⟨g, 0, none⟩) dl.length capl := hff 15
                have e22 : f0 22 = Value.int .i64 (m : Int) := hff 22
                clear hff
                have HCC : (fun wq => wq.cell? ⟨tb, 0, none⟩ = some (.slice (some ⟨vr, 0, none⟩) n vc) ∧ wq.cell? ⟨vr, 1, none⟩ = some (.pointer (some ⟨h1, 0, none⟩)) ∧ wq.cell? ⟨g, m * 7, none⟩ = some (.string ⟨x.n.toArray⟩)) (({ wr with drawn := wr.drawn + 1 } : World)) := ⟨XT, XV, XN⟩
                refine lyp F0 rfl HCC rfl (by omega) (wanted_none rfl) (v := Value.pointer (some ⟨tb, 0, none⟩)) (fun wr hwr => by simp only [execOp, (F0.eval 9 (by omega)).trans (show _ = Value.pointer (some ⟨tb, 0, none⟩) from by simp [upd, e9, e15, e22])]; first | rfl | simp [go_sem]) fun F1 => ?_
                refine lyp F1 rfl HCC rfl (by omega) (wanted_none rfl) (v := Value.pointer (some ⟨tb, 0, none⟩)) (fun wr hwr => by simp only [execOp, (F1.eval 142 (by omega)).trans (show _ = Value.pointer (some ⟨tb, 0, none⟩) from by simp [upd, e9, e15, e22])]; simp [go_sem]) fun F2 => ?_
                refine lyp F2 rfl HCC rfl (by omega) (wanted_none rfl) (v := Value.pointer (some ⟨tb, 0, none⟩)) (fun wr hwr => by simp only [execOp, (F2.eval 143 (by omega)).trans (show _ = Value.pointer (some ⟨tb, 0, none⟩) from by simp [upd, e9, e15, e22])]; simp [go_sem]) fun F3 => ?_
                refine lyp F3 rfl HCC rfl (by omega) (wanted_none rfl) (v := Value.slice (some ⟨vr, 0, none⟩) n vc) (fun wr hwr => by simp only [execOp, (F3.eval 144 (by omega)).trans (show _ = Value.pointer (some ⟨tb, 0, none⟩) from by simp [upd, e9, e15, e22])]; simp [go_sem, hwr.1]) fun F4 => ?_
                refine lyp F4 rfl HCC rfl (by omega) (wanted_none rfl) (v := Value.pointer (some ⟨vr, 1, none⟩)) (fun wr hwr => by simp only [execOp, (F4.eval 145 (by omega)).trans (show _ = Value.slice (some ⟨vr, 0, none⟩) n vc from by simp [upd, e9, e15, e22])]; simp [go_sem, Act.eval, hn1, show ¬ (n : Int) ≤ 1 from by omega]) fun F5 => ?_
                refine lyp F5 rfl HCC rfl (by omega) (wanted_none rfl) (v := Value.pointer (some ⟨h1, 0, none⟩)) (fun wr hwr => by simp only [execOp, (F5.eval 146 (by omega)).trans (show _ = Value.pointer (some ⟨vr, 1, none⟩) from by simp [upd, e9, e15, e22])]; simp [go_sem, hwr.2.1]) fun F6 => ?_
                refine lyp F6 rfl HCC rfl (by omega) (wanted_none rfl) (v := Value.slice (some ⟨g, 0, none⟩) dl.length capl) (fun wr hwr => by simp only [execOp, (F6.eval 15 (by omega)).trans (show _ = Value.slice (some ⟨g, 0, none⟩) dl.length capl from by simp [upd, e9, e15, e22])]; first | rfl | simp [go_sem]) fun F7 => ?_
                refine lyp F7 rfl HCC rfl (by omega) (wanted_none rfl) (v := Value.int .i64 (m : Int)) (fun wr hwr => by simp only [execOp, (F7.eval 22 (by omega)).trans (show _ = Value.int .i64 (m : Int) from by simp [upd, e9, e15, e22])]; first | rfl | simp [go_sem]) fun F8 => ?_
                refine lyp F8 rfl HCC rfl (by omega) (wanted_none rfl) (v := Value.pointer (some ⟨g, m * 7, none⟩)) (fun wr hwr => by simp only [execOp, (F8.eval 148 (by omega)).trans (show _ = Value.slice (some ⟨g, 0, none⟩) dl.length capl from by simp [upd, e9, e15, e22]), (F8.eval 149 (by omega)).trans (show _ = Value.int .i64 (m : Int) from by simp [upd, e9, e15, e22])]; simp [go_sem, hml]) fun F9 => ?_
                refine lyp F9 rfl HCC rfl (by omega) (wanted_none rfl) (v := Value.pointer (some ⟨g, m * 7, none⟩)) (fun wr hwr => by simp only [execOp, (F9.eval 150 (by omega)).trans (show _ = Value.pointer (some ⟨g, m * 7, none⟩) from by simp [upd, e9, e15, e22])]; simp [go_sem]) fun F10 => ?_
                refine lyp F10 rfl HCC rfl (by omega) (wanted_none rfl) (v := Value.string ⟨x.n.toArray⟩) (fun wr hwr => by simp only [execOp, (F10.eval 151 (by omega)).trans (show _ = Value.pointer (some ⟨g, m * 7, none⟩) from by simp [upd, e9, e15, e22])]; simp [go_sem, hwr.2.2]) fun F11 => ?_
                refine lcp F11 rfl HCC rfl (by omega) (wanted_none rfl) (g := 15) (args := #[Value.pointer (some ⟨h1, 0, none⟩), Value.string ⟨x.n.toArray⟩]) (by simp only [execOp, resolve, invoke, List.map_toArray, List.map_cons, List.map_nil, (F11.eval 147 (by omega)).trans (show _ = Value.pointer (some ⟨h1, 0, none⟩) from by simp [upd, e9, e15, e22]), (F11.eval 152 (by omega)).trans (show _ = Value.string ⟨x.n.toArray⟩ from by simp [upd, e9, e15, e22])]; simp [go_sem, Act.eval]) (HABT.out (({ wr with drawn := wr.drawn + 1 } : World)) (LRel3.more hRi (Below.drew (Below.refl _ _)))) ?_
                rintro e w8 ⟨rfl, hb8⟩
                refine ⟨_, rfl, fun F12 => ?_⟩
                have HC8 : (fun wq => wq.cell? ⟨tb, 0, none⟩ = some (.slice (some ⟨vr, 0, none⟩) n vc) ∧ wq.cell? ⟨vr, 1, none⟩ = some (.pointer (some ⟨h1, 0, none⟩)) ∧ wq.cell? ⟨g, m * 7, none⟩ = some (.string ⟨x.n.toArray⟩)) w8 := ⟨(hb8.cell (p := ⟨tb, 0, none⟩) (World.block_lt_of_cell? wr _ XT)).trans XT, (hb8.cell (p := ⟨vr, 1, none⟩) (World.block_lt_of_cell? wr _ XV)).trans XV, (hb8.cell (p := ⟨g, m * 7, none⟩) (World.block_lt_of_cell? wr _ XN)).trans XN⟩
                refine lyp F12 rfl HC8 rfl (by omega) (wanted_none rfl) (v := Value.tuple #[.int .i64 x.d, .bool true]) (fun wr hwr => by simp only [execOp, (F12.eval 153 (by omega)).trans (show _ = Value.tuple #[.int .i64 x.d, .bool true] from by simp [upd, e9, e15, e22])]; first | rfl | simp [go_sem]) fun F13 => ?_
                refine lyp F13 rfl HC8 rfl (by omega) (wanted_none rfl) (v := Value.int .i64 x.d) (fun wr hwr => by simp only [execOp, (F13.eval 141 (by omega)).trans (show _ = Value.tuple #[.int .i64 x.d, .bool true] from by simp [upd, e9, e15, e22])]; simp [go_sem]) fun F14 => ?_
                refine lyp F14 rfl HC8 rfl (by omega) (wanted_none rfl) (v := Value.bool true) (fun wr hwr => by simp only [execOp, (F14.eval 141 (by omega)).trans (show _ = Value.tuple #[.int .i64 x.d, .bool true] from by simp [upd, e9, e15, e22])]; simp [go_sem]) fun F15 => ?_
                refine lyp F15 rfl HC8 rfl (by omega) (wanted_none rfl) (v := Value.int .i64 x.d) (fun wr hwr => by simp only [execOp, (F15.eval 154 (by omega)).trans (show _ = Value.int .i64 x.d from by simp [upd, e9, e15, e22])]; first | rfl | simp [go_sem]) fun F16 => ?_
                refine lyp F16 rfl HC8 rfl (by omega) (wanted_none rfl) (v := Value.bool true) (fun wr hwr => by simp only [execOp, (F16.eval 155 (by omega)).trans (show _ = Value.bool true from by simp [upd, e9, e15, e22])]; first | rfl | simp [go_sem]) fun F17 => ?_
                refine ⟨fun _ => HC8, ?_⟩
                refine hK _ _ ?_
                clear F0 F1 F2 F3 F4 F5 F6 F7 F8 F9 F10 F11 F12 F13 F14 F15 F16 F17 e9 e15 e22 HCC
                simp only [Act.put, List.setIfInBounds_toArray, List.set_cons_succ, List.set_cons_zero]
                have HRj : Hid (LRel3 L tb vr vc h0 m0 h1 m1 n W (.slice aoo dso.length capo) (.slice (some ⟨g, 0, none⟩) dl.length capl) dso dl w8) := LRel3.more (LRel3.more hRi (Below.drew (Below.refl _ _))) hb8
                have XD8 : w8.cell? ⟨g, m * 7 + 4, none⟩ = some (.int .i64 x.d) := (hb8.cell (p := ⟨g, m * 7 + 4, none⟩) (World.block_lt_of_cell? wr _ XD)).trans XD
                clear hRi hb8 XT XV XN XD HABT HC8
                go_wp2_with fail
                go_roundw
                case rel => exact ⟨m + 1, HML.out, by have := HDL.out.len; have := HML.out; go_num, HRj.out⟩
                case measure =>
                  have := HML.out
                  have := HDL.out.len
                  simp [intOf]
                  omega
              · have HRi : Hid _ := hRi
                clear hRi
                go_wp2_with fail
                go_roundw
                case rel => exact ⟨2 + 1, by decide, by go_num, HRi.out⟩
                case measure => first | (simp [intOf]; done) | (simp [intOf]; omega)
          · obtain ⟨Lx, hvx, Hsx, hTx, hbx, r1, r2⟩ := hR
            obtain ⟨t0j, _, p1j, _⟩ := hTx.cell0
            unfold Ptr at p1j
            have HTK : Hid _ := take_rel (show LRel3 L tb vr vc h0 m0 h1 m1 n W (.slice aoo dso.length capo) (.slice aol dl.length capl) dso dl wr from ⟨Lx, hvx, Hsx, hTx, hbx, r1, r2⟩) HLW.out HDL.out.len r1 HDO.out HC2.out.1 HC2.out.2
            clear hTx hbx r1 r2
            go_wp2_with fail
            refine Calls.mono HTK.out ?_
            rintro e w6 ⟨rfl, hR6⟩
            have HR6 : Hid _ := hR6
            clear hR6 HTK t0j p1j
            go_wp2_with fail
            go_loopw [22] (fun i wr => ∃ m : Nat, m ≤ dl.length ∧ i = .int .i64 m ∧ LRel3 L tb vr vc h0 m0 h1 m1 n W (.slice aoo dso.length capo) (.slice aol dl.length capl) dso dl wr) (fun i _ => dl.length - (intOf i).toNat)
            case atStart => exact ⟨0, Nat.zero_le _, rfl, HR6.out⟩
            case round =>
              obtain ⟨m, hm, rfl, hRi⟩ := hrel
              clear HR6
              by_cases hml : m < dl.length
              · have HML : Hid (m < dl.length) := hml
                have hd4 : dl.length ≤ 4 := HDL.out.len
                have hwm : IntKind.i64.wrap ((m : Int) + 1) = (m : Int) + 1 := by rw [IntKind.wrap_i64]; omega
                obtain ⟨x, hx⟩ : ∃ x, dl[m]? = some x := ⟨dl[m], List.getElem?_eq_getElem hml⟩
                obtain ⟨Ly, hvy, Hsy, hTy, hby, y1, y2⟩ := hRi
                obtain ⟨XT, _, XV, _⟩ := hTy.cell0
                unfold Ptr at XV
                obtain ⟨ao2, cap2, hv2, _, _, hfv, hat⟩ := own_fromV y2
                obtain ⟨g, hg, _, _⟩ := hat (by omega)
                cases hv2
                subst hg
                obtain ⟨b2, off2, hbo, hcv⟩ := hfv (by omega)
                cases hbo
                have hvat := hcv _ _ hx
                have XN := hvat.c0
                have XD := hvat.c4
                simp only [Nat.zero_add] at XN XD
                have hRi : LRel3 L tb vr vc h0 m0 h1 m1 n W (.slice aoo dso.length capo) (.slice (some ⟨g, 0, none⟩) dl.length capl) dso dl wr := ⟨Ly, hvy, Hsy, hTy, hby, y1, y2⟩
                have HABT : Hid (∀ w', LRel3 L tb vr vc h0 m0 h1 m1 n W (.slice aoo dso.length capo) (.slice (some ⟨g, 0, none⟩) dl.length capl) dso dl w' → Calls Try.prog 15 #[.pointer (some ⟨h1, 0, none⟩), .string ⟨x.n.toArray⟩] w' fun r w'' => r = .returned (.tuple #[.int .i64 x.d, .bool true]) ∧ Below w'.heap.size w' w'') := fun w' h => about_rel h HN.out HDL.out (List.mem_of_getElem? hx)
                clear hTy hby y1 y2 hfv hat hcv hvat hx
                go_wp2_with fail
                rename_i K hK
                try rw [show ∀ a : Act, a.put none undef = a from fun _ => rfl]
                refine wp_region_mix (fun wq => wq.cell? ⟨tb, 0, none⟩ = some (.slice (some ⟨vr, 0, none⟩) n vc) ∧ wq.cell? ⟨vr, 1, none⟩ = some (.pointer (some ⟨h1, 0, none⟩)) ∧ wq.cell? ⟨g, m * 7, none⟩ = some (.string ⟨x.n.toArray⟩)) (fun i => i == 11 || i == 99) 99 (by kernel_rfl) rfl (by kernel_rfl) (by kernel_rfl) (by kernel_rfl) ?_
                refine withFrP (N := 168) rfl ?_
                intro f0 F0 hff
                have e9 : f0 9 = Value.pointer (some ⟨tb, 0, none⟩) := hff 9
                have e15 : f0 15 = Value.slice (some ⟨g, 0, none⟩) dl.length capl := hff 15
                have e22 : f0 22 = Value.int .i64 (m : Int) := hff 22
                clear hff
                have HCC : (fun wq => wq.cell? ⟨tb, 0, none⟩ = some (.slice (some ⟨vr, 0, none⟩) n vc) ∧ wq.cell? ⟨vr, 1, none⟩ = some (.pointer (some ⟨h1, 0, none⟩)) ∧ wq.cell? ⟨g, m * 7, none⟩ = some (.string ⟨x.n.toArray⟩)) (({ wr with drawn := wr.drawn + 1 } : World)) := ⟨XT, XV, XN⟩
                refine lyp F0 rfl HCC rfl (by omega) (wanted_none rfl) (v := Value.pointer (some ⟨tb, 0, none⟩)) (fun wr hwr => by simp only [execOp, (F0.eval 9 (by omega)).trans (show _ = Value.pointer (some ⟨tb, 0, none⟩) from by simp [upd, e9, e15, e22])]; first | rfl | simp [go_sem]) fun F1 => ?_
                refine lyp F1 rfl HCC rfl (by omega) (wanted_none rfl) (v := Value.pointer (some ⟨tb, 0, none⟩)) (fun wr hwr => by simp only [execOp, (F1.eval 142 (by omega)).trans (show _ = Value.pointer (some ⟨tb, 0, none⟩) from by simp [upd, e9, e15, e22])]; simp [go_sem]) fun F2 => ?_
                refine lyp F2 rfl HCC rfl (by omega) (wanted_none rfl) (v := Value.pointer (some ⟨tb, 0, none⟩)) (fun wr hwr => by simp only [execOp, (F2.eval 143 (by omega)).trans (show _ = Value.pointer (some ⟨tb, 0, none⟩) from by simp [upd, e9, e15, e22])]; simp [go_sem]) fun F3 => ?_
                refine lyp F3 rfl HCC rfl (by omega) (wanted_none rfl) (v := Value.slice (some ⟨vr, 0, none⟩) n vc) (fun wr hwr => by simp only [execOp, (F3.eval 144 (by omega)).trans (show _ = Value.pointer (some ⟨tb, 0, none⟩) from by simp [upd, e9, e15, e22])]; simp [go_sem, hwr.1]) fun F4 => ?_
                refine lyp F4 rfl HCC rfl (by omega) (wanted_none rfl) (v := Value.pointer (some ⟨vr, 1, none⟩)) (fun wr hwr => by simp only [execOp, (F4.eval 145 (by omega)).trans (show _ = Value.slice (some ⟨vr, 0, none⟩) n vc from by simp [upd, e9, e15, e22])]; simp [go_sem, Act.eval, hn1, show ¬ (n : Int) ≤ 1 from by omega]) fun F5 => ?_
                refine lyp F5 rfl HCC rfl (by omega) (wanted_none rfl) (v := Value.pointer (some ⟨h1, 0, none⟩)) (fun wr hwr => by simp only [execOp, (F5.eval 146 (by omega)).trans (show _ = Value.pointer (some ⟨vr, 1, none⟩) from by simp [upd, e9, e15, e22])]; simp [go_sem, hwr.2.1]) fun F6 => ?_
                refine lyp F6 rfl HCC rfl (by omega) (wanted_none rfl) (v := Value.slice (some ⟨g, 0, none⟩) dl.length capl) (fun wr hwr => by simp only [execOp, (F6.eval 15 (by omega)).trans (show _ = Value.slice (some ⟨g, 0, none⟩) dl.length capl from by simp [upd, e9, e15, e22])]; first | rfl | simp [go_sem]) fun F7 => ?_
                refine lyp F7 rfl HCC rfl (by omega) (wanted_none rfl) (v := Value.int .i64 (m : Int)) (fun wr hwr => by simp only [execOp, (F7.eval 22 (by omega)).trans (show _ = Value.int .i64 (m : Int) from by simp [upd, e9, e15, e22])]; first | rfl | simp [go_sem]) fun F8 => ?_
                refine lyp F8 rfl HCC rfl (by omega) (wanted_none rfl) (v := Value.pointer (some ⟨g, m * 7, none⟩)) (fun wr hwr => by simp only [execOp, (F8.eval 148 (by omega)).trans (show _ = Value.slice (some ⟨g, 0, none⟩) dl.length capl from by simp [upd, e9, e15, e22]), (F8.eval 149 (by omega)).trans (show _ = Value.int .i64 (m : Int) from by simp [upd, e9, e15, e22])]; simp [go_sem, hml]) fun F9 => ?_
                refine lyp F9 rfl HCC rfl (by omega) (wanted_none rfl) (v := Value.pointer (some ⟨g, m * 7, none⟩)) (fun wr hwr => by simp only [execOp, (F9.eval 150 (by omega)).trans (show _ = Value.pointer (some ⟨g, m * 7, none⟩) from by simp [upd, e9, e15, e22])]; simp [go_sem]) fun F10 => ?_
                refine lyp F10 rfl HCC rfl (by omega) (wanted_none rfl) (v := Value.string ⟨x.n.toArray⟩) (fun wr hwr => by simp only [execOp, (F10.eval 151 (by omega)).trans (show _ = Value.pointer (some ⟨g, m * 7, none⟩) from by simp [upd, e9, e15, e22])]; simp [go_sem, hwr.2.2]) fun F11 => ?_
                refine lcp F11 rfl HCC rfl (by omega) (wanted_none rfl) (g := 15) (args := #[Value.pointer (some ⟨h1, 0, none⟩), Value.string ⟨x.n.toArray⟩]) (by simp only [execOp, resolve, invoke, List.map_toArray, List.map_cons, List.map_nil, (F11.eval 147 (by omega)).trans (show _ = Value.pointer (some ⟨h1, 0, none⟩) from by simp [upd, e9, e15, e22]), (F11.eval 152 (by omega)).trans (show _ = Value.string ⟨x.n.toArray⟩ from by simp [upd, e9, e15, e22])]; simp [go_sem, Act.eval]) (HABT.out (({ wr with drawn := wr.drawn + 1 } : World)) (LRel3.more hRi (Below.drew (Below.refl _ _)))) ?_
                rintro e w8 ⟨rfl, hb8⟩
                refine ⟨_, rfl, fun F12 => ?_⟩
                have HC8 : (fun wq => wq.cell? ⟨tb, 0, none⟩ = some (.slice (some ⟨vr, 0, none⟩) n vc) ∧ wq.cell? ⟨vr, 1, none⟩ = some (.pointer (some ⟨h1, 0, none⟩)) ∧ wq.cell? ⟨g, m * 7, none⟩ = some (.string ⟨x.n.toArray⟩)) w8 := ⟨(hb8.cell (p := ⟨tb, 0, none⟩) (World.block_lt_of_cell? wr _ XT)).trans XT, (hb8.cell (p := ⟨vr, 1, none⟩) (World.block_lt_of_cell? wr _ XV)).trans XV, (hb8.cell (p := ⟨g, m * 7, none⟩) (World.block_lt_of_cell? wr _ XN)).trans XN⟩
                refine lyp F12 rfl HC8 rfl (by omega) (wanted_none rfl) (v := Value.tuple #[.int .i64 x.d, .bool true]) (fun wr hwr => by simp only [execOp, (F12.eval 153 (by omega)).trans (show _ = Value.tuple #[.int .i64 x.d, .bool true] from by simp [upd, e9, e15, e22])]; first | rfl | simp [go_sem]) fun F13 => ?_
                refine lyp F13 rfl HC8 rfl (by omega) (wanted_none rfl) (v := Value.int .i64 x.d) (fun wr hwr => by simp only [execOp, (F13.eval 141 (by omega)).trans (show _ = Value.tuple #[.int .i64 x.d, .bool true] from by simp [upd, e9, e15, e22])]; simp [go_sem]) fun F14 => ?_
                refine lyp F14 rfl HC8 rfl (by omega) (wanted_none rfl) (v := Value.bool true) (fun wr hwr => by simp only [execOp, (F14.eval 141 (by omega)).trans (show _ = Value.tuple #[.int .i64 x.d, .bool true] from by simp [upd, e9, e15, e22])]; simp [go_sem]) fun F15 => ?_
                refine lyp F15 rfl HC8 rfl (by omega) (wanted_none rfl) (v := Value.int .i64 x.d) (fun wr hwr => by simp only [execOp, (F15.eval 154 (by omega)).trans (show _ = Value.int .i64 x.d from by simp [upd, e9, e15, e22])]; first | rfl | simp [go_sem]) fun F16 => ?_
                refine lyp F16 rfl HC8 rfl (by omega) (wanted_none rfl) (v := Value.bool true) (fun wr hwr => by simp only [execOp, (F16.eval 155 (by omega)).trans (show _ = Value.bool true from by simp [upd, e9, e15, e22])]; first | rfl | simp [go_sem]) fun F17 => ?_
                refine ⟨fun _ => HC8, ?_⟩
                refine hK _ _ ?_
                clear F0 F1 F2 F3 F4 F5 F6 F7 F8 F9 F10 F11 F12 F13 F14 F15 F16 F17 e9 e15 e22 HCC
                simp only [Act.put, List.setIfInBounds_toArray, List.set_cons_succ, List.set_cons_zero]
                have HRj : Hid (LRel3 L tb vr vc h0 m0 h1 m1 n W (.slice aoo dso.length capo) (.slice (some ⟨g, 0, none⟩) dl.length capl) dso dl w8) := LRel3.more (LRel3.more hRi (Below.drew (Below.refl _ _))) hb8
                have XD8 : w8.cell? ⟨g, m * 7 + 4, none⟩ = some (.int .i64 x.d) := (hb8.cell (p := ⟨g, m * 7 + 4, none⟩) (World.block_lt_of_cell? wr _ XD)).trans XD
                clear hRi hb8 XT XV XN XD HABT HC8
                go_wp2_with fail
                go_roundw
                case rel => exact ⟨m + 1, HML.out, by have := HDL.out.len; have := HML.out; go_num, HRj.out⟩
                case measure =>
                  have := HML.out
                  have := HDL.out.len
                  simp [intOf]
                  omega
              · have HRi : Hid _ := hRi
                clear hRi
                go_wp2_with fail
                go_roundw
                case rel => exact ⟨3 + 1, by decide, by go_num, HRi.out⟩
                case measure => first | (simp [intOf]; done) | (simp [intOf]; omega)

        · obtain ⟨Lx, hvx, Hsx, hTx, hbx, r1, r2⟩ := hR
          have HBX : Hid _ := hbx
          clear hTx hbx r1 r2
          go_wp2_with fail
          go_ret
          exact ⟨rfl, HBX.out⟩
end Go.Proofs.Ytifgmefdlmjocaa
