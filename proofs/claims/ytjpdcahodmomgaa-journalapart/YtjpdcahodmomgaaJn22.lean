import Derived.Test.YtjpdcahodmomgaaJn21
import Derived.Deep.CutRange
namespace Go.Proofs.Ytjpdcahodmomgaa
open Go.RowKit Go.PlainAid
set_option linter.unusedVariables false
set_option linter.unusedSimpArgs false
theorem apL_len (bs : List UInt8) : (apL bs).length ≤ 1 := by unfold apL; split <;> simp
theorem fresh_ok (jb s p : Nat) : (JD.mk jb s (jv0 p 300) (fresh 300)).Ok 0 := ⟨rfl, rfl, rfl, Nat.le_refl _, Nat.le_refl _, Nat.le_refl _, rfl, rfl, fun d hd => by cases hd⟩
def Fr0 (j : JD) : Prop := j.Ok 0 ∧ j.ls = [] ∧ j.y.next = 0
def R2 (L : Nat) (w : World) (ls1 : List (List UInt8)) (i : Nat) (s9 : Value) (wr : World) : Prop := (∃ wo wk wq, s9 = Value.slice wo wk wq) ∧ ∃ a b c, H3 L L w ((ls1.take i).flatMap apL) s9 a b c wr ∧ a.Ok i ∧ b.Ok i ∧ c.Ok i ∧ a.ls = (ls1.take i).flatMap apL ∧ c.ls = (ls1.take i).flatMap apL ∧ a.y.next = c.y.next ∧ ((ls1.take i).flatMap apL).length ≤ i ∧ Below L w wr
set_option maxRecDepth 100000 in
set_option maxHeartbeats 6400000 in
theorem apart_law {v1 v2 : Value} {ls1 ls2 : List (List UInt8)} (w : World) (h1 : RowsA w v1 ls1) (h2 : RowsA w v2 ls2) :
    Calls Try.prog 4 #[v1, v2] w fun e w' => e = .returned (.bool true) ∧ Below w.heap.size w w' := by
  obtain ⟨o1, c1, rfl, hn1, hrow1⟩ := h1
  obtain ⟨o2, c2, rfl, hn2, hrow2⟩ := h2
  obtain ⟨L, hLe⟩ : ∃ L, L = w.heap.size := ⟨_, rfl⟩
  have HLE : Hid (L = w.heap.size) := hLe
  have HRW : Hid (∀ W, Below L w W → ∀ (i : Nat) bs, ls1[i]? = some bs → ∃ b off uo k uc, o1 = some ⟨b, off, none⟩ ∧ W.cell? ⟨b, off + i, none⟩ = some (.slice uo k uc) ∧ By W (.slice uo k uc) bs ∧ By w (.slice uo k uc) bs ∧ (∀ W2, Below L W W2 → By W2 (.slice uo k uc) bs) ∧ k ≤ uc ∧ k ≤ 140737488351232 ∧ bs.length = k) := fun W hW i bs hi => by
    obtain ⟨b, off, uo, k, uc, e1, e2, e3, e4, e5⟩ := hrow1 i bs hi
    have hW' := below_lo hLe hW
    have hk : bs.length = k := by obtain ⟨_, _, _, e6, e7, _⟩ := id e3; cases e6; exact e7
    exact ⟨b, off, uo, k, uc, e1, (hW'.cell (World.block_lt_of_cell? _ _ e2)).trans e2, e3.keep hW', e3, fun W2 h2 => e3.keep (below_lo hLe (hW.trans h2)), e4, by omega, hk⟩
  have HRW2 : Hid (∀ W, Below L w W → ∀ (i : Nat) bs, ls2[i]? = some bs → ∃ b off uo k uc, o2 = some ⟨b, off, none⟩ ∧ W.cell? ⟨b, off + i, none⟩ = some (.slice uo k uc) ∧ (∀ W2, Below L W W2 → By W2 (.slice uo k uc) bs) ∧ k ≤ uc ∧ k ≤ 140737488351232) := fun W hW i bs hi => by
    obtain ⟨b, off, uo, k, uc, e1, e2, e3, e4, e5⟩ := hrow2 i bs hi
    have hW' := below_lo hLe hW
    have hk : bs.length = k := by obtain ⟨_, _, _, e6, e7, _⟩ := id e3; cases e6; exact e7
    exact ⟨b, off, uo, k, uc, e1, (hW'.cell (World.block_lt_of_cell? _ _ e2)).trans e2, fun W2 h2 => e3.keep (below_lo hLe (hW.trans h2)), e4, by omega⟩
  obtain ⟨N1, hN1⟩ : ∃ N, N = ls1.length := ⟨_, rfl⟩
  obtain ⟨N2, hN2⟩ : ∃ N, N = ls2.length := ⟨_, rfl⟩
  have HN : Hid (N1 = ls1.length ∧ N2 = ls2.length) := ⟨hN1, hN2⟩
  rw [← hN1] at hn1 ⊢
  rw [← hN2] at hn2 ⊢
  obtain ⟨w0, hw0⟩ : ∃ w0, w0 = w.alloc (.cells #[.pointer none, .pointer none, .pointer none] 32) := ⟨_, rfl⟩
  have H0 : Hid (Held (boxE L L (arrA []) 32 :: ([] : List JD).flatMap (JD.es L)) w0 ∧ Below L w w0) := by
    have hb : Below w.heap.size w w0 := by rw [hw0]; exact (Below.refl _ _).alloc (Nat.le_refl _) _
    refine ⟨⟨fun e he => ?_, List.pairwise_singleton ..⟩, by rw [hLe]; exact hb⟩
    rw [List.mem_singleton.1 he]
    exact ⟨by rw [hw0, hLe]; exact heap_alloc_new w _, Nat.le_refl _⟩
  clear hrow1 hrow2 hN1 hN2
  rw [← hLe]
  go_enter Try.func4, Try.ntmps4
  go_upto_region 2 with fail
  rw [← hw0, ← hLe]
  clear hw0 hLe
  go_wp2_with fail
  go_loopw [6] (fun s6 wr => ∃ i : Nat, i ≤ 3 ∧ s6 = .int .i64 (i : Int) ∧ ∃ js : List JD, js.length = i ∧ (∀ j ∈ js, Fr0 j) ∧ Held (boxE L L (arrA js) 32 :: js.flatMap (JD.es L)) wr ∧ Below L w wr) (fun s6 _ => 3 - (intOf s6).toNat)
  case atStart => exact ⟨0, by omega, rfl, [], rfl, (fun j hj => by cases hj), H0.out.1, H0.out.2⟩
  case round =>
    clear H0
    obtain ⟨i, hi, rfl, js, hjl, hjs, hH, hb⟩ := hrel
    have hLw : L ≤ wr.heap.size := hH.lowL (k := L) rfl
    by_cases hlt : i < 3
    · have HNW : Hid _ := new_jd w wr hH hb hLw
      have HLW : Hid (L ≤ wr.heap.size) := hLw
      have HJS : Hid ((∀ j ∈ js, Fr0 j) ∧ js.length = i) := ⟨hjs, hjl⟩
      have hlti : (i : Int) < 3 := by omega
      clear hH hb hLw hjs hjl
      go_wp2_with fail
      refine Calls.mono HNW.out ?_
      rintro e wa ⟨p, s, rfl, hHa, hba⟩
      have HOP : Hid _ := open_jd w wa hHa hba (hHa.drop.lowL (k := L) rfl)
      clear HNW hHa hba
      go_wp2_with fail
      refine Calls.mono HOP.out ?_
      rintro e wb ⟨jb, a, rfl, hae, hHb, hbb⟩
      clear HOP
      obtain ⟨x, hx⟩ := blk_get hHb.boxB (j := i) (by show i < 3; omega)
      have hf := hHb.boxB.frozen i
      have HNX : Hid (∃ js : List JD, js.length = i + 1 ∧ (∀ j ∈ js, Fr0 j) ∧ Held (boxE L L (arrA js) 32 :: js.flatMap (JD.es L)) (wb.setCell ⟨L, i, none⟩ (.pointer (some ⟨jb, 0, none⟩))) ∧ Below L w (wb.setCell ⟨L, i, none⟩ (.pointer (some ⟨jb, 0, none⟩)))) := by
        refine ⟨js ++ [a], by rw [List.length_append, HJS.out.2]; rfl, fun j hj => ?_, ?_, hbb.trans ((setCell_chg _ _ _ _).below (hHb.lowL (k := L) rfl) (fun k e => by omega))⟩
        · rcases List.mem_append.1 hj with h5 | h5
          · exact HJS.out.1 j h5
          · rw [List.mem_singleton.1 h5, hae]; exact ⟨fresh_ok _ _ _, rfl, rfl⟩
        · have h5 := hHb.boxSet i (.pointer (some ⟨jb, 0, none⟩))
          have h6 := arrA_push js a (by rw [HJS.out.2]; exact hlt)
          rw [HJS.out.2, show a.jb = jb from by rw [hae]] at h6
          rw [h6] at h5
          exact h5
      clear hae hHb hbb HJS
      go_wp2_with fail
      go_roundw
      case rel => exact ⟨i + 1, by omega, by go_num, HNX.out⟩
      case measure => simp [intOf]; omega
    · obtain rfl : i = 3 := by omega
      obtain ⟨a0, b0, c0, rfl⟩ : ∃ a b c, js = [a, b, c] := by
        match js, hjl with
        | [a, b, c], _ => exact ⟨a, b, c, rfl⟩
      have ha := hjs a0 (by simp)
      have hbb := hjs b0 (by simp)
      have hcc := hjs c0 (by simp)
      have HS : Hid (∃ a b c, H3 L L w ((ls1.take 0).flatMap apL) (.slice none 0 0) a b c wr ∧ a.Ok 0 ∧ b.Ok 0 ∧ c.Ok 0 ∧ a.ls = (ls1.take 0).flatMap apL ∧ c.ls = (ls1.take 0).flatMap apL ∧ a.y.next = c.y.next ∧ ((ls1.take 0).flatMap apL).length ≤ 0 ∧ Below L w wr) := by
        refine ⟨a0, b0, c0, ⟨[], ?_, rfl, fun k bs hk => by simp at hk⟩, ha.1, hbb.1, hcc.1, by rw [ha.2.1]; simp, by rw [hcc.2.1]; simp, by rw [ha.2.2, hcc.2.2], by simp, hb⟩
        have h5 : Held (tailE L 38 (.slice none 0 0) 0 [] :: boxE L L (arrA [a0, b0, c0]) 32 :: [a0, b0, c0].flatMap (JD.es L)) wr := hH.add (tail_nil _ _ _) (fun k hk => by cases hk)
        have h6 := h5.perm (List.Perm.swap ..)
        simpa [List.flatMap_cons] using h6
      clear hjl hjs hH hb hLw ha hbb hcc
      rw [show ((3 : Nat) : Int) = (3 : Int) from rfl]
      go_wp2_with fail
      go_loopw [9, 10] (fun s9 s10 wr => ∃ i : Nat, i ≤ 12 ∧ i ≤ N1 ∧ s10 = .int .i64 (i : Int) ∧ R2 L w ls1 i s9 wr) (fun _ s10 _ => 12 - (intOf s10).toNat)
      case atStart =>
        obtain ⟨a, b, c, h5⟩ := HS.out
        exact ⟨0, by omega, by omega, rfl, ⟨_, _, _, rfl⟩, a, b, c, h5⟩
      case round =>
        clear HS
        obtain ⟨i, hi, hiN, rfl, ⟨wo, wk, wq, rfl⟩, a, b, c, hH, ha, hb, hc, hal, hcl, hnx, hln, hbl⟩ := hrel
        have HHH : Hid (H3 L L w ((ls1.take i).flatMap apL) (Value.slice wo wk wq) a b c wr ∧ a.Ok i ∧ b.Ok i ∧ c.Ok i ∧ a.ls = (ls1.take i).flatMap apL ∧ c.ls = (ls1.take i).flatMap apL ∧ a.y.next = c.y.next ∧ ((ls1.take i).flatMap apL).length ≤ i ∧ Below L w wr) := ⟨hH, ha, hb, hc, hal, hcl, hnx, hln, hbl⟩
        clear hH ha hb hc hal hcl hnx hln hbl
        by_cases hlt : i < N1 ∧ i < 12
        · obtain ⟨hlt, hlt2⟩ := hlt
          have hlti : (i : Int) < (N1 : Int) := by omega
          have hlti2 : (i : Int) < 12 := by omega
          have hbs : ls1[i]? = some (ls1[i]'(by rw [← HN.out.1]; exact hlt)) := List.getElem?_eq_getElem _
          obtain ⟨bs, hbse⟩ : ∃ bs, bs = ls1[i]'(by rw [← HN.out.1]; exact hlt) := ⟨_, rfl⟩
          rw [← hbse] at hbs
          clear hbse
          obtain ⟨b1, off1, uo, k, uc, rfl, hcell, hby, hbyw, hall, hkc, hk, hkl⟩ := HRW.out wr HHH.out.2.2.2.2.2.2.2.2 i bs hbs
          have hln := lent_any wr hby (by omega)
          rw [hkl] at hln
          have HLN : Hid _ := hln
          have HAL : Hid ((∀ W2, Below L wr W2 → By W2 (.slice uo k uc) bs) ∧ By w (.slice uo k uc) bs ∧ By wr (.slice uo k uc) bs ∧ bs.length = k ∧ ls1[i]? = some bs) := ⟨hall, hbyw, hby, hkl, hbs⟩
          have hkc' : k ≤ uc := hkc
          clear hln hby hbyw hall hkl hbs
          go_wp2_with fail
          refine Calls.mono HLN.out ?_
          rintro e w1 ⟨g, cc, rfl, hcc, hown, hb1⟩
          clear HLN hcell
          have hsl : ∀ W, (Instr.sliceAt 38 (.slice (some ⟨g, 0, none⟩) (k + 2) cc) none (some (.int .i64 (k : Int))) none).run Try.prog W = .ok (.slice (some ⟨g, 0, none⟩) k cc) W := fun W => slice38h g 0 (k + 2) cc k (by omega) W
          have c0 : w1.cell? ⟨L, 0, none⟩ = some (.pointer (some ⟨a.jb, 0, none⟩)) := (box_cells (HHH.out.1.more hb1).box).1
          have HF1 : Hid (∀ W, (∃ q, W = w1.drewN q) → Calls Try.prog 16 #[.pointer (some ⟨a.jb, 0, none⟩), .slice (some ⟨g, 0, none⟩) k cc] W fun e W' => e = .returned (.int .i64 (apC bs)) ∧ ∃ a', H3 L L w ((ls1.take i).flatMap apL) (Value.slice wo wk wq) a' b c W' ∧ a'.jb = a.jb ∧ a'.Ok (i + 1) ∧ a'.ls = a.ls ++ apL bs ∧ a'.y.next = a.y.next + apN bs ∧ Below L W W' ∧ W'.ownsRow L 5 1 (.slice (some ⟨g, 0, none⟩) (k + 2) cc) (k + 2) ((bs ++ mk2).map B) ∧ (∀ W2, Chg (fun k => k = g) W' W2 → H3 L L w ((ls1.take i).flatMap apL) (Value.slice wo wk wq) a' b c W2)) := fun W hW => by
            obtain ⟨q, rfl⟩ := hW
            exact HHH.out.1.first (below_dr hb1 q) HHH.out.2.1 hlt2 (ownsRow_same hown (fun _ _ => rfl)) HAL.out.2.2.2.1 hcc (by omega)
          have HB1 : Hid (Below L wr w1 ∧ k + 2 ≤ cc) := ⟨hb1.mono HHH.out.1.lo, hcc⟩
          clear hown hb1 hcc
          go_wp2_with fail
          go_cut [13] from 44 to 111 (fun s13 wy => s13 = .int .i64 (apC bs) ∧ ∃ a', H3 L L w ((ls1.take i).flatMap apL) (Value.slice wo wk wq) a' b c wy ∧ a'.jb = a.jb ∧ a'.Ok (i + 1) ∧ a'.ls = a.ls ++ apL bs ∧ a'.y.next = a.y.next + apN bs ∧ Below L wr wy ∧ wy.ownsRow L 5 1 (.slice (some ⟨g, 0, none⟩) (k + 2) cc) (k + 2) ((bs ++ mk2).map B) ∧ (∀ W2, Chg (fun k => k = g) wy W2 → H3 L L w ((ls1.take i).flatMap apL) (Value.slice wo wk wq) a' b c W2))
          case first =>
            go_region_with (go_at_call 16; refine (HF1.out _ (by first | exact ⟨0, rfl⟩ | exact ⟨1, rfl⟩)).mono ?_; rintro e w2 ⟨rfl, a', g1, g2, g3, g4, g5, g6, g7, g8⟩)
            all_goals
              have HG : Hid (H3 L L w ((ls1.take i).flatMap apL) (Value.slice wo wk wq) a' b c w2 ∧ a'.jb = a.jb ∧ a'.Ok (i + 1) ∧ a'.ls = a.ls ++ apL bs ∧ a'.y.next = a.y.next + apN bs ∧ Below L wr w2 ∧ w2.ownsRow L 5 1 (.slice (some ⟨g, 0, none⟩) (k + 2) cc) (k + 2) ((bs ++ mk2).map B) ∧ (∀ W2, Chg (fun k => k = g) w2 W2 → H3 L L w ((ls1.take i).flatMap apL) (Value.slice wo wk wq) a' b c W2)) := ⟨g1, g2, g3, g4, g5, HB1.out.1.trans (by first | exact g6 | exact (below_dr (Below.refl _ _) 1).trans g6), g7, g8⟩
              clear g1 g2 g3 g4 g5 g6 g7 g8
              go_wp2_with fail
              go_meet
              case rel => exact ⟨rfl, a', HG.out⟩
          case rest =>
            obtain ⟨rfl, a', hcut⟩ := hcut
            have HG : Hid (H3 L L w ((ls1.take i).flatMap apL) (Value.slice wo wk wq) a' b c wc ∧ a'.jb = a.jb ∧ a'.Ok (i + 1) ∧ a'.ls = a.ls ++ apL bs ∧ a'.y.next = a.y.next + apN bs ∧ Below L wr wc ∧ wc.ownsRow L 5 1 (.slice (some ⟨g, 0, none⟩) (k + 2) cc) (k + 2) ((bs ++ mk2).map B) ∧ (∀ W2, Chg (fun k => k = g) wc W2 → H3 L L w ((ls1.take i).flatMap apL) (Value.slice wo wk wq) a' b c W2)) := hcut
            have HBK : Hid _ := back_any wc hcut.2.2.2.2.2.2.1 HB1.out.2 (HAL.out.1 wc hcut.2.2.2.2.2.1) HAL.out.2.2.2.1 (by omega)
            clear hcut HF1 hsl c0
            go_wp2_with fail
            refine Calls.mono HBK.out ?_
            rintro e w3 ⟨rfl, _, hc3⟩
            have HG3 : Hid (H3 L L w ((ls1.take i).flatMap apL) (Value.slice wo wk wq) a' b c w3 ∧ Below L wr w3) := ⟨HG.out.2.2.2.2.2.2.2 w3 hc3, HG.out.2.2.2.2.2.1.trans (hc3.below HG.out.1.lo (fun j hj => by subst hj; exact (ownsRow_lt HG.out.2.2.2.2.2.2.1 rfl).1))⟩
            have HA3 : Hid (a'.Ok (i + 1) ∧ a'.ls = a.ls ++ apL bs ∧ a'.y.next = a.y.next + apN bs) := ⟨HG.out.2.2.1, HG.out.2.2.2.1, HG.out.2.2.2.2.1⟩
            clear HBK hc3 HG HB1
            go_upto_if 74 with fail
            go_cut [] from 44 to 111 (fun wy => ∃ b', H3 L L w ((ls1.take i).flatMap apL) (Value.slice wo wk wq) a' b' c wy ∧ b'.Ok (i + 1) ∧ Below L wr wy)
            case first =>
              by_cases h2 : i < N2
              · have hbs2 : ls2[i]? = some (ls2[i]'(by rw [← HN.out.2]; exact h2)) := List.getElem?_eq_getElem _
                obtain ⟨b2, off2, uo2, k2, uc2, rfl, hcell2, hall2, hkc2, hk2⟩ := HRW2.out w3 (HHH.out.2.2.2.2.2.2.2.2.trans HG3.out.2) i _ hbs2
                have c1 : w3.cell? ⟨L, 1, none⟩ = some (.pointer (some ⟨b.jb, 0, none⟩)) := (box_cells HG3.out.1.box).2.1
                have HF2 : Hid (∀ W, (∃ q, W = w3.drewN q) → Calls Try.prog 16 #[.pointer (some ⟨b.jb, 0, none⟩), .slice uo2 k2 uc2] W fun e W' => ∃ v, e = .returned v ∧ ∃ b', H3 L L w ((ls1.take i).flatMap apL) (Value.slice wo wk wq) a' b' c W' ∧ b'.Ok (i + 1) ∧ Below L W W') := fun W hW => by
                  obtain ⟨q, rfl⟩ := hW
                  exact (HG3.out.1.drewN q).second HHH.out.2.2.1 hlt2 (fun W2 h5 => hall2 W2 ((below_dr (Below.refl _ _) q).trans h5)) hkc2 (by omega)
                rw [show decide (i < N2) = true from decide_eq_true h2]
                clear hall2 hbs2
                go_wp2_with fail
                go_region_with (go_at_call 16; refine (HF2.out _ (by first | exact ⟨0, rfl⟩ | exact ⟨1, rfl⟩)).mono ?_; rintro e w4 ⟨v4, rfl, b', g1, g2, g3⟩)
                all_goals
                  have HG4 : Hid (∃ b', H3 L L w ((ls1.take i).flatMap apL) (Value.slice wo wk wq) a' b' c w4 ∧ b'.Ok (i + 1) ∧ Below L wr w4) := ⟨b', g1, g2, HG3.out.2.trans (by first | exact g3 | exact (below_dr (Below.refl _ _) 1).trans g3)⟩
                  clear g1 g2 g3
                  go_wp2_with fail
                  go_meet
                  case rel => exact HG4.out
              · rw [show decide (i < N2) = false from decide_eq_false h2]
                go_wp2_with fail
                go_meet
                case rel => exact ⟨b, HG3.out.1, HHH.out.2.2.1.up, HG3.out.2⟩
            case rest =>
              clear HG3
              obtain ⟨b', hcut⟩ := hcut
              have HG4 : Hid (H3 L L w ((ls1.take i).flatMap apL) (Value.slice wo wk wq) a' b' c wc ∧ b'.Ok (i + 1) ∧ Below L wr wc) := hcut
              have HTH : Hid _ := hcut.1.third HHH.out.2.2.2.1 hlt2 (fun W2 h5 => HAL.out.1 W2 (hcut.2.2.trans h5)) hkc (by omega)
              have c2 : wc.cell? ⟨L, 2, none⟩ = some (.pointer (some ⟨c.jb, 0, none⟩)) := (box_cells hcut.1.box).2.2
              clear hcut
              go_wp2_with fail
              refine Calls.mono HTH.out ?_
              rintro e w5 ⟨rfl, c', g1, g2, g3, g4, g5⟩
              clear HTH c2
              have hnx : c'.y.next = a'.y.next := by rw [g4, HA3.out.2.2, HHH.out.2.2.2.2.2.2.1]
              have HRR : Hid (∀ (q j : Nat), j = a'.jb ∨ j = c'.jb → Calls Try.prog 18 #[.pointer (some ⟨j, 0, none⟩)] (w5.drewN q) fun e w' => e = .returned (.int .i64 ((300 - a'.y.next : Nat) : Int)) ∧ ∃ m, w' = (w5.drewN q).drewN m) := fun q j hj => by
                rcases hj with rfl | rfl
                · exact g1.room1 HA3.out.1 (by omega) q
                · rw [← hnx]; exact g1.room3 g2 (by omega) q
              have HG5 : Hid (H3 L L w ((ls1.take i).flatMap apL) (Value.slice wo wk wq) a' b' c' w5 ∧ Below L w w5) := ⟨g1, (HHH.out.2.2.2.2.2.2.2.2.trans HG4.out.2.2).trans g5⟩
              have HAA : Hid (a'.Ok (i + 1) ∧ b'.Ok (i + 1) ∧ c'.Ok (i + 1) ∧ a'.ls = (ls1.take i).flatMap apL ++ apL bs ∧ c'.ls = (ls1.take i).flatMap apL ++ apL bs ∧ a'.y.next = c'.y.next) := ⟨HA3.out.1, HG4.out.2.1, g2, by rw [HA3.out.2.1, HHH.out.2.2.2.2.1], by rw [g3, HHH.out.2.2.2.2.2.1], hnx.symm⟩
              have d0 : w5.cell? ⟨L, 0, none⟩ = some (.pointer (some ⟨a'.jb, 0, none⟩)) := (box_cells g1.box).1
              have d2 : w5.cell? ⟨L, 2, none⟩ = some (.pointer (some ⟨c'.jb, 0, none⟩)) := (box_cells g1.box).2.2
              obtain ⟨rm, hrm⟩ : ∃ rm : Int, rm = ((300 - a'.y.next : Nat) : Int) := ⟨_, rfl⟩
              rw [← hrm] at HRR
              have hkl' := HAL.out.2.2.2.1
              clear hrm hnx g1 g2 g3 g4 g5 HA3 HG4
              by_cases h8 : k ≤ 8192
              · have eC : apC bs = 0 := by unfold apC; rw [if_pos (by rw [HAL.out.2.2.2.1]; exact h8)]
                have eL : apL bs = [bs] := by unfold apL; rw [if_pos (by rw [HAL.out.2.2.2.1]; exact h8)]
                rw [eC]
                have hk8 : ((k : Int) ≤ 8192) := by omega
                have hk9 : decide ((k : Int) ≤ 8192) = true := decide_eq_true hk8
                have HTK : Hid ((ls1.take (i + 1)).flatMap apL = (ls1.take i).flatMap apL ++ [bs]) := by
                  rw [Hid, List.take_add_one, HAL.out.2.2.2.2, List.flatMap_append]
                  simp [eL]
                rw [eL] at HAA
                clear eC eL h8 hkl'
                go_wp2_with fail
                go_quiet (first | (go_at_call 18; refine Calls.quiet_of (HRR.out _ _ (by first | exact Or.inl rfl | exact Or.inr rfl))))
                have HX : Hid (H3 L L w ((ls1.take i).flatMap apL) (Value.slice wo wk wq) a' b' c' (w5.drewN nq) ∧ Below L w (w5.drewN nq)) := ⟨HG5.out.1.drewN nq, below_dr HG5.out.2 nq⟩
                generalize w5.drewN nq = X at HX ⊢
                clear d0 d2 HRR HG5
                obtain ⟨v', w6, hr6, h6, hb6⟩ := HX.out.1.push (by have := HHH.out.2.2.2.2.2.2.2.1; omega) HAL.out.2.1
                have HR6 : Hid (∀ ty, (Builtin.append_ #[30, 30] ty #[.slice wo wk wq, .slice (some ⟨X.heap.size, 0, none⟩) 1 1]).run Try.prog (X.alloc (.cells #[.slice uo k uc] 38)) = .ok v' w6) := hr6
                have HN6 : Hid (H3 L L w ((ls1.take (i + 1)).flatMap apL) v' a' b' c' w6 ∧ Below L w w6) := ⟨by rw [HTK.out]; exact h6, HX.out.2.trans hb6⟩
                obtain ⟨vo', vn', vc', hv'⟩ : ∃ ao n cap, v' = Value.slice ao n cap := by obtain ⟨xs, h7, _⟩ := h6; obtain ⟨ao, cap, e⟩ := tail_val (tail_r h7); exact ⟨ao, _, cap, e⟩
                subst hv'
                clear hr6 h6 hb6 HX
                go_wp2_with (at_builtin; refine wpList_runs rfl _ _ 30 rfl rfl rfl HR6.out ?_)
                go_roundw
                case rel => exact ⟨i + 1, by omega, by omega, by go_num, ⟨_, _, _, rfl⟩, a', b', c', HN6.out.1, HAA.out.1, HAA.out.2.1, HAA.out.2.2.1, by rw [HTK.out]; exact HAA.out.2.2.2.1, by rw [HTK.out]; exact HAA.out.2.2.2.2.1, HAA.out.2.2.2.2.2, by rw [HTK.out, List.length_append]; have := HHH.out.2.2.2.2.2.2.2.1; show _ + 1 ≤ _; omega, HN6.out.2⟩
                case measure => simp [intOf]; omega
              · have eC : apC bs = 2 := by unfold apC; rw [if_neg (by rw [HAL.out.2.2.2.1]; exact h8)]
                have eL : apL bs = [] := by unfold apL; rw [if_neg (by rw [HAL.out.2.2.2.1]; exact h8)]
                rw [eC]
                have hk8 : ¬ ((k : Int) ≤ 8192) := by omega
                have hk9 : decide ((k : Int) ≤ 8192) = false := decide_eq_false hk8
                have HTK : Hid ((ls1.take (i + 1)).flatMap apL = (ls1.take i).flatMap apL ++ []) := by
                  rw [Hid, List.take_add_one, HAL.out.2.2.2.2, List.flatMap_append]
                  simp [eL]
                rw [eL] at HAA
                clear eC eL h8 hkl'
                go_wp2_with fail
                go_quiet (first | (go_at_call 18; refine Calls.quiet_of (HRR.out _ _ (by first | exact Or.inl rfl | exact Or.inr rfl))))
                have HX : Hid (H3 L L w ((ls1.take i).flatMap apL) (Value.slice wo wk wq) a' b' c' (w5.drewN nq) ∧ Below L w (w5.drewN nq)) := ⟨HG5.out.1.drewN nq, below_dr HG5.out.2 nq⟩
                generalize w5.drewN nq = X at HX ⊢
                clear d0 d2 HRR HG5
                go_wp2_with fail
                go_roundw
                case rel => exact ⟨i + 1, by omega, by omega, by go_num, ⟨_, _, _, rfl⟩, a', b', c', by rw [HTK.out, List.append_nil]; exact HX.out.1, HAA.out.1, HAA.out.2.1, HAA.out.2.2.1, by rw [HTK.out]; exact HAA.out.2.2.2.1, by rw [HTK.out]; exact HAA.out.2.2.2.2.1, HAA.out.2.2.2.2.2, by rw [HTK.out, List.append_nil]; have := HHH.out.2.2.2.2.2.2.2.1; omega, HX.out.2⟩
                case measure => simp [intOf]; omega
        · have HEX : Hid (∃ a c : JD, H3 L L w ((ls1.take i).flatMap apL) (Value.slice wo wk wq) a b c wr ∧ True) := ⟨a, c, HHH.out.1, trivial⟩
          have HAB : Hid _ := able_yes wr
          have hbl := HHH.out.2.2.2.2.2.2.2.2
          have HT : Hid (∀ W, Below wr.heap.size wr W → W.cell? ⟨L, 0, none⟩ = some (.pointer (some ⟨a.jb, 0, none⟩)) ∧ W.cell? ⟨L, 2, none⟩ = some (.pointer (some ⟨c.jb, 0, none⟩)) ∧ Calls Try.prog 19 #[.pointer (some ⟨a.jb, 0, none⟩), .slice wo wk wq] W (fun e w' => e = .returned (.bool true) ∧ Below W.heap.size W w') ∧ Calls Try.prog 19 #[.pointer (some ⟨c.jb, 0, none⟩), .slice wo wk wq] W (fun e w' => e = .returned (.bool true) ∧ Below W.heap.size W w')) := fun W hW => by
            have h5 := HHH.out.1.more hW
            have h6 : Below w.heap.size w W := below_lo HLE.out (hbl.trans (hW.mono HHH.out.1.lo))
            exact ⟨(box_cells h5.box).1, (box_cells h5.box).2.2, h5.tells1 HHH.out.2.1 hi HHH.out.2.2.2.2.1 h6, h5.tells3 HHH.out.2.2.2.1 hi HHH.out.2.2.2.2.2.1 h6⟩
          have HBL : Hid (Below L w wr ∧ L ≤ wr.heap.size) := ⟨hbl, HHH.out.1.lo⟩
          clear hbl HEX HHH
          by_cases h1 : i < N1
          · have h2 : ¬ (i < 12) := fun h => hlt ⟨h1, h⟩
            have h1i : (i : Int) < (N1 : Int) := by omega
            have h2i : ¬ ((i : Int) < 12) := by omega
            clear hlt
            go_wp2_with fail
            refine Calls.mono HAB.out ?_
            rintro e wa ⟨rfl, hba⟩
            obtain ⟨c0, _, hc1, _⟩ := HT.out wa hba
            have HC1 : Hid _ := hc1
            have HBA : Hid (Below wr.heap.size wr wa) := hba
            clear HAB hba hc1
            go_wp2_with fail
            refine Calls.mono HC1.out ?_
            rintro e wb ⟨rfl, hbb⟩
            have hbb' : Below wr.heap.size wr wb := HBA.out.trans (hbb.mono HBA.out.size)
            obtain ⟨_, c2, _, hc3⟩ := HT.out wb hbb'
            have HC3 : Hid _ := hc3
            have HBB : Hid (Below wr.heap.size wr wb) := hbb'
            clear HC1 hbb hbb' hc3 c0
            go_wp2_with fail
            refine Calls.mono HC3.out ?_
            rintro e wd ⟨rfl, hbd⟩
            have HF : Hid (Below L w wd) := HBL.out.1.trans ((HBB.out.trans (hbd.mono HBB.out.size)).mono HBL.out.2)
            clear HC3 hbd c2
            go_wp2_with fail
            go_ret
            exact ⟨rfl, HF.out⟩
          · have h1i : ¬ ((i : Int) < (N1 : Int)) := by omega
            clear hlt
            go_wp2_with fail
            refine Calls.mono HAB.out ?_
            rintro e wa ⟨rfl, hba⟩
            obtain ⟨c0, _, hc1, _⟩ := HT.out wa hba
            have HC1 : Hid _ := hc1
            have HBA : Hid (Below wr.heap.size wr wa) := hba
            clear HAB hba hc1
            go_wp2_with fail
            refine Calls.mono HC1.out ?_
            rintro e wb ⟨rfl, hbb⟩
            have hbb' : Below wr.heap.size wr wb := HBA.out.trans (hbb.mono HBA.out.size)
            obtain ⟨_, c2, _, hc3⟩ := HT.out wb hbb'
            have HC3 : Hid _ := hc3
            have HBB : Hid (Below wr.heap.size wr wb) := hbb'
            clear HC1 hbb hbb' hc3 c0
            go_wp2_with fail
            refine Calls.mono HC3.out ?_
            rintro e wd ⟨rfl, hbd⟩
            have HF : Hid (Below L w wd) := HBL.out.1.trans ((HBB.out.trans (hbd.mono HBB.out.size)).mono HBL.out.2)
            clear HC3 hbd c2
            go_wp2_with fail
            go_ret
            exact ⟨rfl, HF.out⟩
end Go.Proofs.Ytjpdcahodmomgaa
