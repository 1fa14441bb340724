import Derived.Test.YtjpdcahodmomgaaJn35
namespace Go.Proofs.Ytjpdcahodmomgaa
open Go.RowKit Go.PlainAid
set_option linter.unusedVariables false
set_option linter.unusedSimpArgs false
set_option maxRecDepth 100000
set_option maxHeartbeats 3200000
theorem have_push {L k : Nat} {R : List (Ent L)} {wr w2 : World} {ho : Option Addr} {hc : Nat} {hs : List (Value × List UInt8)} (hH : Held (haveE L (.slice ho k hc) hs ++ R) wr) (hl : hs.length = k) (hL : L ≤ wr.heap.size) (hk : k ≤ 1000) (hb : Below wr.heap.size wr w2) {u : Value} {bs : List UInt8} (hu : u.oneCell' = true) (hby : By w2 u bs) (hown : ∀ j, u.ownBlock = some j → wr.heap.size ≤ j ∧ j < w2.heap.size) :
    ∃ v' w', (∀ ty, (Builtin.append_ #[30, 30] ty #[.slice ho k hc, .slice (some ⟨w2.heap.size, 0, none⟩) 1 1]).run Try.prog (w2.alloc (.cells #[u] 38)) = .ok v' w') ∧ (∃ ao c, v' = Value.slice ao (k + 1) c) ∧ Held (haveE L v' (hs ++ [(u, bs)]) ++ R) w' ∧ Below L wr w' := by
  have h1 : Held (byE L (u, bs) :: (haveE L (.slice ho k hc) hs ++ R)) w2 := Held.fresh hH hb ⟨hby, fun j hj => by have := hown j hj; exact ⟨by omega, this.2⟩⟩ (fun j hj => (hown j hj).1)
  have h2 : Held (tailE L 38 (.slice ho k hc) k (hs.map Prod.fst) :: (hs.map (byE L) ++ (byE L (u, bs) :: R))) w2 := by
    refine h1.perm ?_
    unfold haveE
    rw [hl]
    refine (List.Perm.swap ..).trans (List.Perm.cons _ ?_)
    exact List.perm_middle.symm
  have hL2 : L ≤ w2.heap.size := Nat.le_trans hL hb.size
  obtain ⟨v', w', hrn, hH2, hc2, hv2, hat2⟩ := h2.tailApp (t := 30) Try.underlying30 info30 rfl u hu (by omega) (by omega) hL2
  refine ⟨v', w', hrn, hv2, ?_, (hb.mono hL).trans (hc2.below hL2 (fun j hj => (tail_lt (h2.all _ (List.mem_cons_self ..)) j hj).1))⟩
  have e1 : haveE L v' (hs ++ [(u, bs)]) ++ R = tailE L 38 v' (k + 1) (hs.map Prod.fst ++ [u]) :: (hs.map (byE L) ++ (byE L (u, bs) :: R)) := by
    unfold haveE
    rw [List.length_append, hl, List.map_append, List.map_append]
    simp
  rw [e1]
  exact hH2
theorem by_cell {w : World} {vo : Option Addr} {n c i : Nat} {bs : List UInt8} (h : By w (.slice vo n c) bs) (hi : i < n) : ∃ b o, vo = some ⟨b, o, none⟩ ∧ w.cell? ⟨b, o + i, none⟩ = some (.int .u8 ((bs.getD i 0).toNat : Int)) := by
  obtain ⟨_, _, _, ev, hvl, hvn, hvc⟩ := h
  cases ev
  have hgb : bs[i]? = some (bs.getD i 0) := by
    rw [List.getD_eq_getElem?_getD, List.getElem?_eq_getElem (by omega), Option.getD_some]
  cases vo with
  | none => have := (hvn rfl).1; omega
  | some ad =>
    have h9 := hvc ad rfl i (B (bs.getD i 0)) (by rw [List.getElem?_map, hgb]; rfl)
    have h0 := hvc ad rfl 0 (B (bs.getD 0 0)) (by rw [List.getElem?_map, List.getD_eq_getElem?_getD, List.getElem?_eq_getElem (by omega)]; rfl)
    rw [show ad.add 0 = ad from rfl] at h0
    obtain ⟨b, off, rfl⟩ := spot_none h0
    exact ⟨b, off, rfl, by rw [addr_add] at h9; exact h9⟩
/-- The bytes between the marks. -/
def bodyL (bs : List UInt8) (place i : Nat) : List UInt8 := (List.range i).map fun j => bs.getD (place * 496 + j) 0
theorem bodyL_len (bs : List UInt8) (place i : Nat) : (bodyL bs place i).length = i := by rw [bodyL, List.length_map, List.length_range]
theorem bodyL_more (bs : List UInt8) (place i : Nat) : bodyL bs place (i + 1) = bodyL bs place i ++ [bs.getD (place * 496 + i) 0] := by
  rw [bodyL, bodyL, List.range_succ, List.map_append, List.map_cons, List.map_nil]
theorem sec_is (m bs : List UInt8) (place : Nat) (hm : m.length = 8) : m ++ bodyL bs place 496 ++ m = secJ m (pieceL bs place) := by
  apply List.ext_getElem?
  intro j
  by_cases h : j < 512
  · have e1 : (secJ m (pieceL bs place))[j]? = some ((secJ m (pieceL bs place)).getD j 0) := by
      rw [List.getD_eq_getElem?_getD, List.getElem?_eq_getElem (by rw [secJ_len]; exact h), Option.getD_some]
    rw [e1, secJ_get _ _ _ h]
    have hg : ∀ i, i < 8 → m[i]? = some (m.getD i 0) := fun i hi => by
      rw [List.getD_eq_getElem?_getD, List.getElem?_eq_getElem (by omega), Option.getD_some]
    by_cases h1 : 504 ≤ j
    · rw [if_pos h1, List.getElem?_append_right (by rw [List.length_append, hm, bodyL_len]; omega), List.length_append, hm, bodyL_len]
      exact hg (j - 504) (by omega)
    · rw [if_neg h1, List.getElem?_append_left (by rw [List.length_append, hm, bodyL_len]; omega)]
      by_cases h2 : j < 8
      · rw [if_pos h2, List.getElem?_append_left (by omega)]
        exact hg j h2
      · rw [if_neg h2, List.getElem?_append_right (by omega), hm, bodyL, List.getElem?_map, List.getElem?_range (by omega), Option.map_some]
        congr 1
        rw [pieceL, List.getD_eq_getElem?_getD, List.getD_eq_getElem?_getD, List.getElem?_take, if_pos (by omega), List.getElem?_drop]
  · rw [List.getElem?_eq_none (by rw [List.length_append, List.length_append, hm, bodyL_len]; omega), List.getElem?_eq_none (by rw [secJ_len]; omega)]
def secsL (num : Nat) (bs : List UInt8) (k : Nat) : List (List UInt8) := (List.range k).map fun i => secJ (markL num i bs.length) (pieceL bs i)
theorem secsL_more (num : Nat) (bs : List UInt8) (k : Nat) : secsL num bs (k + 1) = secsL num bs k ++ [secJ (markL num k bs.length) (pieceL bs k)] := by
  rw [secsL, secsL, List.range_succ, List.map_append, List.map_cons, List.map_nil]
/-- The sectors so far. -/
def ScRel (L : Nat) (R : List (Ent L)) (w : World) (num : Nat) (bs : List UInt8) (k : Nat) (v : Value) (wr : World) : Prop := ∃ ho hc hs, v = Value.slice ho k hc ∧ hs.length = k ∧ hs.map Prod.snd = secsL num bs k ∧ Held (haveE L v hs ++ R) wr ∧ Below L w wr
/-- The sector that is being made. -/
def SiRel (B0 : Nat) (w1 : World) (m bs : List UInt8) (place i : Nat) (v : Value) (wr : World) : Prop := (∃ ao c, v = Value.slice ao (8 + i) c) ∧ wr.ownsRow B0 5 1 v (8 + i) ((m ++ bodyL bs place i).map B) ∧ Below B0 w1 wr
theorem si_next {B0 : Nat} {w1 wr : World} {m bs : List UInt8} {place i : Nat} {ao : Option Addr} {c : Nat} {u : UInt8} (h : SiRel B0 w1 m bs place i (.slice ao (8 + i) c) wr) (hL : B0 ≤ wr.heap.size) (hi : i ≤ 496) (hu : u = bs.getD (place * 496 + i) 0) :
    ∃ v' w', (∀ ty, (Builtin.append_ #[38, 38] ty #[.slice ao (8 + i) c, .slice (some ⟨wr.heap.size, 0, none⟩) 1 1]).run Try.prog (wr.alloc (.cells #[.int .u8 (u.toNat : Int)] 5)) = .ok v' w') ∧ SiRel B0 w1 m bs place (i + 1) v' w' := by
  obtain ⟨v', w', hr, ho, hg⟩ := app_bytesB h.2.1 hL [u] (by show 8 + i + 1 ≤ _; omega)
  obtain ⟨ao', c', e, _⟩ := own_slice ho
  refine ⟨v', w', hr, ⟨ao', c', by rw [e]; rfl⟩, ?_, h.2.2.trans (hg.below (fun q hq => (ownsRow_lt h.2.1 hq).1) hL)⟩
  rw [bodyL_more, ← List.append_assoc, List.map_append, ← hu]
  exact ho
theorem sectors_ref {L : Nat} {R : List (Ent L)} {num vn vc : Nat} {vo : Option Addr} {bs : List UInt8} (w : World) (h : Held R w) (hL : L ≤ w.heap.size) (hb : ∀ W, Below L w W → Held R W → By W (.slice vo vn vc) bs) (hl : bs.length = vn) (hn : vn ≤ 8192) (hnum : num ≤ 100000) :
    Calls Try.prog 60 #[.int .i64 (num : Int), .slice vo vn vc] w fun e w' => ∃ v, e = .returned v ∧ ScRel L R w num bs (kS vn) v w' := by
  have HK : Hid (∀ X : World, Calls Try.prog 46 #[.int .i64 (vn : Int)] X fun e w' => e = .returned (.int .i64 (kS vn : Int)) ∧ w' = X) := fun X => count_any vn X (by omega)
  have hk2 := kS_le vn hn
  obtain ⟨k, hk⟩ : ∃ k, k = kS vn := ⟨_, rfl⟩
  rw [← hk] at HK hk2 ⊢
  have HMK : Hid (∀ (X : World) (i : Nat), i ≤ 17 → Calls Try.prog 65 #[.int .i64 (num : Int), .int .i64 (i : Int), .int .i64 (vn : Int)] X fun e w' => ∃ h, e = .returned (.slice (some ⟨h, 0, none⟩) 8 8) ∧ w'.ownsRow X.heap.size 5 1 (.slice (some ⟨h, 0, none⟩) 8 8) 8 ((markL num i vn).map B) ∧ Below X.heap.size X w') := fun X i hi => rmark_any num i vn X (by omega) (by omega) hn
  have HBY : Hid (∀ W, Below L w W → Held R W → By W (.slice vo vn vc) bs) := hb
  have H1 : Hid (ScRel L R w num bs 0 (.slice none 0 0) w ∧ L ≤ w.heap.size ∧ bs.length = vn) := ⟨⟨none, 0, [], rfl, rfl, rfl, h.add (tail_nil _ _ _) (fun k hk => by cases hk), Below.refl _ _⟩, hL, hl⟩
  clear h hL hb hl hk
  go_enter Try.func60, Try.ntmps60
  go_wp2_with fail
  go_loopw [5, 6] (fun s5 s6 wr => ∃ i : Nat, i ≤ k ∧ s6 = .int .i64 (i : Int) ∧ ScRel L R w num bs i s5 wr) (fun _ s6 _ => k - (intOf s6).toNat)
  case atStart => exact ⟨0, Nat.zero_le _, rfl, H1.out.1⟩
  case round =>
    rename World => W5
    obtain ⟨i, hi, rfl, hS⟩ := hrel
    obtain ⟨ho, hc, hs, rfl, hhl, hhm, hHH, hbl⟩ := id hS
    have HS : Hid (ScRel L R w num bs i (.slice ho i hc) W5) := hS
    have HLW : Hid (L ≤ W5.heap.size) := Nat.le_trans H1.out.2.1 hbl.size
    have HB8 : Hid (∀ W, Below W5.heap.size W5 W → By W (.slice vo vn vc) bs) := fun W hW => HBY.out W (hbl.trans (hW.mono HLW.out)) (Held.tailR (hHH.more hW))
    clear hS hhl hhm hHH hbl
    go_wp2_with fail
    refine Calls.mono (HK.out _) ?_
    rintro e wo ⟨rfl, hwo⟩
    replace hwo := hwo.symm
    subst hwo
    by_cases hik : i < k
    · have hiki : (i : Int) < (k : Int) := by omega
      have hi17 : i ≤ 17 := by omega
      go_wp2_with fail
      refine Calls.mono (HMK.out _ i hi17) ?_
      rintro e w1 ⟨h1, rfl, hm1, hb1⟩
      have HI0 : Hid (SiRel W5.heap.size W5 (markL num i vn) bs i 0 (.slice (some ⟨h1, 0, none⟩) 8 8) w1) := ⟨⟨_, _, rfl⟩, by rw [show bodyL bs i 0 = [] from rfl, List.append_nil]; exact hm1, hb1⟩
      clear hm1 hb1
      go_wp2_with fail
      go_loopw [7, 8] (fun s7 s8 wi => ∃ j : Nat, j ≤ 496 ∧ s8 = .int .i64 (j : Int) ∧ SiRel W5.heap.size W5 (markL num i vn) bs i j s7 wi) (fun _ s8 _ => 496 - (intOf s8).toNat)
      case atStart => exact ⟨0, by omega, rfl, HI0.out⟩
      case round =>
        clear HI0
        obtain ⟨j, hj, rfl, hI⟩ := hrel
        obtain ⟨ao, c, rfl⟩ := hI.1
        have HI : Hid (SiRel W5.heap.size W5 (markL num i vn) bs i j (.slice ao (8 + j) c) wr) := hI
        have HLI : Hid (W5.heap.size ≤ wr.heap.size) := hI.2.2.size
        clear hI
        by_cases hj4 : j < 496
        · have hj4i : (j : Int) < 496 := by omega
          by_cases hin : i * 496 + j < vn
          · have hini : (i : Int) * 496 + (j : Int) < (vn : Int) := by omega
            obtain ⟨b9, o9, rfl, hcell⟩ := by_cell (HB8.out wr HI.out.2.2) hin
            obtain ⟨u, hu⟩ : ∃ u, u = bs.getD (i * 496 + j) 0 := ⟨_, rfl⟩
            rw [← hu] at hcell
            obtain ⟨v', w2, hr2, hI2⟩ := si_next HI.out HLI.out (by omega) hu
            have HR2 : Hid _ := hr2
            have HN : Hid _ := hI2
            obtain ⟨ao', c', hv'⟩ := hI2.1
            have hst : (8 : Nat) + (j + 1) = 8 + j + 1 := rfl
            subst hv'
            clear hu hr2 hI2 hst
            go_wp2_with (at_builtin; refine wpList_runs rfl _ _ 38 rfl rfl rfl HR2.out ?_)
            go_roundw
            case rel => exact ⟨j + 1, by omega, by go_num, HN.out⟩
            case measure => simp [intOf]; omega
          · have hini : ¬ ((i : Int) * 496 + (j : Int) < (vn : Int)) := by omega
            have hu : (0 : UInt8) = bs.getD (i * 496 + j) 0 := by
              rw [List.getD_eq_getElem?_getD, List.getElem?_eq_none (by have := H1.out.2.2; omega)]; rfl
            obtain ⟨v', w2, hr2, hI2⟩ := si_next HI.out HLI.out (by omega) hu
            have HR2 : Hid (∀ ty, (Builtin.append_ #[38, 38] ty #[.slice ao (8 + j) c, .slice (some ⟨wr.heap.size, 0, none⟩) 1 1]).run Try.prog (wr.alloc (.cells #[.int .u8 0] 5)) = .ok v' w2) := hr2
            have HN : Hid _ := hI2
            obtain ⟨ao', c', hv'⟩ := hI2.1
            subst hv'
            clear hu hr2 hI2
            go_wp2_with (at_builtin; refine wpList_runs rfl _ _ 38 rfl rfl rfl HR2.out ?_)
            go_roundw
            case rel => exact ⟨j + 1, by omega, by go_num, HN.out⟩
            case measure => simp [intOf]; omega
        · have hj4i : ¬ ((j : Int) < 496) := by omega
          obtain rfl : j = 496 := by omega
          go_wp2_with fail
          refine Calls.mono (HMK.out _ i hi17) ?_
          rintro e w3 ⟨h3, rfl, hm3, hb3⟩
          have hs3 : w3.ownsRow W5.heap.size 5 1 (.slice ao (8 + 496) c) (8 + 496) ((markL num i vn ++ bodyL bs i 496).map B) := ownsRow_same HI.out.2.1 (fun q hq => hb3.block q (ownsRow_lt HI.out.2.1 hq).2)
          obtain ⟨_, _, _, em, hml, hmn, hmc⟩ := own_by (v := .slice (some ⟨h3, 0, none⟩) 8 8) (s := markL num i vn) hm3
          cases em
          have hb3' : Below W5.heap.size W5 w3 := HI.out.2.2.trans (hb3.mono HLI.out)
          obtain ⟨v4, w4, hr4, ho4, hg4⟩ := app_rows (w := w3) 38 5 (.int .u8 0) 1 1 Try.underlying38 info5' rfl (by decide) (by decide) hs3 (ao := some ⟨h3, 0, none⟩) (m := 8) (cap := 8) (ys := (markL num i vn).map B) rfl hmn hmc (oneB _) (by omega) hb3'.size
          rw [← List.map_append, sec_is _ _ _ (markL_len _ _ _)] at ho4
          have hb4 : Below W5.heap.size W5 w4 := hb3'.trans (hg4.below (fun q hq => (ownsRow_lt hs3 hq).1) hb3'.size)
          obtain ⟨hh, hc', hs', hee, hhl, hhm, hHH, hbl⟩ := HS.out
          cases hee
          have HR4 : Hid (∀ ty, (Builtin.append_ #[38, 38] ty #[.slice ao (8 + 496) c, .slice (some ⟨h3, 0, none⟩) 8 8]).run Try.prog w3 = .ok v4 w4) := hr4
          obtain ⟨ao4, c4, hv4, _⟩ := own_slice ho4
          have hby4 : By w4 v4 (secJ (markL num i vn) (pieceL bs i)) := by
            have := own_by (v := v4) (s := secJ (markL num i vn) (pieceL bs i)) (w := w4) (L := W5.heap.size) (by rw [secJ_len]; exact ho4)
            exact this
          obtain ⟨v5, w5, hr5, hv5, hH5, hb5⟩ := have_push hHH hhl HLW.out (by omega) hb4 (by rw [hv4]; rfl) hby4 (fun q hq => ownsRow_lt ho4 hq)
          have HR5 : Hid (∀ ty, (Builtin.append_ #[30, 30] ty #[.slice ho i hc, .slice (some ⟨w4.heap.size, 0, none⟩) 1 1]).run Try.prog (w4.alloc (.cells #[v4] 38)) = .ok v5 w5) := hr5
          obtain ⟨ao5, c5, hv5⟩ := hv5
          have HN : Hid (ScRel L R w num bs (i + 1) v5 w5) := ⟨ao5, c5, hs' ++ [(v4, secJ (markL num i vn) (pieceL bs i))], hv5, by rw [List.length_append, hhl]; rfl, by rw [List.map_append, hhm, secsL_more, H1.out.2.2]; rfl, hH5, hbl.trans hb5⟩
          subst hv4
          subst hv5
          clear hm3 hb3 hs3 hml hmn hmc hb3' hr4 ho4 hg4 hb4 hhl hhm hHH hbl hby4 hr5 hH5 hb5
          go_wp2_with (at_builtin; first | refine wpList_runs rfl _ _ 38 rfl rfl rfl HR4.out ?_ | refine wpList_runs rfl _ _ 30 rfl rfl rfl HR5.out ?_)
          go_roundw
          case rel => exact ⟨i + 1, by omega, by go_num, HN.out⟩
          case measure => simp [intOf]; omega
    · have hiki : ¬ ((i : Int) < (k : Int)) := by omega
      obtain rfl : i = k := by omega
      go_wp2_with fail
      go_ret
      exact ⟨_, rfl, HS.out⟩
end Go.Proofs.Ytjpdcahodmomgaa
