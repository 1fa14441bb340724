import Derived.Test.YtcnokgphioigoaaJJ
import Derived.Test.YtcnokgphioigoaaJI
import Derived.BigQuiet
import Derived.Deep.Cut
import Derived.Deep.RegionWith
namespace Go.Proofs.Ytcnokgphioigoaa
open Go.RowKit Go.PlainAid
set_option linter.unusedVariables false
set_option linter.unusedSimpArgs false
set_option maxRecDepth 100000
set_option maxHeartbeats 3200000
theorem have_push {L k : Nat} {R : List (Ent L)} {wr w2 : World} {ho : Option Addr} {hc : Nat} {hs : List (Value × List UInt8)} (hH : Held (haveE L (.slice ho k hc) hs ++ R) wr) (hl : hs.length = k) (hL : L ≤ wr.heap.size) (hk : k ≤ 1000) (hb : Below wr.heap.size wr w2) {u : Value} {bs : List UInt8} (hu : u.oneCell' = true) (hby : By w2 u bs) (hown : ∀ j, u.ownBlock = some j → wr.heap.size ≤ j ∧ j < w2.heap.size) :
    ∃ v' w', (∀ ty, (Builtin.append_ #[30, 30] ty #[.slice ho k hc, .slice (some ⟨w2.heap.size, 0, none⟩) 1 1]).run Try.prog (w2.alloc (.cells #[u] 38)) = .ok v' w') ∧ (∃ ao c, v' = Value.slice ao (k + 1) c) ∧ Held (haveE L v' (hs ++ [(u, bs)]) ++ R) w' ∧ Below L wr w' := by
  have h1 : Held (byE L (u, bs) :: (haveE L (.slice ho k hc) hs ++ R)) w2 := Held.fresh hH hb ⟨hby, fun j hj => by have := hown j hj; exact ⟨by omega, this.2⟩⟩ (fun j hj => (hown j hj).1)
  have h2 : Held (tailE L 38 (.slice ho k hc) k (hs.map Prod.fst) :: (hs.map (byE L) ++ (byE L (u, bs) :: R))) w2 := by
    refine h1.perm ?_
    unfold haveE
    rw [hl]
    refine (List.Perm.swap ..).trans (List.Perm.cons _ ?_)
    exact List.perm_middle.symm
  have hL2 : L ≤ w2.heap.size := Nat.le_trans hL hb.size
  obtain ⟨v', w', hrn, hH2, hc2, hv2, hat2⟩ := h2.tailApp (t := 30) Try.underlying30 info30 rfl u hu (by omega) (by omega) hL2
  refine ⟨v', w', hrn, hv2, ?_, (hb.mono hL).trans (hc2.below hL2 (fun j hj => (tail_lt (h2.all _ (List.mem_cons_self ..)) j hj).1))⟩
  have e1 : haveE L v' (hs ++ [(u, bs)]) ++ R = tailE L 38 v' (k + 1) (hs.map Prod.fst ++ [u]) :: (hs.map (byE L) ++ (byE L (u, bs) :: R)) := by
    unfold haveE
    rw [List.length_append, hl, List.map_append, List.map_append]
    simp
  rw [e1]
  exact hH2
theorem by_cell {w : World} {vo : Option Addr} {n c i : Nat} {bs : List UInt8} (h : By w (.slice vo n c) bs) (hi : i < n) : ∃ b o, vo = some ⟨b, o, none⟩ ∧ w.cell? ⟨b, o + i, none⟩ = some (.int .u8 ((bs.getD i 0).toNat : Int)) := by
  obtain ⟨_, _, _, ev, hvl, hvn, hvc⟩ := h
  cases ev
  have hgb : bs[i]? = some (bs.getD i 0) := by
    rw [List.getD_eq_getElem?_getD, List.getElem?_eq_getElem (by omega), Option.getD_some]
  cases vo with
  | none => have := (hvn rfl).1; omega
  | some ad =>
    have h9 := hvc ad rfl i (B (bs.getD i 0)) (by rw [List.getElem?_map, hgb]; rfl)
    have h0 := hvc ad rfl 0 (B (bs.getD 0 0)) (by rw [List.getElem?_map, List.getD_eq_getElem?_getD, List.getElem?_eq_getElem (by omega)]; rfl)
    rw [show ad.add 0 = ad from rfl] at h0
    obtain ⟨b, off, rfl⟩ := spot_none h0
    exact ⟨b, off, rfl, by rw [addr_add] at h9; exact h9⟩
/-- The bytes between the marks. -/
def bodyL (bs : List UInt8) (place i : Nat) : List UInt8 := (List.range i).map fun j => bs.getD (place * 496 + j) 0
theorem bodyL_len (bs : List UInt8) (place i : Nat) : (bodyL bs place i).length = i := by rw [bodyL, List.length_map, List.length_range]
theorem bodyL_more (bs : List UInt8) (place i : Nat) : bodyL bs place (i + 1) = bodyL bs place i ++ [bs.getD (place * 496 + i) 0] := by
  rw [bodyL, bodyL, List.range_succ, List.map_append, List.map_cons, List.map_nil]
theorem sec_is (m bs : List UInt8) (place : Nat) (hm : m.length = 8) : m ++ bodyL bs place 496 ++ m = secJ m (pieceL bs place) := by
  apply List.ext_getElem?
  intro j
  by_cases h : j < 512
  · have e1 : (secJ m (pieceL bs place))[j]? = some ((secJ m (pieceL bs place)).getD j 0) := by
      rw [List.getD_eq_getElem?_getD, List.getElem?_eq_getElem (by rw [secJ_len]; exact h), Option.getD_some]
    rw [e1, secJ_get _ _ _ h]
    have hg : ∀ i, i < 8 → m[i]? = some (m.getD i 0) := fun i hi => by
      rw [List.getD_eq_getElem?_getD, List.getElem?_eq_getElem (by omega), Option.getD_some]
    by_cases h1 : 504 ≤ j
    · rw [if_pos h1, List.getElem?_append_right (by rw [List.length_append, hm, bodyL_len]; omega), List.length_append, hm, bodyL_len]
      exact hg (j - 504) (by omega)
    · rw [if_neg h1, List.getElem?_append_left (by rw [List.length_append, hm, bodyL_len]; omega)]
      by_cases h2 : j < 8
      · rw [if_pos h2, List.getElem?_append_left (by omega)]
        exact hg j h2
      · rw [if_neg h2, List.getElem?_append_right (by omega), hm, bodyL, List.getElem?_map, List.getElem?_range (by omega), Option.map_some]
        congr 1
        rw [pieceL, List.getD_eq_getElem?_getD, List.getD_eq_getElem?_getD, List.getElem?_take, if_pos (by omega), List.getElem?_drop]
  · rw [List.getElem?_eq_none (by rw [List.length_append, List.length_append, hm, bodyL_len]; omega), List.getElem?_eq_none (by rw [secJ_len]; omega)]
def secsL (num : Nat) (bs : List UInt8) (k : Nat) : List (List UInt8) := (List.range k).map fun i => secJ (markL num i bs.length) (pieceL bs i)
theorem secsL_more (num : Nat) (bs : List UInt8) (k : Nat) : secsL num bs (k + 1) = secsL num bs k ++ [secJ (markL num k bs.length) (pieceL bs k)] := by
  rw [secsL, secsL, List.range_succ, List.map_append, List.map_cons, List.map_nil]
/-- The sectors so far. -/
def ScRel (L : Nat) (R : List (Ent L)) (w : World) (num : Nat) (bs : List UInt8) (k : Nat) (v : Value) (wr : World) : Prop := ∃ ho hc hs, v = Value.slice ho k hc ∧ hs.length = k ∧ hs.map Prod.snd = secsL num bs k ∧ Held (haveE L v hs ++ R) wr ∧ Below L w wr
/-- The sector that is being made. -/
def SiRel (B0 : Nat) (w1 : World) (m bs : List UInt8) (place i : Nat) (v : Value) (wr : World) : Prop := (∃ ao c, v = Value.slice ao (8 + i) c) ∧ wr.ownsRow B0 5 1 v (8 + i) ((m ++ bodyL bs place i).map B) ∧ Below B0 w1 wr
theorem si_next {B0 : Nat} {w1 wr : World} {m bs : List UInt8} {place i : Nat} {ao : Option Addr} {c : Nat} {u : UInt8} (h : SiRel B0 w1 m bs place i (.slice ao (8 + i) c) wr) (hL : B0 ≤ wr.heap.size) (hi : i ≤ 496) (hu : u = bs.getD (place * 496 + i) 0) :
    ∃ v' w', (∀ ty, (Builtin.append_ #[38, 38] ty #[.slice ao (8 + i) c, .slice (some ⟨wr.heap.size, 0, none⟩) 1 1]).run Try.prog (wr.alloc (.cells #[.int .u8 (u.toNat : Int)] 5)) = .ok v' w') ∧ SiRel B0 w1 m bs place (i + 1) v' w' := by
  obtain ⟨v', w', hr, ho, hg⟩ := app_bytesB h.2.1 hL [u] (by show 8 + i + 1 ≤ _; omega)
  obtain ⟨ao', c', e, _⟩ := own_slice ho
  refine ⟨v', w', hr, ⟨ao', c', by rw [e]; rfl⟩, ?_, h.2.2.trans (hg.below (fun q hq => (ownsRow_lt h.2.1 hq).1) hL)⟩
  rw [bodyL_more, ← List.append_assoc, List.map_append, ← hu]
  exact ho
theorem sectors_ref {L : Nat} {R : List (Ent L)} {num vn vc : Nat} {vo : Option Addr} {bs : List UInt8} (w : World) (h : Held R w) (hL : L ≤ w.heap.size) (hb : ∀ W, Below L w W → Held R W → By W (.slice vo vn vc) bs) (hl : bs.length = vn) (hn : vn ≤ 8192) (hnum : num ≤ 100000) :
    Calls Try.prog 65 #[.int .i64 (num : Int), .slice vo vn vc] w fun e w' => ∃ v, e = .returned v ∧ ScRel L R w num bs (kS vn) v w' := by
  have HK : Hid (∀ X : World, Calls Try.prog 59 #[.int .i64 (vn : Int)] X fun e w' => e = .returned (.int .i64 (kS vn : Int)) ∧ w' = X) := fun X => count_any vn X (by omega)
  have hk2 := kS_le vn hn
  obtain ⟨k, hk⟩ : ∃ k, k = kS vn := ⟨_, rfl⟩
  rw [← hk] at HK hk2 ⊢
  have HMK : Hid (∀ (X : World) (i : Nat), i ≤ 17 → Calls Try.prog 70 #[.int .i64 (num : Int), .int .i64 (i : Int), .int .i64 (vn : Int)] X fun e w' => ∃ h, e = .returned (.slice (some ⟨h, 0, none⟩) 8 8) ∧ w'.ownsRow X.heap.size 5 1 (.slice (some ⟨h, 0, none⟩) 8 8) 8 ((markL num i vn).map B) ∧ Below X.heap.size X w') := fun X i hi => rmark_any num i vn X (by omega) (by omega) hn
  have HBY : Hid (∀ W, Below L w W → Held R W → By W (.slice vo vn vc) bs) := hb
  have H1 : Hid (ScRel L R w num bs 0 (.slice none 0 0) w ∧ L ≤ w.heap.size ∧ bs.length = vn) := ⟨⟨none, 0, [], rfl, rfl, rfl, h.add (tail_nil _ _ _) (fun k hk => by cases hk), Below.refl _ _⟩, hL, hl⟩
  clear h hL hb hl hk
  go_enter Try.func65, Try.ntmps65
  go_wp2_with fail
  go_loopw [5, 6] (fun s5 s6 wr => ∃ i : Nat, i ≤ k ∧ s6 = .int .i64 (i : Int) ∧ ScRel L R w num bs i s5 wr) (fun _ s6 _ => k - (intOf s6).toNat)
  case atStart => exact ⟨0, Nat.zero_le _, rfl, H1.out.1⟩
  case round =>
    rename World => W5
    obtain ⟨i, hi, rfl, hS⟩ := hrel
    obtain ⟨ho, hc, hs, rfl, hhl, hhm, hHH, hbl⟩ := id hS
    have HS : Hid (ScRel L R w num bs i (.slice ho i hc) W5) := hS
    have HLW : Hid (L ≤ W5.heap.size) := Nat.le_trans H1.out.2.1 hbl.size
    have HB8 : Hid (∀ W, Below W5.heap.size W5 W → By W (.slice vo vn vc) bs) := fun W hW => HBY.out W (hbl.trans (hW.mono HLW.out)) (Held.tailR (hHH.more hW))
    clear hS hhl hhm hHH hbl
    go_wp2_with fail
    refine Calls.mono (HK.out _) ?_
    rintro e wo ⟨rfl, hwo⟩
    replace hwo := hwo.symm
    subst hwo
    by_cases hik : i < k
    · have hiki : (i : Int) < (k : Int) := by omega
      have hi17 : i ≤ 17 := by omega
      go_wp2_with fail
      refine Calls.mono (HMK.out _ i hi17) ?_
      rintro e w1 ⟨h1, rfl, hm1, hb1⟩
      have HI0 : Hid (SiRel W5.heap.size W5 (markL num i vn) bs i 0 (.slice (some ⟨h1, 0, none⟩) 8 8) w1) := ⟨⟨_, _, rfl⟩, by rw [show bodyL bs i 0 = [] from rfl, List.append_nil]; exact hm1, hb1⟩
      clear hm1 hb1
      go_wp2_with fail
      go_loopw [7, 8] (fun s7 s8 wi => ∃ j : Nat, j ≤ 496 ∧ s8 = .int .i64 (j : Int) ∧ SiRel W5.heap.size W5 (markL num i vn) bs i j s7 wi) (fun _ s8 _ => 496 - (intOf s8).toNat)
      case atStart => exact ⟨0, by omega, rfl, HI0.out⟩
      case round =>
        clear HI0
        obtain ⟨j, hj, rfl, hI⟩ := hrel
        obtain ⟨ao, c, rfl⟩ := hI.1
        have HI : Hid (SiRel W5.heap.size W5 (markL num i vn) bs i j (.slice ao (8 + j) c) wr) := hI
        have HLI : Hid (W5.heap.size ≤ wr.heap.size) := hI.2.2.size
        clear hI
        by_cases hj4 : j < 496
        · have hj4i : (j : Int) < 496 := by omega
          by_cases hin : i * 496 + j < vn
          · have hini : (i : Int) * 496 + (j : Int) < (vn : Int) := by omega
            obtain ⟨b9, o9, rfl, hcell⟩ := by_cell (HB8.out wr HI.out.2.2) hin
            obtain ⟨u, hu⟩ : ∃ u, u = bs.getD (i * 496 + j) 0 := ⟨_, rfl⟩
            rw [← hu] at hcell
            obtain ⟨v', w2, hr2, hI2⟩ := si_next HI.out HLI.out (by omega) hu
            have HR2 : Hid _ := hr2
            have HN : Hid _ := hI2
            obtain ⟨ao', c', hv'⟩ := hI2.1
            have hst : (8 : Nat) + (j + 1) = 8 + j + 1 := rfl
            subst hv'
            clear hu hr2 hI2 hst
            go_wp2_with (at_builtin; refine wpList_runs rfl _ _ 38 rfl rfl rfl HR2.out ?_)
            go_roundw
            case rel => exact ⟨j + 1, by omega, by go_num, HN.out⟩
            case measure => simp [intOf]; omega
          · have hini : ¬ ((i : Int) * 496 + (j : Int) < (vn : Int)) := by omega
            have hu : (0 : UInt8) = bs.getD (i * 496 + j) 0 := by
              rw [List.getD_eq_getElem?_getD, List.getElem?_eq_none (by have := H1.out.2.2; omega)]; rfl
            obtain ⟨v', w2, hr2, hI2⟩ := si_next HI.out HLI.out (by omega) hu
            have HR2 : Hid (∀ ty, (Builtin.append_ #[38, 38] ty #[.slice ao (8 + j) c, .slice (some ⟨wr.heap.size, 0, none⟩) 1 1]).run Try.prog (wr.alloc (.cells #[.int .u8 0] 5)) = .ok v' w2) := hr2
            have HN : Hid _ := hI2
            obtain ⟨ao', c', hv'⟩ := hI2.1
            subst hv'
            clear hu hr2 hI2
            go_wp2_with (at_builtin; refine wpList_runs rfl _ _ 38 rfl rfl rfl HR2.out ?_)
            go_roundw
            case rel => exact ⟨j + 1, by omega, by go_num, HN.out⟩
            case measure => simp [intOf]; omega
        · have hj4i : ¬ ((j : Int) < 496) := by omega
          obtain rfl : j = 496 := by omega
          go_wp2_with fail
          refine Calls.mono (HMK.out _ i hi17) ?_
          rintro e w3 ⟨h3, rfl, hm3, hb3⟩
          have hs3 : w3.ownsRow W5.heap.size 5 1 (.slice ao (8 + 496) c) (8 + 496) ((markL num i vn ++ bodyL bs i 496).map B) := ownsRow_same HI.out.2.1 (fun q hq => hb3.block q (ownsRow_lt HI.out.2.1 hq).2)
          obtain ⟨_, _, _, em, hml, hmn, hmc⟩ := own_by (v := .slice (some ⟨h3, 0, none⟩) 8 8) (s := markL num i vn) hm3
          cases em
          have hb3' : Below W5.heap.size W5 w3 := HI.out.2.2.trans (hb3.mono HLI.out)
          obtain ⟨v4, w4, hr4, ho4, hg4⟩ := app_rows (w := w3) 38 5 (.int .u8 0) 1 1 Try.underlying38 info5' rfl (by decide) (by decide) hs3 (ao := some ⟨h3, 0, none⟩) (m := 8) (cap := 8) (ys := (markL num i vn).map B) rfl hmn hmc (oneB _) (by omega) hb3'.size
          rw [← List.map_append, sec_is _ _ _ (markL_len _ _ _)] at ho4
          have hb4 : Below W5.heap.size W5 w4 := hb3'.trans (hg4.below (fun q hq => (ownsRow_lt hs3 hq).1) hb3'.size)
          obtain ⟨hh, hc', hs', hee, hhl, hhm, hHH, hbl⟩ := HS.out
          cases hee
          have HR4 : Hid (∀ ty, (Builtin.append_ #[38, 38] ty #[.slice ao (8 + 496) c, .slice (some ⟨h3, 0, none⟩) 8 8]).run Try.prog w3 = .ok v4 w4) := hr4
          obtain ⟨ao4, c4, hv4, _⟩ := own_slice ho4
          have hby4 : By w4 v4 (secJ (markL num i vn) (pieceL bs i)) := by
            have := own_by (v := v4) (s := secJ (markL num i vn) (pieceL bs i)) (w := w4) (L := W5.heap.size) (by rw [secJ_len]; exact ho4)
            exact this
          obtain ⟨v5, w5, hr5, hv5, hH5, hb5⟩ := have_push hHH hhl HLW.out (by omega) hb4 (by rw [hv4]; rfl) hby4 (fun q hq => ownsRow_lt ho4 hq)
          have HR5 : Hid (∀ ty, (Builtin.append_ #[30, 30] ty #[.slice ho i hc, .slice (some ⟨w4.heap.size, 0, none⟩) 1 1]).run Try.prog (w4.alloc (.cells #[v4] 38)) = .ok v5 w5) := hr5
          obtain ⟨ao5, c5, hv5⟩ := hv5
          have HN : Hid (ScRel L R w num bs (i + 1) v5 w5) := ⟨ao5, c5, hs' ++ [(v4, secJ (markL num i vn) (pieceL bs i))], hv5, by rw [List.length_append, hhl]; rfl, by rw [List.map_append, hhm, secsL_more, H1.out.2.2]; rfl, hH5, hbl.trans hb5⟩
          subst hv4
          subst hv5
          clear hm3 hb3 hs3 hml hmn hmc hb3' hr4 ho4 hg4 hb4 hhl hhm hHH hbl hby4 hr5 hH5 hb5
          go_wp2_with (at_builtin; first | refine wpList_runs rfl _ _ 38 rfl rfl rfl HR4.out ?_ | refine wpList_runs rfl _ _ 30 rfl rfl rfl HR5.out ?_)
          go_roundw
          case rel => exact ⟨i + 1, by omega, by go_num, HN.out⟩
          case measure => simp [intOf]; omega
    · have hiki : ¬ ((i : Int) < (k : Int)) := by omega
      obtain rfl : i = k := by omega
      go_wp2_with fail
      go_ret
      exact ⟨_, rfl, HS.out⟩
end Go.Proofs.Ytcnokgphioigoaa
namespace Go.Proofs.Ytcnokgphioigoaa
open Go.RowKit Go.PlainAid
set_option linter.unusedVariables false
set_option linter.unusedSimpArgs false
set_option maxRecDepth 100000
set_option maxHeartbeats 3200000
theorem by_cellW {w : World} {vo : Option Addr} {n c i : Nat} {bs : List UInt8} (h : By w (.slice vo n c) bs) (hi : i < n) : ∃ b o, vo = some ⟨b, o, none⟩ ∧ w.cell? ⟨b, o + i, none⟩ = some (.int .u8 ((bs.getD i 0).toNat : Int)) := by
  obtain ⟨_, _, _, ev, hvl, hvn, hvc⟩ := h
  cases ev
  have hgb : bs[i]? = some (bs.getD i 0) := by
    rw [List.getD_eq_getElem?_getD, List.getElem?_eq_getElem (by omega), Option.getD_some]
  cases vo with
  | none => have := (hvn rfl).1; omega
  | some ad =>
    have h9 := hvc ad rfl i (B (bs.getD i 0)) (by rw [List.getElem?_map, hgb]; rfl)
    have h0 := hvc ad rfl 0 (B (bs.getD 0 0)) (by rw [List.getElem?_map, List.getD_eq_getElem?_getD, List.getElem?_eq_getElem (by omega)]; rfl)
    rw [show ad.add 0 = ad from rfl] at h0
    obtain ⟨b, off, rfl⟩ := spot_none h0
    exact ⟨b, off, rfl, by rw [addr_add] at h9; exact h9⟩
theorem imgL_put (x : DV) (at' i : Nat) (bs : List UInt8) (ha : at' < x.n) (hi : i < 512) : imgL (x.put at' (i + 1) bs) = (imgL (x.put at' i bs)).set (at' * 512 + i) (bs.getD i 0) := by
  apply List.ext_getElem?
  intro j
  have hn : ∀ m, (x.put at' m bs).n = x.n := fun _ => rfl
  by_cases h : j < 512 * x.n
  · rw [imgL_get _ _ (by rw [hn]; exact h)]
    by_cases e : at' * 512 + i = j
    · rw [List.getElem?_set, if_pos e, if_pos (by rw [imgL_len, hn]; omega)]
      show some (if at' * 512 ≤ j ∧ j < at' * 512 + (i + 1) then bs.getD (j - at' * 512) 0 else x.b j) = _
      rw [if_pos (by omega), show j - at' * 512 = i by omega]
    · rw [List.getElem?_set_ne e, imgL_get _ _ (by rw [hn]; exact h)]
      show some (if at' * 512 ≤ j ∧ j < at' * 512 + (i + 1) then bs.getD (j - at' * 512) 0 else x.b j) = some (if at' * 512 ≤ j ∧ j < at' * 512 + i then bs.getD (j - at' * 512) 0 else x.b j)
      by_cases h2 : at' * 512 ≤ j ∧ j < at' * 512 + i
      · rw [if_pos (by omega), if_pos h2]
      · rw [if_neg (by omega), if_neg h2]
  · rw [List.getElem?_eq_none (by rw [imgL_len, hn]; omega), List.getElem?_eq_none (by rw [List.length_set, imgL_len, hn]; omega)]
theorem imgL_put0 (x : DV) (at' : Nat) (bs : List UInt8) : imgL (x.put at' 0 bs) = imgL x := by
  have e : (x.put at' 0 bs).b = x.b := by
    funext k
    show (if at' * 512 ≤ k ∧ k < at' * 512 + 0 then bs.getD (k - at' * 512) 0 else x.b k) = x.b k
    rw [if_neg (by omega)]
  unfold imgL
  rw [e]
  rfl
theorem written_any {L kb p sb at' sn sc : Nat} {x : DV} {jv iv hv : Value} {torn : Int} {next : Nat} {dead : Bool} {so : Option Addr} {bs : List UInt8} {R : List (Ent L)} (left : Int) (w : World) (h : Held (boxE L kb (deskC p jv iv true left torn hv next dead sb) 64 :: imE L iv x :: R) w) (hb : ∀ W, Below L w W → Held R W → By W (.slice so sn sc) bs) (hsn : sn = 512) (ha : at' < x.n) (hn : 1 ≤ x.n) (hxn : x.n ≤ 1000) (hleft : left = -1) :
    Calls Try.prog 66 #[.pointer (some ⟨kb, 0, none⟩), .int .i64 (at' : Int), .slice so sn sc] w fun e w' => e = .returned (.bool true) ∧ Held (boxE L kb (deskC p jv iv true (-2) torn hv next dead sb) 64 :: imE L iv (x.put at' 512 bs) :: R) w' ∧ Below L w w' := by
  subst hleft
  subst hsn
  have c4 : w.cell? ⟨kb, 4, none⟩ = some (.int .i64 (-1)) := h.boxB.cell 4
  have hrow : w.ownsRow L 5 1 iv (x.n * 512) ((imgL x).map B) := h.all (imE L iv x) (by simp)
  obtain ⟨ig, ic, hiv, hic, _⟩ := im_lit hrow hn
  have hL : L ≤ w.heap.size := h.lowL (k := kb) rfl
  have H0 : Hid (Held (boxE L kb (deskC p jv iv true (-1) torn hv next dead sb) 64 :: imE L iv (x.put at' 0 bs) :: R) w ∧ L ≤ w.heap.size) := ⟨Held.at (pre := [boxE L kb (deskC p jv iv true (-1) torn hv next dead sb) 64]) (e := imE L iv x) (e' := imE L iv (x.put at' 0 bs)) h (Chg.refl _ w) (by
    show w.ownsRow L 5 1 iv (x.n * 512) ((imgL (x.put at' 0 bs)).map B)
    rw [imgL_put0]; exact hrow) (fun j hj => Or.inl hj), hL⟩
  have HB : Hid _ := hb
  have HIV : Hid (iv = .slice (some ⟨ig, 0, none⟩) (x.n * 512) ic) := hiv
  clear h hrow hb hL hiv
  go_enter Try.func66, Try.ntmps66
  go_wp2_with fail
  go_loopw [8] (fun s8 wr => ∃ i : Nat, i ≤ 512 ∧ s8 = .int .i64 (i : Int) ∧ Held (boxE L kb (deskC p jv iv true (-1) torn hv next dead sb) 64 :: imE L iv (x.put at' i bs) :: R) wr ∧ Below L w wr) (fun s8 _ => 512 - (intOf s8).toNat)
  case atStart => exact ⟨0, by omega, rfl, H0.out.1, Below.refl _ _⟩
  case round =>
    obtain ⟨i, hi, rfl, hH, hbl⟩ := hrel
    by_cases hlt : i < 512
    · have hlti : (i : Int) < 512 := by omega
      have hrow : wr.ownsRow L 5 1 iv (x.n * 512) ((imgL (x.put at' i bs)).map B) := hH.all (imE L iv (x.put at' i bs)) (by simp)
      obtain ⟨b9, o9, rfl, hcell⟩ := by_cellW (HB.out wr hbl hH.drop.drop) hlt
      have d2 : wr.cell? ⟨kb, 2, none⟩ = some (.slice (some ⟨ig, 0, none⟩) (x.n * 512) ic) := by rw [← HIV.out]; exact hH.boxB.cell 2
      rw [HIV.out] at hrow
      have hx : ∃ v, wr.cell? ⟨ig, at' * 512 + i, none⟩ = some v := by
        have hl9 : (imgL (x.put at' i bs)).length = 512 * x.n := by rw [imgL_len]; rfl
        have := hrow.cells (g := ig) rfl (at' * 512 + i) (B ((imgL (x.put at' i bs))[at' * 512 + i]'(by omega))) (by rw [List.getElem?_map, List.getElem?_eq_getElem (by omega)]; rfl)
        rw [addr_add, Nat.zero_add] at this
        exact ⟨_, this⟩
      obtain ⟨v9, hx⟩ := hx
      obtain ⟨u, hu⟩ : ∃ u, u = bs.getD i 0 := ⟨_, rfl⟩
      have HN : Hid (∀ q, Held (boxE L kb (deskC p jv iv true (-1) torn hv next dead sb) 64 :: imE L iv (x.put at' (i + 1) bs) :: R) ((wr.drewN q).setCell ⟨ig, at' * 512 + i, none⟩ (.int .u8 (u.toNat : Int))) ∧ Below L w ((wr.drewN q).setCell ⟨ig, at' * 512 + i, none⟩ (.int .u8 (u.toNat : Int)))) := fun q => by
        have hrq : (wr.drewN q).ownsRow L 5 1 (.slice (some ⟨ig, 0, none⟩) (x.n * 512) ic) (x.n * 512) ((imgL (x.put at' i bs)).map B) := ownsRow_same hrow (fun _ _ => rfl)
        have h5 := (own_setB (k := at' * 512 + i) hrq u).1
        rw [hu, ← imgL_put x at' i bs ha hlt, ← HIV.out, ← hu] at h5
        have h6 := hH.drewN q
        have hgi : ∀ j, (imE L iv (x.put at' i bs)).bl j ↔ j = ig := fun j => by
          show iv.ownBlock = some j ↔ j = ig
          rw [HIV.out]
          exact ⟨fun e => by cases e; rfl, fun e => by rw [e]; rfl⟩
        refine ⟨Held.at (pre := [_]) (e := imE L iv (x.put at' i bs)) (e' := imE L iv (x.put at' (i + 1) bs)) h6 ((setCell_chg _ _ _ _).mono (fun j _ e => (hgi j).2 e)) h5 (fun j hj => Or.inl hj), (below_dr hbl q).trans ((setCell_chg _ _ _ _).below (by have := hH.lowL (k := kb) rfl; exact this) (fun j e => by rw [e]; exact (ownsRow_lt hrow rfl).1))⟩
      have hf : wr.frozen? ⟨ig, at' * 512 + i, none⟩ = false := (own_setB (k := at' * 512 + i) hrow u).2
      rw [← hu] at hcell
      clear hrow hu hH hbl
      go_wp2_with fail
      go_region
      all_goals
        go_wp2_with fail
        go_roundw
        case rel => exact ⟨i + 1, by omega, by go_num, by first | exact HN.out 1 | exact HN.out 0⟩
        case measure => simp [intOf]; omega
    · have hlti : ¬ ((i : Int) < 512) := by omega
      obtain rfl : i = 512 := by omega
      have d4 : wr.cell? ⟨kb, 4, none⟩ = some (.int .i64 (-1)) := hH.boxB.cell 4
      have f4 : wr.frozen? ⟨kb, 4, none⟩ = false := hH.boxB.frozen 4
      have d3 : (wr.setCell ⟨kb, 4, none⟩ (.int .i64 (-2))).cell? ⟨kb, 3, none⟩ = some (.bool true) := (hH.boxSet 4 (.int .i64 (-2))).boxB.cell 3
      have HN : Hid (Held (boxE L kb (deskC p jv iv true (-2) torn hv next dead sb) 64 :: imE L iv (x.put at' 512 bs) :: R) (wr.setCell ⟨kb, 4, none⟩ (.int .i64 (-2))) ∧ Below L w (wr.setCell ⟨kb, 4, none⟩ (.int .i64 (-2)))) := ⟨hH.boxSet 4 (.int .i64 (-2)), hbl.trans ((setCell_chg _ _ _ _).below (hH.lowL (k := kb) rfl) (fun j e => by rw [e]; exact (hH.all _ (List.mem_cons_self ..)).2))⟩
      clear hH hbl
      go_wp2_with fail
      go_ret
      exact ⟨rfl, HN.out.1, HN.out.2⟩
end Go.Proofs.Ytcnokgphioigoaa
namespace Go.Proofs.Ytcnokgphioigoaa
open Go.RowKit Go.PlainAid
set_option linter.unusedVariables false
set_option linter.unusedSimpArgs false
def ptrA (js : List JD) (k : Nat) : Value := match js[k]? with
  | some j => .pointer (some ⟨j.jb, 0, none⟩)
  | none => .pointer none
def arrA (js : List JD) : Array Value := #[ptrA js 0, ptrA js 1, ptrA js 2]
theorem arrA_push (js : List JD) (a : JD) (h : js.length < 3) : (arrA js).setIfInBounds js.length (.pointer (some ⟨a.jb, 0, none⟩)) = arrA (js ++ [a]) := by
  match js, h with
  | [], _ => rfl
  | [x], _ => rfl
  | [x, y], _ => rfl
theorem Held.dropRow {L g n c : Nat} {bs : List UInt8} {es : List (Ent L)} {w w' : World} (h : Held (datE L (.slice (some ⟨g, 0, none⟩) n c, bs) :: es) w) (hc : Chg (fun k => k = g) w w') : Held es w' := by
  refine (Held.drop h).chg hc (fun k hk e => ?_)
  subst e
  exact Held.apart (e := datE L (.slice (some ⟨k, 0, none⟩) n c, bs)) h rfl hk
/-- Values that hold the lists. -/
def Vals (w : World) (xs : List Value) (ls : List (List UInt8)) : Prop := xs.length = ls.length ∧ ∀ (k : Nat) bs, ls[k]? = some bs → ∃ uo n uc, xs[k]? = some (Value.slice uo n uc) ∧ By w (Value.slice uo n uc) bs
theorem Vals.push {w : World} {xs : List Value} {ls : List (List UInt8)} (h : Vals w xs ls) {uo : Option Addr} {n uc : Nat} {bs : List UInt8} (hb : By w (.slice uo n uc) bs) : Vals w (xs ++ [.slice uo n uc]) (ls ++ [bs]) := by
  refine ⟨by simp [h.1], fun k b hk => ?_⟩
  by_cases hlt : k < ls.length
  · rw [List.getElem?_append_left hlt] at hk
    obtain ⟨uo', n', uc', e1, e2⟩ := h.2 k b hk
    exact ⟨uo', n', uc', by rw [List.getElem?_append_left (by rw [h.1]; exact hlt)]; exact e1, e2⟩
  · rw [List.getElem?_append_right (by omega)] at hk
    have h0 : k - ls.length = 0 := by
      have := (List.getElem?_eq_some_iff.1 hk).1
      simp at this; omega
    rw [h0] at hk
    cases hk
    exact ⟨uo, n, uc, by rw [List.getElem?_append_right (by rw [h.1]; omega), h.1, h0]; rfl, hb⟩
theorem rows_tail {L : Nat} {w W : World} {wv : Value} {xs : List Value} {ls : List (List UInt8)} (ht : Tail W L 38 wv xs.length xs) (hv : Vals w xs ls) (hb : ∀ uo n uc bs, By w (.slice uo n uc) bs → By W (.slice uo n uc) bs) : Rows W wv ls := by
  obtain ⟨ao, c, e⟩ := tail_val ht
  refine ⟨ao, c, by rw [e, (show xs.length = ls.length from hv.1)], fun i bs hi => ?_⟩
  obtain ⟨uo, n, uc, e1, e2⟩ := hv.2 i bs hi
  obtain ⟨g, off, cap, e3, e4⟩ := tail_at ht e1
  rw [e3] at e
  cases e
  exact ⟨g, off, uo, n, uc, rfl, e4, hb _ _ _ _ e2⟩
/-- Three journals, the first and the third alike. -/
structure ApS (L A : Nat) (w : World) (ls : List (List UInt8)) (i : Nat) (wv : Value) (a b c : JD) (wr : World) : Prop where
  ex : ∃ xs, Held (boxE L A (arrA [a, b, c]) 32 :: tailE L 38 wv xs.length xs :: (a.es L ++ (b.es L ++ c.es L))) wr ∧ Vals w xs ls
  oa : a.Ok i
  ob : b.Ok i
  oc : c.Ok i
  la : a.ls = ls
  lc : c.ls = ls
  nx : a.y.next = c.y.next
  ln : ls.length ≤ i
  bl : Below L w wr
theorem new_jd {L A : Nat} {js : List JD} (w wr : World) (h : Held (boxE L A (arrA js) 32 :: js.flatMap (JD.es L)) wr) (hb : Below L w wr) (hL : L ≤ wr.heap.size) :
    Calls Try.prog 13 #[.int .i64 300] wr fun e w1 => ∃ p s, e = .returned (.tuple #[.pointer (some ⟨p, 0, none⟩), .int .i64 0]) ∧ Held (dmE L p s (fresh 300) :: boxE L A (arrA js) 32 :: js.flatMap (JD.es L)) w1 ∧ Below L w w1 := by
  refine (new_yes 300 wr (by omega)).mono ?_
  rintro e w1 ⟨h1, h2, h3⟩
  refine ⟨_, _, h1, Held.fresh h h3 (h2.low hL) (fun k hk => ?_), hb.trans (h3.mono hL)⟩
  rcases hk with hk | hk <;> omega
theorem open_jd {L A p s : Nat} {js : List JD} (w w1 : World) (h : Held (dmE L p s (fresh 300) :: boxE L A (arrA js) 32 :: js.flatMap (JD.es L)) w1) (hb : Below L w w1) (hL : L ≤ w1.heap.size) :
    Calls Try.prog 14 #[.pointer (some ⟨p, 0, none⟩)] w1 fun e w2 => ∃ jb a, e = .returned (.tuple #[.pointer (some ⟨jb, 0, none⟩), .int .i64 0]) ∧ a = JD.mk jb s (jv0 p 300) (fresh 300) ∧ Held (boxE L A (arrA js) 32 :: (js ++ [a]).flatMap (JD.es L)) w2 ∧ Below L w w2 := by
  refine (open_fresh w1 h (by omega) (by omega)).mono ?_
  rintro e w2 ⟨jb, h1, h2, h3⟩
  refine ⟨jb, _, h1, rfl, h2.perm ?_, hb.trans (h3.mono hL)⟩
  have e1 : (js ++ [JD.mk jb s (jv0 p 300) (fresh 300)]).flatMap (JD.es L) = js.flatMap (JD.es L) ++ ((jv0 p 300).es L jb ++ [dmE L p s (fresh 300)]) := by
    rw [List.flatMap_append]
    simp [JD.es, jv0]
  rw [e1]
  have e2 : ((jv0 p 300).es L jb ++ (dmE L p s (fresh 300) :: boxE L A (arrA js) 32 :: js.flatMap (JD.es L))) = (((jv0 p 300).es L jb ++ [dmE L p s (fresh 300)]) ++ (boxE L A (arrA js) 32 :: js.flatMap (JD.es L))) := by simp
  rw [e2]
  exact List.perm_append_comm
end Go.Proofs.Ytcnokgphioigoaa
namespace Go.Proofs.Ytcnokgphioigoaa
open Go.RowKit Go.PlainAid
set_option linter.unusedVariables false
set_option linter.unusedSimpArgs false
theorem below_lo {L : Nat} {w w' : World} (hL : L = w.heap.size) (h : Below L w w') : Below w.heap.size w w' := by rw [← hL]; exact h
theorem box_cells {w : World} {A : Nat} {a b c : JD} (h : Blk w A (arrA [a, b, c]) 32) : w.cell? ⟨A, 0, none⟩ = some (.pointer (some ⟨a.jb, 0, none⟩)) ∧ w.cell? ⟨A, 1, none⟩ = some (.pointer (some ⟨b.jb, 0, none⟩)) ∧ w.cell? ⟨A, 2, none⟩ = some (.pointer (some ⟨c.jb, 0, none⟩)) := ⟨h.cell 0, h.cell 1, h.cell 2⟩
theorem tail_r {L A : Nat} {a b c : JD} {wv : Value} {n : Nat} {xs : List Value} {w : World} (h : Held (boxE L A (arrA [a, b, c]) 32 :: tailE L 38 wv n xs :: (a.es L ++ (b.es L ++ c.es L))) w) : Tail w L 38 wv n xs := h.all (tailE L 38 wv n xs) (by simp)
theorem own_any {L g n c : Nat} {xs : List UInt8} {w : World} (h : w.ownsRow L 5 1 (.slice (some ⟨g, 0, none⟩) n c) n ((xs ++ mk2).map B)) (hx : xs.length + 2 = n) : w.ownsRow L 5 1 (.slice (some ⟨g, 0, none⟩) n c) (xs ++ mk2).length ((xs ++ mk2).map B) := by
  have : (xs ++ mk2).length = n := by rw [List.length_append]; exact hx
  rw [this]; exact h
section
variable {L A : Nat} {w : World} {ls : List (List UInt8)} {i : Nat} {wv : Value} {a b c : JD}
theorem perm_a (p q : Ent L) (X Y Z : List (Ent L)) : (p :: q :: (X ++ (Y ++ Z))).Perm (X ++ (p :: q :: (Y ++ Z))) := by
  have := List.perm_append_comm (l₁ := [p, q]) (l₂ := X)
  have h2 := List.Perm.append_right (Y ++ Z) this
  simpa [List.append_assoc] using h2
theorem perm_b (p q : Ent L) (X Y Z : List (Ent L)) : (p :: q :: (X ++ (Y ++ Z))).Perm (Y ++ (p :: q :: (X ++ Z))) := by
  refine List.Perm.trans ?_ (perm_a p q Y X Z)
  refine List.Perm.cons _ (List.Perm.cons _ ?_)
  rw [← List.append_assoc, ← List.append_assoc]
  exact List.Perm.append_right _ List.perm_append_comm
theorem perm_c (p q : Ent L) (X Y Z : List (Ent L)) : (p :: q :: (X ++ (Y ++ Z))).Perm (Z ++ (p :: q :: (X ++ Y))) := by
  refine List.Perm.trans ?_ (perm_a p q Z X Y)
  refine List.Perm.cons _ (List.Perm.cons _ ?_)
  rw [← List.append_assoc, ← List.append_assoc]
  exact (List.perm_append_comm (l₁ := X ++ Y)).trans (by rw [List.append_assoc])
/-- What is held of the three. -/
def H3 (L A : Nat) (w : World) (ls : List (List UInt8)) (wv : Value) (a b c : JD) (W : World) : Prop := ∃ xs, Held (boxE L A (arrA [a, b, c]) 32 :: tailE L 38 wv xs.length xs :: (a.es L ++ (b.es L ++ c.es L))) W ∧ Vals w xs ls
theorem arr_same {a b c a' : JD} : (a'.jb = a.jb → arrA [a', b, c] = arrA [a, b, c]) ∧ (a'.jb = b.jb → arrA [a, a', c] = arrA [a, b, c]) ∧ (a'.jb = c.jb → arrA [a, b, a'] = arrA [a, b, c]) := by
  refine ⟨fun h => ?_, fun h => ?_, fun h => ?_⟩ <;> simp [arrA, ptrA, h]
theorem H3.more {W W' : World} (h : H3 L A w ls wv a b c W) (hb : Below W.heap.size W W') : H3 L A w ls wv a b c W' := by
  obtain ⟨xs, h1, h2⟩ := h
  exact ⟨xs, h1.more hb, h2⟩
theorem H3.drewN {W : World} (h : H3 L A w ls wv a b c W) (q : Nat) : H3 L A w ls wv a b c (W.drewN q) := by
  obtain ⟨xs, h1, h2⟩ := h
  exact ⟨xs, h1.drewN q, h2⟩
theorem H3.box {W : World} (h : H3 L A w ls wv a b c W) : Blk W A (arrA [a, b, c]) 32 := by
  obtain ⟨xs, h1, h2⟩ := h
  exact h1.boxB
theorem H3.lo {W : World} (h : H3 L A w ls wv a b c W) : L ≤ W.heap.size := by
  obtain ⟨xs, h1, h2⟩ := h
  exact h1.lowL (k := A) rfl
theorem H3.first {W0 W : World} {g cc n : Nat} {bs : List UInt8} (h : H3 L A w ls wv a b c W0) (hb0 : Below W0.heap.size W0 W) (ha : a.Ok i) (hi : i < 12) (hr : W.ownsRow W0.heap.size 5 1 (.slice (some ⟨g, 0, none⟩) (n + 2) cc) (n + 2) ((bs ++ mk2).map B)) (hbl : bs.length = n) (hc : n + 2 ≤ cc) (hn : n ≤ 140737488355328) :
    Calls Try.prog 16 #[.pointer (some ⟨a.jb, 0, none⟩), .slice (some ⟨g, 0, none⟩) n cc] W fun e W' => e = .returned (.int .i64 (apC bs)) ∧ ∃ a', H3 L A w ls wv a' b c W' ∧ a'.jb = a.jb ∧ a'.Ok (i + 1) ∧ a'.ls = a.ls ++ apL bs ∧ a'.y.next = a.y.next + apN bs ∧ Below L W W' ∧ W'.ownsRow L 5 1 (.slice (some ⟨g, 0, none⟩) (n + 2) cc) (n + 2) ((bs ++ mk2).map B) ∧ (∀ W2, Chg (fun k => k = g) W' W2 → H3 L A w ls wv a' b c W2) := by
  obtain ⟨xs, h0, h2⟩ := h
  have h1 := h0.more hb0
  have hrow : Held (datE L (.slice (some ⟨g, 0, none⟩) (n + 2) cc, bs ++ mk2) :: boxE L A (arrA [a, b, c]) 32 :: tailE L 38 wv xs.length xs :: (a.es L ++ (b.es L ++ c.es L))) W := h1.add (own_any (ownsRow_mono hr (h0.lowL (k := A) rfl)) (by omega)) (fun k hk hh => by
    have e : some g = some k := hk
    cases e
    have := (h0.typ hh).2
    have := (ownsRow_lt hr (g := g) rfl).1
    omega)
  have h3 : Held (a.es L ++ (datE L (.slice (some ⟨g, 0, none⟩) (n + 2) cc, bs ++ mk2) :: boxE L A (arrA [a, b, c]) 32 :: tailE L 38 wv xs.length xs :: (b.es L ++ c.es L))) W := hrow.perm ((List.Perm.cons _ (perm_a _ _ _ _ _)).trans List.perm_middle.symm)
  refine (jd_append (bs := bs) W h3 ha hi (fun W2 _ hR => ?_) (by omega) hn).mono ?_
  · have h4 := hR.all _ (List.mem_cons_self ..)
    have h5 : W2.ownsRow L 5 1 (.slice (some ⟨g, 0, none⟩) (n + 2) cc) (bs ++ mk2).length ((bs ++ mk2).map B) := h4
    rw [show (bs ++ mk2).length = n + 2 by rw [List.length_append, hbl]; rfl] at h5
    exact own_front h5 hbl
  · rintro e W' ⟨rfl, a', e1, h4, h5, h6, h7, h8⟩
    have h9 : Held (datE L (.slice (some ⟨g, 0, none⟩) (n + 2) cc, bs ++ mk2) :: boxE L A (arrA [a', b, c]) 32 :: tailE L 38 wv xs.length xs :: (a'.es L ++ (b.es L ++ c.es L))) W' := by
      rw [arr_same.1 e1]
      exact h4.perm ((List.Perm.cons _ (perm_a _ _ _ _ _)).trans List.perm_middle.symm).symm
    have h10 : W'.ownsRow L 5 1 (.slice (some ⟨g, 0, none⟩) (n + 2) cc) (bs ++ mk2).length ((bs ++ mk2).map B) := h9.all _ (List.mem_cons_self ..)
    rw [show (bs ++ mk2).length = n + 2 by rw [List.length_append, hbl]; rfl] at h10
    exact ⟨rfl, a', ⟨xs, h9.drop, h2⟩, e1, h5, h6, h7, h8, h10, fun W2 hW2 => ⟨xs, Held.dropRow h9 hW2, h2⟩⟩
theorem H3.second {W : World} {uo : Option Addr} {uc n : Nat} {bs : List UInt8} (h : H3 L A w ls wv a b c W) (hb : b.Ok i) (hi : i < 12) (hby : ∀ W2, Below L W W2 → By W2 (.slice uo n uc) bs) (hc : n ≤ uc) (hn : n ≤ 140737488355328) :
    Calls Try.prog 16 #[.pointer (some ⟨b.jb, 0, none⟩), .slice uo n uc] W fun e W' => ∃ v, e = .returned v ∧ ∃ b', H3 L A w ls wv a b' c W' ∧ b'.Ok (i + 1) ∧ Below L W W' := by
  obtain ⟨xs, h1, h2⟩ := h
  refine (jd_append W (h1.perm (perm_b _ _ _ _ _)) hb hi (fun W2 hW _ => hby W2 hW) hc hn).mono ?_
  rintro e W' ⟨rfl, b', e1, h4, h5, h6, h7, h8⟩
  refine ⟨_, rfl, b', ⟨xs, ?_, h2⟩, h5, h8⟩
  rw [arr_same.2.1 e1]
  exact h4.perm (perm_b _ _ _ _ _).symm
theorem H3.third {W : World} {uo : Option Addr} {uc n : Nat} {bs : List UInt8} (h : H3 L A w ls wv a b c W) (hb : c.Ok i) (hi : i < 12) (hby : ∀ W2, Below L W W2 → By W2 (.slice uo n uc) bs) (hc : n ≤ uc) (hn : n ≤ 140737488355328) :
    Calls Try.prog 16 #[.pointer (some ⟨c.jb, 0, none⟩), .slice uo n uc] W fun e W' => e = .returned (.int .i64 (apC bs)) ∧ ∃ c', H3 L A w ls wv a b c' W' ∧ c'.Ok (i + 1) ∧ c'.ls = c.ls ++ apL bs ∧ c'.y.next = c.y.next + apN bs ∧ Below L W W' := by
  obtain ⟨xs, h1, h2⟩ := h
  refine (jd_append W (h1.perm (perm_c _ _ _ _ _)) hb hi (fun W2 hW _ => hby W2 hW) hc hn).mono ?_
  rintro e W' ⟨rfl, c', e1, h4, h5, h6, h7, h8⟩
  refine ⟨rfl, c', ⟨xs, ?_, h2⟩, h5, h6, h7, h8⟩
  rw [arr_same.2.2 e1]
  exact h4.perm (perm_c _ _ _ _ _).symm
theorem jd_room {W : World} {R : List (Ent L)} (h : Held (a.es L ++ R) W) (ha : a.Ok i) (hi : i ≤ 12) (q : Nat) : Calls Try.prog 18 #[.pointer (some ⟨a.jb, 0, none⟩)] (W.drewN q) fun e w' => e = .returned (.int .i64 ((300 - a.y.next : Nat) : Int)) ∧ ∃ m, w' = (W.drewN q).drewN m := by
  have h' : Held (a.y.es L a.jb ++ (dmE L a.y.p a.s a.x :: R)) W := by simpa [JD.es, List.append_assoc] using h
  have h1 := room_any (W.drewN q) (h'.drewN q) (by have := ha.next; have := ha.fin; omega) (by rw [ha.fin]; omega)
  rw [ha.fin] at h1
  exact h1
theorem H3.room1 {W : World} (h : H3 L A w ls wv a b c W) (ha : a.Ok i) (hi : i ≤ 12) (q : Nat) : Calls Try.prog 18 #[.pointer (some ⟨a.jb, 0, none⟩)] (W.drewN q) fun e w' => e = .returned (.int .i64 ((300 - a.y.next : Nat) : Int)) ∧ ∃ m, w' = (W.drewN q).drewN m := by
  obtain ⟨xs, h1, h2⟩ := h
  exact jd_room (h1.perm (perm_a _ _ _ _ _)) ha hi q
theorem H3.room3 {W : World} (h : H3 L A w ls wv a b c W) (ha : c.Ok i) (hi : i ≤ 12) (q : Nat) : Calls Try.prog 18 #[.pointer (some ⟨c.jb, 0, none⟩)] (W.drewN q) fun e w' => e = .returned (.int .i64 ((300 - c.y.next : Nat) : Int)) ∧ ∃ m, w' = (W.drewN q).drewN m := by
  obtain ⟨xs, h1, h2⟩ := h
  exact jd_room (h1.perm (perm_c _ _ _ _ _)) ha hi q
theorem H3.push {W : World} {uo : Option Addr} {n uc : Nat} {bs : List UInt8} (h : H3 L A w ls wv a b c W) (hl : ls.length ≤ 1000) (hb : By w (.slice uo n uc) bs) :
    ∃ v' w', (∀ ty, (Builtin.append_ #[30, 30] ty #[wv, .slice (some ⟨W.heap.size, 0, none⟩) 1 1]).run Try.prog (W.alloc (.cells #[.slice uo n uc] 38)) = .ok v' w') ∧ H3 L A w (ls ++ [bs]) v' a b c w' ∧ Below L W w' := by
  obtain ⟨xs, h1, h2⟩ := h
  have hL : L ≤ W.heap.size := h1.lowL (k := A) rfl
  have hx : xs.length ≤ 1000 := by rw [h2.1]; exact hl
  have h3 := h1.perm (List.Perm.swap ..)
  obtain ⟨v', w', hr, hH, hc, _, hat⟩ := h3.tailApp (t := 30) Try.underlying30 info30 rfl (.slice uo n uc) rfl (by omega) (by omega) hL
  refine ⟨v', w', hr, ⟨xs ++ [.slice uo n uc], ?_, h2.push hb⟩, hc.below hL (fun k hk => (tail_lt (h3.all _ (List.mem_cons_self ..)) k hk).1)⟩
  have := hH.perm (List.Perm.swap ..)
  simpa using this
theorem H3.tells1 {W : World} (h : H3 L A w ls wv a b c W) (ha : a.Ok i) (hi : i ≤ 12) (hl : a.ls = ls) (hw : Below w.heap.size w W) : Calls Try.prog 19 #[.pointer (some ⟨a.jb, 0, none⟩), wv] W fun e w' => e = .returned (.bool true) ∧ Below W.heap.size W w' := by
  obtain ⟨xs, h1, h2⟩ := h
  have h3 := h1.perm (perm_a _ _ _ _ _)
  have h' : Held (a.y.es L a.jb ++ ([dmE L a.y.p a.s a.x] ++ (boxE L A (arrA [a, b, c]) 32 :: tailE L 38 wv xs.length xs :: (b.es L ++ c.es L)))) W := by rw [← List.append_assoc]; exact h3
  exact tells_yes W h' hl ha.le (by have := ha.recs; omega) (rows_tail (tail_r h1) h2 (fun _ _ _ _ k => k.keep hw))
theorem H3.tells3 {W : World} (h : H3 L A w ls wv a b c W) (ha : c.Ok i) (hi : i ≤ 12) (hl : c.ls = ls) (hw : Below w.heap.size w W) : Calls Try.prog 19 #[.pointer (some ⟨c.jb, 0, none⟩), wv] W fun e w' => e = .returned (.bool true) ∧ Below W.heap.size W w' := by
  obtain ⟨xs, h1, h2⟩ := h
  have h3 := h1.perm (perm_c _ _ _ _ _)
  have h' : Held (c.y.es L c.jb ++ ([dmE L c.y.p c.s c.x] ++ (boxE L A (arrA [a, b, c]) 32 :: tailE L 38 wv xs.length xs :: (a.es L ++ b.es L)))) W := by rw [← List.append_assoc]; exact h3
  exact tells_yes W h' hl ha.le (by have := ha.recs; omega) (rows_tail (tail_r h1) h2 (fun _ _ _ _ k => k.keep hw))
end
end Go.Proofs.Ytcnokgphioigoaa
