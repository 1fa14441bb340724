import Derived.Test.YtjpdcahodmomgaaJn35
namespace Go.Proofs.Ytjpdcahodmomgaa
open Go.RowKit Go.PlainAid
set_option linter.unusedVariables false
set_option linter.unusedSimpArgs false
set_option maxRecDepth 100000
set_option maxHeartbeats 3200000
theorem by_cellW {w : World} {vo : Option Addr} {n c i : Nat} {bs : List UInt8} (h : By w (.slice vo n c) bs) (hi : i < n) : ∃ b o, vo = some ⟨b, o, none⟩ ∧ w.cell? ⟨b, o + i, none⟩ = some (.int .u8 ((bs.getD i 0).toNat : Int)) := by
  obtain ⟨_, _, _, ev, hvl, hvn, hvc⟩ := h
  cases ev
  have hgb : bs[i]? = some (bs.getD i 0) := by
    rw [List.getD_eq_getElem?_getD, List.getElem?_eq_getElem (by omega), Option.getD_some]
  cases vo with
  | none => have := (hvn rfl).1; omega
  | some ad =>
    have h9 := hvc ad rfl i (B (bs.getD i 0)) (by rw [List.getElem?_map, hgb]; rfl)
    have h0 := hvc ad rfl 0 (B (bs.getD 0 0)) (by rw [List.getElem?_map, List.getD_eq_getElem?_getD, List.getElem?_eq_getElem (by omega)]; rfl)
    rw [show ad.add 0 = ad from rfl] at h0
    obtain ⟨b, off, rfl⟩ := spot_none h0
    exact ⟨b, off, rfl, by rw [addr_add] at h9; exact h9⟩
theorem imgL_put (x : DV) (at' i : Nat) (bs : List UInt8) (ha : at' < x.n) (hi : i < 512) : imgL (x.put at' (i + 1) bs) = (imgL (x.put at' i bs)).set (at' * 512 + i) (bs.getD i 0) := by
  apply List.ext_getElem?
  intro j
  have hn : ∀ m, (x.put at' m bs).n = x.n := fun _ => rfl
  by_cases h : j < 512 * x.n
  · rw [imgL_get _ _ (by rw [hn]; exact h)]
    by_cases e : at' * 512 + i = j
    · rw [List.getElem?_set, if_pos e, if_pos (by rw [imgL_len, hn]; omega)]
      show some (if at' * 512 ≤ j ∧ j < at' * 512 + (i + 1) then bs.getD (j - at' * 512) 0 else x.b j) = _
      rw [if_pos (by omega), show j - at' * 512 = i by omega]
    · rw [List.getElem?_set_ne e, imgL_get _ _ (by rw [hn]; exact h)]
      show some (if at' * 512 ≤ j ∧ j < at' * 512 + (i + 1) then bs.getD (j - at' * 512) 0 else x.b j) = some (if at' * 512 ≤ j ∧ j < at' * 512 + i then bs.getD (j - at' * 512) 0 else x.b j)
      by_cases h2 : at' * 512 ≤ j ∧ j < at' * 512 + i
      · rw [if_pos (by omega), if_pos h2]
      · rw [if_neg (by omega), if_neg h2]
  · rw [List.getElem?_eq_none (by rw [imgL_len, hn]; omega), List.getElem?_eq_none (by rw [List.length_set, imgL_len, hn]; omega)]
theorem imgL_put0 (x : DV) (at' : Nat) (bs : List UInt8) : imgL (x.put at' 0 bs) = imgL x := by
  have e : (x.put at' 0 bs).b = x.b := by
    funext k
    show (if at' * 512 ≤ k ∧ k < at' * 512 + 0 then bs.getD (k - at' * 512) 0 else x.b k) = x.b k
    rw [if_neg (by omega)]
  unfold imgL
  rw [e]
  rfl
theorem written_any {L kb p sb at' sn sc : Nat} {x : DV} {jv iv hv : Value} {torn : Int} {next : Nat} {dead : Bool} {so : Option Addr} {bs : List UInt8} {R : List (Ent L)} (left : Int) (w : World) (h : Held (boxE L kb (deskC p jv iv true left torn hv next dead sb) 64 :: imE L iv x :: R) w) (hb : ∀ W, Below L w W → Held R W → By W (.slice so sn sc) bs) (hsn : sn = 512) (ha : at' < x.n) (hn : 1 ≤ x.n) (hxn : x.n ≤ 1000) (hleft : left = -1) :
    Calls Try.prog 61 #[.pointer (some ⟨kb, 0, none⟩), .int .i64 (at' : Int), .slice so sn sc] w fun e w' => e = .returned (.bool true) ∧ Held (boxE L kb (deskC p jv iv true (-2) torn hv next dead sb) 64 :: imE L iv (x.put at' 512 bs) :: R) w' ∧ Below L w w' := by
  subst hleft
  subst hsn
  have c4 : w.cell? ⟨kb, 4, none⟩ = some (.int .i64 (-1)) := h.boxB.cell 4
  have hrow : w.ownsRow L 5 1 iv (x.n * 512) ((imgL x).map B) := h.all (imE L iv x) (by simp)
  obtain ⟨ig, ic, hiv, hic, _⟩ := im_lit hrow hn
  have hL : L ≤ w.heap.size := h.lowL (k := kb) rfl
  have H0 : Hid (Held (boxE L kb (deskC p jv iv true (-1) torn hv next dead sb) 64 :: imE L iv (x.put at' 0 bs) :: R) w ∧ L ≤ w.heap.size) := ⟨Held.at (pre := [boxE L kb (deskC p jv iv true (-1) torn hv next dead sb) 64]) (e := imE L iv x) (e' := imE L iv (x.put at' 0 bs)) h (Chg.refl _ w) (by
    show w.ownsRow L 5 1 iv (x.n * 512) ((imgL (x.put at' 0 bs)).map B)
    rw [imgL_put0]; exact hrow) (fun j hj => Or.inl hj), hL⟩
  have HB : Hid _ := hb
  have HIV : Hid (iv = .slice (some ⟨ig, 0, none⟩) (x.n * 512) ic) := hiv
  clear h hrow hb hL hiv
  go_enter Try.func61, Try.ntmps61
  go_wp2_with fail
  go_loopw [8] (fun s8 wr => ∃ i : Nat, i ≤ 512 ∧ s8 = .int .i64 (i : Int) ∧ Held (boxE L kb (deskC p jv iv true (-1) torn hv next dead sb) 64 :: imE L iv (x.put at' i bs) :: R) wr ∧ Below L w wr) (fun s8 _ => 512 - (intOf s8).toNat)
  case atStart => exact ⟨0, by omega, rfl, H0.out.1, Below.refl _ _⟩
  case round =>
    obtain ⟨i, hi, rfl, hH, hbl⟩ := hrel
    by_cases hlt : i < 512
    · have hlti : (i : Int) < 512 := by omega
      have hrow : wr.ownsRow L 5 1 iv (x.n * 512) ((imgL (x.put at' i bs)).map B) := hH.all (imE L iv (x.put at' i bs)) (by simp)
      obtain ⟨b9, o9, rfl, hcell⟩ := by_cellW (HB.out wr hbl hH.drop.drop) hlt
      have d2 : wr.cell? ⟨kb, 2, none⟩ = some (.slice (some ⟨ig, 0, none⟩) (x.n * 512) ic) := by rw [← HIV.out]; exact hH.boxB.cell 2
      rw [HIV.out] at hrow
      have hx : ∃ v, wr.cell? ⟨ig, at' * 512 + i, none⟩ = some v := by
        have hl9 : (imgL (x.put at' i bs)).length = 512 * x.n := by rw [imgL_len]; rfl
        have := hrow.cells (g := ig) rfl (at' * 512 + i) (B ((imgL (x.put at' i bs))[at' * 512 + i]'(by omega))) (by rw [List.getElem?_map, List.getElem?_eq_getElem (by omega)]; rfl)
        rw [addr_add, Nat.zero_add] at this
        exact ⟨_, this⟩
      obtain ⟨v9, hx⟩ := hx
      obtain ⟨u, hu⟩ : ∃ u, u = bs.getD i 0 := ⟨_, rfl⟩
      have HN : Hid (∀ q, Held (boxE L kb (deskC p jv iv true (-1) torn hv next dead sb) 64 :: imE L iv (x.put at' (i + 1) bs) :: R) ((wr.drewN q).setCell ⟨ig, at' * 512 + i, none⟩ (.int .u8 (u.toNat : Int))) ∧ Below L w ((wr.drewN q).setCell ⟨ig, at' * 512 + i, none⟩ (.int .u8 (u.toNat : Int)))) := fun q => by
        have hrq : (wr.drewN q).ownsRow L 5 1 (.slice (some ⟨ig, 0, none⟩) (x.n * 512) ic) (x.n * 512) ((imgL (x.put at' i bs)).map B) := ownsRow_same hrow (fun _ _ => rfl)
        have h5 := (own_setB (k := at' * 512 + i) hrq u).1
        rw [hu, ← imgL_put x at' i bs ha hlt, ← HIV.out, ← hu] at h5
        have h6 := hH.drewN q
        have hgi : ∀ j, (imE L iv (x.put at' i bs)).bl j ↔ j = ig := fun j => by
          show iv.ownBlock = some j ↔ j = ig
          rw [HIV.out]
          exact ⟨fun e => by cases e; rfl, fun e => by rw [e]; rfl⟩
        refine ⟨Held.at (pre := [_]) (e := imE L iv (x.put at' i bs)) (e' := imE L iv (x.put at' (i + 1) bs)) h6 ((setCell_chg _ _ _ _).mono (fun j _ e => (hgi j).2 e)) h5 (fun j hj => Or.inl hj), (below_dr hbl q).trans ((setCell_chg _ _ _ _).below (by have := hH.lowL (k := kb) rfl; exact this) (fun j e => by rw [e]; exact (ownsRow_lt hrow rfl).1))⟩
      have hf : wr.frozen? ⟨ig, at' * 512 + i, none⟩ = false := (own_setB (k := at' * 512 + i) hrow u).2
      rw [← hu] at hcell
      clear hrow hu hH hbl
      go_wp2_with fail
      go_region
      all_goals
        go_wp2_with fail
        go_roundw
        case rel => exact ⟨i + 1, by omega, by go_num, by first | exact HN.out 1 | exact HN.out 0⟩
        case measure => simp [intOf]; omega
    · have hlti : ¬ ((i : Int) < 512) := by omega
      obtain rfl : i = 512 := by omega
      have d4 : wr.cell? ⟨kb, 4, none⟩ = some (.int .i64 (-1)) := hH.boxB.cell 4
      have f4 : wr.frozen? ⟨kb, 4, none⟩ = false := hH.boxB.frozen 4
      have d3 : (wr.setCell ⟨kb, 4, none⟩ (.int .i64 (-2))).cell? ⟨kb, 3, none⟩ = some (.bool true) := (hH.boxSet 4 (.int .i64 (-2))).boxB.cell 3
      have HN : Hid (Held (boxE L kb (deskC p jv iv true (-2) torn hv next dead sb) 64 :: imE L iv (x.put at' 512 bs) :: R) (wr.setCell ⟨kb, 4, none⟩ (.int .i64 (-2))) ∧ Below L w (wr.setCell ⟨kb, 4, none⟩ (.int .i64 (-2)))) := ⟨hH.boxSet 4 (.int .i64 (-2)), hbl.trans ((setCell_chg _ _ _ _).below (hH.lowL (k := kb) rfl) (fun j e => by rw [e]; exact (hH.all _ (List.mem_cons_self ..)).2))⟩
      clear hH hbl
      go_wp2_with fail
      go_ret
      exact ⟨rfl, HN.out.1, HN.out.2⟩
end Go.Proofs.Ytjpdcahodmomgaa
