import Derived.Test.YtcnokgphioigoaaJq2
namespace Go.Proofs.Ytcnokgphioigoaa
open Go.RowKit Go.PlainAid
set_option linter.unusedVariables false
set_option linter.unusedSimpArgs false
set_option maxRecDepth 100000
set_option maxHeartbeats 6400000
theorem written_wholeG {L kb p sb at' sn sc : Nat} {x : DV} {jv iv hv : Value} {torn : Int} {next : Nat} {dead : Bool} {so : Option Addr} {bs : List UInt8} {R : List (Ent L)} (left : Int) (w : World) (h : Held (boxE L kb (deskC p jv iv true left torn hv next dead sb) 64 :: imE L iv x :: R) w) (hb : ∀ W, Below L w W → Held R W → By W (.slice so sn sc) bs) (hsn : sn = 512) (ha : at' < x.n) (hn : 1 ≤ x.n) (hxn : x.n ≤ 1000) (hl0 : left ≠ 0) (hl1 : -1 ≤ left) (hl2 : left ≤ 9223372036854775807) :
    Calls Try.prog 66 #[.pointer (some ⟨kb, 0, none⟩), .int .i64 (at' : Int), .slice so sn sc] w fun e w' => e = .returned (.bool true) ∧ Held (boxE L kb (deskC p jv iv true (left - 1) torn hv next dead sb) 64 :: imE L iv (x.put at' 512 bs) :: R) w' ∧ Below L w w' := by
  subst hsn
  have hl3 : (left == 0) = false := by simpa using hl0
  have hl4 : IntKind.i64.wrap (left - 1) = left - 1 := by rw [IntKind.wrap_i64]; omega
  have c4 : w.cell? ⟨kb, 4, none⟩ = some (.int .i64 left) := h.boxB.cell 4
  have hrow : w.ownsRow L 5 1 iv (x.n * 512) ((imgL x).map B) := h.all (imE L iv x) (by simp)
  obtain ⟨ig, ic, hiv, hic, _⟩ := im_lit hrow hn
  have hL : L ≤ w.heap.size := h.lowL (k := kb) rfl
  have H0 : Hid (Held (boxE L kb (deskC p jv iv true left torn hv next dead sb) 64 :: imE L iv (x.put at' 0 bs) :: R) w ∧ L ≤ w.heap.size) := ⟨Held.at (pre := [boxE L kb (deskC p jv iv true left torn hv next dead sb) 64]) (e := imE L iv x) (e' := imE L iv (x.put at' 0 bs)) h (Chg.refl _ w) (by
    show w.ownsRow L 5 1 iv (x.n * 512) ((imgL (x.put at' 0 bs)).map B)
    rw [imgL_put0]; exact hrow) (fun j hj => Or.inl hj), hL⟩
  have HB : Hid _ := hb
  have HIV : Hid (iv = .slice (some ⟨ig, 0, none⟩) (x.n * 512) ic) := hiv
  clear h hrow hb hL hiv
  go_enter Try.func66, Try.ntmps66
  go_wp2_with fail
  go_loopw [8] (fun s8 wr => ∃ i : Nat, i ≤ 512 ∧ s8 = .int .i64 (i : Int) ∧ Held (boxE L kb (deskC p jv iv true left torn hv next dead sb) 64 :: imE L iv (x.put at' i bs) :: R) wr ∧ Below L w wr) (fun s8 _ => 512 - (intOf s8).toNat)
  case atStart => exact ⟨0, by omega, rfl, H0.out.1, Below.refl _ _⟩
  case round =>
    obtain ⟨i, hi, rfl, hH, hbl⟩ := hrel
    by_cases hlt : i < 512
    · have hlti : (i : Int) < 512 := by omega
      have hrow : wr.ownsRow L 5 1 iv (x.n * 512) ((imgL (x.put at' i bs)).map B) := hH.all (imE L iv (x.put at' i bs)) (by simp)
      obtain ⟨b9, o9, rfl, hcell⟩ := by_cellW (HB.out wr hbl hH.drop.drop) hlt
      have d2 : wr.cell? ⟨kb, 2, none⟩ = some (.slice (some ⟨ig, 0, none⟩) (x.n * 512) ic) := by rw [← HIV.out]; exact hH.boxB.cell 2
      rw [HIV.out] at hrow
      have hx : ∃ v, wr.cell? ⟨ig, at' * 512 + i, none⟩ = some v := by
        have hl9 : (imgL (x.put at' i bs)).length = 512 * x.n := by rw [imgL_len]; rfl
        have := hrow.cells (g := ig) rfl (at' * 512 + i) (B ((imgL (x.put at' i bs))[at' * 512 + i]'(by omega))) (by rw [List.getElem?_map, List.getElem?_eq_getElem (by omega)]; rfl)
        rw [addr_add, Nat.zero_add] at this
        exact ⟨_, this⟩
      obtain ⟨v9, hx⟩ := hx
      obtain ⟨u, hu⟩ : ∃ u, u = bs.getD i 0 := ⟨_, rfl⟩
      have HN : Hid (∀ q, Held (boxE L kb (deskC p jv iv true left torn hv next dead sb) 64 :: imE L iv (x.put at' (i + 1) bs) :: R) ((wr.drewN q).setCell ⟨ig, at' * 512 + i, none⟩ (.int .u8 (u.toNat : Int))) ∧ Below L w ((wr.drewN q).setCell ⟨ig, at' * 512 + i, none⟩ (.int .u8 (u.toNat : Int)))) := fun q => by
        have hrq : (wr.drewN q).ownsRow L 5 1 (.slice (some ⟨ig, 0, none⟩) (x.n * 512) ic) (x.n * 512) ((imgL (x.put at' i bs)).map B) := ownsRow_same hrow (fun _ _ => rfl)
        have h5 := (own_setB (k := at' * 512 + i) hrq u).1
        rw [hu, ← imgL_put x at' i bs ha hlt, ← HIV.out, ← hu] at h5
        have h6 := hH.drewN q
        have hgi : ∀ j, (imE L iv (x.put at' i bs)).bl j ↔ j = ig := fun j => by
          show iv.ownBlock = some j ↔ j = ig
          rw [HIV.out]
          exact ⟨fun e => by cases e; rfl, fun e => by rw [e]; rfl⟩
        refine ⟨Held.at (pre := [_]) (e := imE L iv (x.put at' i bs)) (e' := imE L iv (x.put at' (i + 1) bs)) h6 ((setCell_chg _ _ _ _).mono (fun j _ e => (hgi j).2 e)) h5 (fun j hj => Or.inl hj), (below_dr hbl q).trans ((setCell_chg _ _ _ _).below (by have := hH.lowL (k := kb) rfl; exact this) (fun j e => by rw [e]; exact (ownsRow_lt hrow rfl).1))⟩
      have hf : wr.frozen? ⟨ig, at' * 512 + i, none⟩ = false := (own_setB (k := at' * 512 + i) hrow u).2
      rw [← hu] at hcell
      clear hrow hu hH hbl
      go_wp2_with fail
      go_region
      all_goals
        go_wp2_with fail
        go_roundw
        case rel => exact ⟨i + 1, by omega, by go_num, by first | exact HN.out 1 | exact HN.out 0⟩
        case measure => simp [intOf]; omega
    · have hlti : ¬ ((i : Int) < 512) := by omega
      obtain rfl : i = 512 := by omega
      have d4 : wr.cell? ⟨kb, 4, none⟩ = some (.int .i64 left) := hH.boxB.cell 4
      have f4 : wr.frozen? ⟨kb, 4, none⟩ = false := hH.boxB.frozen 4
      have d3 : (wr.setCell ⟨kb, 4, none⟩ (.int .i64 (left - 1))).cell? ⟨kb, 3, none⟩ = some (.bool true) := (hH.boxSet 4 (.int .i64 (left - 1))).boxB.cell 3
      have HN : Hid (Held (boxE L kb (deskC p jv iv true (left - 1) torn hv next dead sb) 64 :: imE L iv (x.put at' 512 bs) :: R) (wr.setCell ⟨kb, 4, none⟩ (.int .i64 (left - 1))) ∧ Below L w (wr.setCell ⟨kb, 4, none⟩ (.int .i64 (left - 1)))) := ⟨hH.boxSet 4 (.int .i64 (left - 1)), hbl.trans ((setCell_chg _ _ _ _).below (hH.lowL (k := kb) rfl) (fun j e => by rw [e]; exact (hH.all _ (List.mem_cons_self ..)).2))⟩
      clear hH hbl
      go_wp2_with fail
      go_ret
      exact ⟨rfl, HN.out.1, HN.out.2⟩
theorem written_tornG {L kb p sb at' sn sc : Nat} {x : DV} {jv iv hv : Value} {torn : Int} {next : Nat} {dead : Bool} {so : Option Addr} {bs : List UInt8} {R : List (Ent L)} (left : Int) (w : World) (tn : Nat) (h : Held (boxE L kb (deskC p jv iv true left torn hv next dead sb) 64 :: imE L iv x :: R) w) (hb : ∀ W, Below L w W → Held R W → By W (.slice so sn sc) bs) (hsn : sn = 512) (ha : at' < x.n) (hn : 1 ≤ x.n) (hxn : x.n ≤ 1000) (hleft : left = 0) (htn : tn = tornN torn) (ht1 : -9223372036854775808 ≤ torn) (ht2 : torn ≤ 9223372036854775807) :
    Calls Try.prog 66 #[.pointer (some ⟨kb, 0, none⟩), .int .i64 (at' : Int), .slice so sn sc] w fun e w' => e = .returned (.bool false) ∧ Held (boxE L kb (deskC p jv iv false (-1) torn hv next dead sb) 64 :: imE L iv (x.put at' tn bs) :: R) w' ∧ Below L w w' := by
  subst hleft
  subst hsn
  have c4 : w.cell? ⟨kb, 4, none⟩ = some (.int .i64 0) := h.boxB.cell 4
  have c5 : w.cell? ⟨kb, 5, none⟩ = some (.int .i64 torn) := h.boxB.cell 5
  have c3 : w.cell? ⟨kb, 3, none⟩ = some (.bool true) := h.boxB.cell 3
  have f3 : w.frozen? ⟨kb, 3, none⟩ = false := h.boxB.frozen 3
  have htn' : (tn : Int) = min (max torn 0) 512 := by rw [htn]; unfold tornN; omega
  have hmx : (if torn < 0 then (0 : Int) else torn) = max torn 0 := by split <;> omega
  have ht5 : tn ≤ 512 := by omega
  have HTN : Hid ((tn : Int) = min (max torn 0) 512) := htn'
  have hrow : w.ownsRow L 5 1 iv (x.n * 512) ((imgL x).map B) := h.all (imE L iv x) (by simp)
  obtain ⟨ig, ic, hiv, hic, _⟩ := im_lit hrow hn
  have hL : L ≤ w.heap.size := h.lowL (k := kb) rfl
  have H0 : Hid (Held (boxE L kb (deskC p jv iv false 0 torn hv next dead sb) 64 :: imE L iv (x.put at' 0 bs) :: R) (w.setCell ⟨kb, 3, none⟩ (.bool false)) ∧ Below L w (w.setCell ⟨kb, 3, none⟩ (.bool false))) := ⟨Held.boxSet (Held.at (pre := [boxE L kb (deskC p jv iv true 0 torn hv next dead sb) 64]) (e := imE L iv x) (e' := imE L iv (x.put at' 0 bs)) h (Chg.refl _ w) (by
    show w.ownsRow L 5 1 iv (x.n * 512) ((imgL (x.put at' 0 bs)).map B)
    rw [imgL_put0]; exact hrow) (fun j hj => Or.inl hj)) 3 (.bool false), (setCell_chg _ _ _ _).below hL (fun j e => by rw [e]; exact (h.all _ (List.mem_cons_self ..)).2)⟩
  have HB : Hid _ := hb
  have HIV : Hid (iv = .slice (some ⟨ig, 0, none⟩) (x.n * 512) ic) := hiv
  clear h hrow hb hL hiv
  by_cases t0 : torn < 0
  · obtain rfl : tn = 0 := by omega
    clear htn htn' hmx HTN
    go_enter Try.func66, Try.ntmps66
    go_wp2_with fail
    go_loopw [8] (fun s8 wr => ∃ i : Nat, i ≤ 0 ∧ s8 = .int .i64 (i : Int) ∧ Held (boxE L kb (deskC p jv iv false 0 torn hv next dead sb) 64 :: imE L iv (x.put at' i bs) :: R) wr ∧ Below L w wr) (fun s8 _ => 0 - (intOf s8).toNat)
    case atStart => exact ⟨0, by omega, rfl, H0.out.1, H0.out.2⟩
    case round =>
      obtain ⟨i, hi, rfl, hH, hbl⟩ := hrel
      by_cases hlt : i < 0
      · omega
      · have hlti : ¬ ((i : Int) < (0 : Int)) := by omega
        obtain rfl : i = 0 := by omega
        have d4 : wr.cell? ⟨kb, 4, none⟩ = some (.int .i64 0) := hH.boxB.cell 4
        have f4 : wr.frozen? ⟨kb, 4, none⟩ = false := hH.boxB.frozen 4
        have d3 : (wr.setCell ⟨kb, 4, none⟩ (.int .i64 (-1))).cell? ⟨kb, 3, none⟩ = some (.bool false) := (hH.boxSet 4 (.int .i64 (-1))).boxB.cell 3
        have HN : Hid (Held (boxE L kb (deskC p jv iv false (-1) torn hv next dead sb) 64 :: imE L iv (x.put at' 0 bs) :: R) (wr.setCell ⟨kb, 4, none⟩ (.int .i64 (-1))) ∧ Below L w (wr.setCell ⟨kb, 4, none⟩ (.int .i64 (-1)))) := ⟨hH.boxSet 4 (.int .i64 (-1)), hbl.trans ((setCell_chg _ _ _ _).below (hH.lowL (k := kb) rfl) (fun j e => by rw [e]; exact (hH.all _ (List.mem_cons_self ..)).2))⟩
        clear hH hbl
        go_wp2_with fail
        go_ret
        exact ⟨rfl, HN.out.1, HN.out.2⟩
  · by_cases t1 : torn ≤ 512
    · obtain rfl : torn = (tn : Int) := by omega
      have t2 : ¬ ((512 : Int) < (tn : Int)) := by omega
      clear htn htn' hmx HTN
      go_enter Try.func66, Try.ntmps66
      go_wp2_with fail
      go_loopw [8] (fun s8 wr => ∃ i : Nat, i ≤ tn ∧ s8 = .int .i64 (i : Int) ∧ Held (boxE L kb (deskC p jv iv false 0 (tn : Int) hv next dead sb) 64 :: imE L iv (x.put at' i bs) :: R) wr ∧ Below L w wr) (fun s8 _ => tn - (intOf s8).toNat)
      case atStart => exact ⟨0, by omega, rfl, H0.out.1, H0.out.2⟩
      case round =>
        obtain ⟨i, hi, rfl, hH, hbl⟩ := hrel
        by_cases hlt : i < tn
        · have hlti : (i : Int) < (tn : Int) := by omega
          have hrow : wr.ownsRow L 5 1 iv (x.n * 512) ((imgL (x.put at' i bs)).map B) := hH.all (imE L iv (x.put at' i bs)) (by simp)
          obtain ⟨b9, o9, rfl, hcell⟩ := by_cellW (HB.out wr hbl hH.drop.drop) (by omega : i < 512)
          have d2 : wr.cell? ⟨kb, 2, none⟩ = some (.slice (some ⟨ig, 0, none⟩) (x.n * 512) ic) := by rw [← HIV.out]; exact hH.boxB.cell 2
          rw [HIV.out] at hrow
          have hx : ∃ v, wr.cell? ⟨ig, at' * 512 + i, none⟩ = some v := by
            have hl9 : (imgL (x.put at' i bs)).length = 512 * x.n := by rw [imgL_len]; rfl
            have := hrow.cells (g := ig) rfl (at' * 512 + i) (B ((imgL (x.put at' i bs))[at' * 512 + i]'(by omega))) (by rw [List.getElem?_map, List.getElem?_eq_getElem (by omega)]; rfl)
            rw [addr_add, Nat.zero_add] at this
            exact ⟨_, this⟩
          obtain ⟨v9, hx⟩ := hx
          obtain ⟨u, hu⟩ : ∃ u, u = bs.getD i 0 := ⟨_, rfl⟩
          have HN : Hid (∀ q, Held (boxE L kb (deskC p jv iv false 0 (tn : Int) hv next dead sb) 64 :: imE L iv (x.put at' (i + 1) bs) :: R) ((wr.drewN q).setCell ⟨ig, at' * 512 + i, none⟩ (.int .u8 (u.toNat : Int))) ∧ Below L w ((wr.drewN q).setCell ⟨ig, at' * 512 + i, none⟩ (.int .u8 (u.toNat : Int)))) := fun q => by
            have hrq : (wr.drewN q).ownsRow L 5 1 (.slice (some ⟨ig, 0, none⟩) (x.n * 512) ic) (x.n * 512) ((imgL (x.put at' i bs)).map B) := ownsRow_same hrow (fun _ _ => rfl)
            have h5 := (own_setB (k := at' * 512 + i) hrq u).1
            rw [hu, ← imgL_put x at' i bs ha (by omega), ← HIV.out, ← hu] at h5
            have h6 := hH.drewN q
            have hgi : ∀ j, (imE L iv (x.put at' i bs)).bl j ↔ j = ig := fun j => by
              show iv.ownBlock = some j ↔ j = ig
              rw [HIV.out]
              exact ⟨fun e => by cases e; rfl, fun e => by rw [e]; rfl⟩
            refine ⟨Held.at (pre := [_]) (e := imE L iv (x.put at' i bs)) (e' := imE L iv (x.put at' (i + 1) bs)) h6 ((setCell_chg _ _ _ _).mono (fun j _ e => (hgi j).2 e)) h5 (fun j hj => Or.inl hj), (below_dr hbl q).trans ((setCell_chg _ _ _ _).below (by have := hH.lowL (k := kb) rfl; exact this) (fun j e => by rw [e]; exact (ownsRow_lt hrow rfl).1))⟩
          have hf : wr.frozen? ⟨ig, at' * 512 + i, none⟩ = false := (own_setB (k := at' * 512 + i) hrow u).2
          rw [← hu] at hcell
          clear hrow hu hH hbl
          go_wp2_with fail
          go_region
          all_goals
            go_wp2_with fail
            go_roundw
            case rel => exact ⟨i + 1, by omega, by go_num, by first | exact HN.out 1 | exact HN.out 0⟩
            case measure => simp [intOf]; omega
        · have hlti : ¬ ((i : Int) < (tn : Int)) := by omega
          obtain rfl : tn = i := by omega
          have d4 : wr.cell? ⟨kb, 4, none⟩ = some (.int .i64 0) := hH.boxB.cell 4
          have f4 : wr.frozen? ⟨kb, 4, none⟩ = false := hH.boxB.frozen 4
          have d3 : (wr.setCell ⟨kb, 4, none⟩ (.int .i64 (-1))).cell? ⟨kb, 3, none⟩ = some (.bool false) := (hH.boxSet 4 (.int .i64 (-1))).boxB.cell 3
          have HN : Hid (Held (boxE L kb (deskC p jv iv false (-1) (tn : Int) hv next dead sb) 64 :: imE L iv (x.put at' tn bs) :: R) (wr.setCell ⟨kb, 4, none⟩ (.int .i64 (-1))) ∧ Below L w (wr.setCell ⟨kb, 4, none⟩ (.int .i64 (-1)))) := ⟨hH.boxSet 4 (.int .i64 (-1)), hbl.trans ((setCell_chg _ _ _ _).below (hH.lowL (k := kb) rfl) (fun j e => by rw [e]; exact (hH.all _ (List.mem_cons_self ..)).2))⟩
          clear hH hbl
          go_wp2_with fail
          go_ret
          exact ⟨rfl, HN.out.1, HN.out.2⟩
    · obtain rfl : tn = 512 := by omega
      have t2 : (512 : Int) < torn := by omega
      clear htn htn' hmx HTN
      go_enter Try.func66, Try.ntmps66
      go_wp2_with fail
      go_loopw [8] (fun s8 wr => ∃ i : Nat, i ≤ 512 ∧ s8 = .int .i64 (i : Int) ∧ Held (boxE L kb (deskC p jv iv false 0 torn hv next dead sb) 64 :: imE L iv (x.put at' i bs) :: R) wr ∧ Below L w wr) (fun s8 _ => 512 - (intOf s8).toNat)
      case atStart => exact ⟨0, by omega, rfl, H0.out.1, H0.out.2⟩
      case round =>
        obtain ⟨i, hi, rfl, hH, hbl⟩ := hrel
        by_cases hlt : i < 512
        · have hlti : (i : Int) < (512 : Int) := by omega
          have hrow : wr.ownsRow L 5 1 iv (x.n * 512) ((imgL (x.put at' i bs)).map B) := hH.all (imE L iv (x.put at' i bs)) (by simp)
          obtain ⟨b9, o9, rfl, hcell⟩ := by_cellW (HB.out wr hbl hH.drop.drop) (by omega : i < 512)
          have d2 : wr.cell? ⟨kb, 2, none⟩ = some (.slice (some ⟨ig, 0, none⟩) (x.n * 512) ic) := by rw [← HIV.out]; exact hH.boxB.cell 2
          rw [HIV.out] at hrow
          have hx : ∃ v, wr.cell? ⟨ig, at' * 512 + i, none⟩ = some v := by
            have hl9 : (imgL (x.put at' i bs)).length = 512 * x.n := by rw [imgL_len]; rfl
            have := hrow.cells (g := ig) rfl (at' * 512 + i) (B ((imgL (x.put at' i bs))[at' * 512 + i]'(by omega))) (by rw [List.getElem?_map, List.getElem?_eq_getElem (by omega)]; rfl)
            rw [addr_add, Nat.zero_add] at this
            exact ⟨_, this⟩
          obtain ⟨v9, hx⟩ := hx
          obtain ⟨u, hu⟩ : ∃ u, u = bs.getD i 0 := ⟨_, rfl⟩
          have HN : Hid (∀ q, Held (boxE L kb (deskC p jv iv false 0 torn hv next dead sb) 64 :: imE L iv (x.put at' (i + 1) bs) :: R) ((wr.drewN q).setCell ⟨ig, at' * 512 + i, none⟩ (.int .u8 (u.toNat : Int))) ∧ Below L w ((wr.drewN q).setCell ⟨ig, at' * 512 + i, none⟩ (.int .u8 (u.toNat : Int)))) := fun q => by
            have hrq : (wr.drewN q).ownsRow L 5 1 (.slice (some ⟨ig, 0, none⟩) (x.n * 512) ic) (x.n * 512) ((imgL (x.put at' i bs)).map B) := ownsRow_same hrow (fun _ _ => rfl)
            have h5 := (own_setB (k := at' * 512 + i) hrq u).1
            rw [hu, ← imgL_put x at' i bs ha (by omega), ← HIV.out, ← hu] at h5
            have h6 := hH.drewN q
            have hgi : ∀ j, (imE L iv (x.put at' i bs)).bl j ↔ j = ig := fun j => by
              show iv.ownBlock = some j ↔ j = ig
              rw [HIV.out]
              exact ⟨fun e => by cases e; rfl, fun e => by rw [e]; rfl⟩
            refine ⟨Held.at (pre := [_]) (e := imE L iv (x.put at' i bs)) (e' := imE L iv (x.put at' (i + 1) bs)) h6 ((setCell_chg _ _ _ _).mono (fun j _ e => (hgi j).2 e)) h5 (fun j hj => Or.inl hj), (below_dr hbl q).trans ((setCell_chg _ _ _ _).below (by have := hH.lowL (k := kb) rfl; exact this) (fun j e => by rw [e]; exact (ownsRow_lt hrow rfl).1))⟩
          have hf : wr.frozen? ⟨ig, at' * 512 + i, none⟩ = false := (own_setB (k := at' * 512 + i) hrow u).2
          rw [← hu] at hcell
          clear hrow hu hH hbl
          go_wp2_with fail
          go_region
          all_goals
            go_wp2_with fail
            go_roundw
            case rel => exact ⟨i + 1, by omega, by go_num, by first | exact HN.out 1 | exact HN.out 0⟩
            case measure => simp [intOf]; omega
        · have hlti : ¬ ((i : Int) < (512 : Int)) := by omega
          obtain rfl : i = 512 := by omega
          have d4 : wr.cell? ⟨kb, 4, none⟩ = some (.int .i64 0) := hH.boxB.cell 4
          have f4 : wr.frozen? ⟨kb, 4, none⟩ = false := hH.boxB.frozen 4
          have d3 : (wr.setCell ⟨kb, 4, none⟩ (.int .i64 (-1))).cell? ⟨kb, 3, none⟩ = some (.bool false) := (hH.boxSet 4 (.int .i64 (-1))).boxB.cell 3
          have HN : Hid (Held (boxE L kb (deskC p jv iv false (-1) torn hv next dead sb) 64 :: imE L iv (x.put at' 512 bs) :: R) (wr.setCell ⟨kb, 4, none⟩ (.int .i64 (-1))) ∧ Below L w (wr.setCell ⟨kb, 4, none⟩ (.int .i64 (-1)))) := ⟨hH.boxSet 4 (.int .i64 (-1)), hbl.trans ((setCell_chg _ _ _ _).below (hH.lowL (k := kb) rfl) (fun j e => by rw [e]; exact (hH.all _ (List.mem_cons_self ..)).2))⟩
          clear hH hbl
          go_wp2_with fail
          go_ret
          exact ⟨rfl, HN.out.1, HN.out.2⟩
end Go.Proofs.Ytcnokgphioigoaa
