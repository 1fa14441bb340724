import Derived.Test.YtboghanldbmfmabDoorShelf2
namespace Go.Proofs.YtboghanldbmfmabDoor
open Go.RowKit

def marks : List UInt8 := (List.range 40).map fun i => UInt8.ofNat (167 + i)
theorem marks_get (i : Nat) (h : i < 40) : marks[i]? = some (UInt8.ofNat (167 + i)) := by simp [marks, h]

/-- What lies in the lent memory while its end is marked. -/
def marked (ps X : List UInt8) (i : Nat) : List UInt8 := ps ++ (marks.take i ++ X.drop (ps.length + i))
theorem marked_len (ps X : List UInt8) (i : Nat) (hX : X.length = ps.length + 40) (hi : i ≤ 40) : (marked ps X i).length = ps.length + 40 := by
  have : marks.length = 40 := rfl
  simp [marked, hX]; omega
theorem marked_zero (ps X : List UInt8) : marked ps X 0 = splice X 0 ps := by simp [marked, splice]
theorem marked_full (ps X : List UInt8) (hX : X.length = ps.length + 40) : marked ps X 40 = ps ++ marks := by
  have : marks.take 40 = marks := List.take_of_length_le (by decide)
  simp [marked, this, List.drop_eq_nil_of_le (show X.length ≤ ps.length + 40 from by omega)]
theorem marked_succ (ps X : List UInt8) (i : Nat) (hX : X.length = ps.length + 40) (hi : i < 40) : (marked ps X i).set (ps.length + i) (UInt8.ofNat (167 + i)) = marked ps X (i + 1) := by
  have hl : (marks.take i).length = i := by have : marks.length = 40 := rfl; simp; omega
  unfold marked
  rw [List.set_append_right _ _ (by omega), Nat.add_sub_cancel_left, List.set_append_right _ _ (by omega), hl, Nat.sub_self]
  have hd : X.drop (ps.length + i) = X.getD (ps.length + i) 0 :: X.drop (ps.length + (i + 1)) := by
    rw [List.drop_eq_getElem_cons (by omega)]
    congr 1
    rw [List.getD_eq_getElem?_getD, List.getElem?_eq_getElem (by omega)]; rfl
  rw [hd, List.set_cons_zero, List.take_add_one, marks_get i hi]
  simp

theorem only_src {w w' : World} {g : Nat} {ao : Option Addr} {ps : List UInt8} (hs : Src w ao ps) (hb : OnlyG g w w') (hne : ∀ ad, ao = some ad → ad.block ≠ g) : Src w' ao ps := by
  cases ao with
  | none => intro h0; obtain ⟨ad, e, _⟩ := hs h0; cases e
  | some ad => exact src_same hs (hb.block _ (hne ad rfl))

set_option maxHeartbeats 800000 in
theorem lend_any (L s : Nat) (w : World) (m : Nat) (lv hv : Value) (ls : List (Value × List UInt8)) (lent : Option (Nat × List UInt8)) (fv wv : Value) (fs : List (Value × List UInt8))
    (ao : Option Addr) (n cap : Nat) (ps : List UInt8) (hS : Shelf L s w m lv hv ls lent fv wv fs) (hn : ps.length = n) (hm : n ≤ 65536) (hsrc : Src w ao ps)
    (hLw : L ≤ w.heap.size) :
    Calls Tryd.prog 16 #[.pointer (some ⟨s, 0, none⟩), .slice ao n cap] w fun e w' => ∃ g, e = .returned (.slice (some ⟨g, 0, none⟩) (n + 40) (n + 40)) ∧ Shelf L s w' m lv hv ls (some (g, ps ++ marks)) fv wv fs ∧
      (∀ k cur, w.heap[k]? = some (.cells cur 5 (0, 0)) → (∀ g' bs, lent = some (g', bs) → k ≠ g') → w'.heap[k]? = w.heap[k]? ∧ k ≠ g) ∧ Below L w w' := by
  have hblk := hS.blk
  have c3 : w.cell? ⟨s, 3, none⟩ = some (lentV lent) := by rw [cell_of_row w s 3 _ 28 (0, 0) hblk]; rfl
  obtain ⟨i0, hi, hz0, hz1, hz2⟩ := info_parts Tryd.info5
  by_cases hcase : ∃ g X, lent = some (g, X) ∧ X.length = n + 40
  · obtain ⟨g, X, rfl, hX⟩ := hcase
    obtain ⟨hLg, hR⟩ := hS.lentR g X rfl
    obtain ⟨w1, hcopy, hR1, hO1⟩ := copy_only (ao := ao) (dLen := n + 40) (dCap := n + 40) (off := 0) (cap := cap) hR hn (by omega) (by omega) hsrc
    rw [← marked_zero] at hR1
    simp only [lentV, hX] at c3
    have hbn : (((n : Int) + 40) != ((n : Int) + 40)) = false := by simp
    clear hblk
    go_enter Tryd.func16, Tryd.ntmps16
    go_wp2
    clear hcopy c3 hbn
    go_loopw [6] (fun i wr => ∃ q : Nat, q ≤ 40 ∧ i = .int .i64 q ∧ Row wr g (marked ps X q) ∧ OnlyG g w wr) (fun i _ => 40 - (intOf i).toNat)
    case atStart => exact ⟨0, by omega, rfl, hR1, hO1⟩
    case round =>
      obtain ⟨q, hq, rfl, hRq, hOq⟩ := hrel
      clear hR1 hO1
      by_cases hlt : q < 40
      · have hml := marked_len ps X q (by omega) hq
        have hc := hRq.cell (n + q) _ (getD_some (marked ps X q) (n + q) (by omega))
        have hfz := hRq.frozen (n + q)
        have hR2 := hRq.set (ps.length + q) (UInt8.ofNat (167 + q))
        rw [marked_succ ps X q (by omega) hlt, hn] at hR2
        have hO2 := hOq.setCell (n + q) (B (UInt8.ofNat (167 + q)))
        have hv : B (UInt8.ofNat (167 + q)) = .int .u8 (167 + (q : Int)) := by
          rw [B]; exact val_u8 (by simp; omega)
        rw [hv] at hR2 hO2
        simp only [B] at hc
        clear hRq hOq hv
        generalize ((marked ps X q).getD (n + q) 0).toNat = z at *
        go_wp2
        go_roundw
        case rel => exact ⟨q + 1, by omega, by go_num, hR2, hO2⟩
        case measure => simp [intOf]; omega
      · obtain rfl : q = 40 := by omega
        rw [marked_full ps X (by omega)] at hRq
        have hlen : (ps ++ marks).length = n + 40 := by rw [List.length_append, hn]; rfl
        have hSr : Shelf L s wr m lv hv ls (some (g, ps ++ marks)) fv wv fs := hS.relent hOq hRq (by omega)
        have hcell : wr.cell? ⟨s, 3, none⟩ = some (lentV (some (g, ps ++ marks))) := by rw [cell_of_row wr s 3 _ 28 (0, 0) hSr.blk]; rfl
        have hfz : wr.frozen? ⟨s, 3, none⟩ = false := by have := hSr.blk; simp [World.frozen?, this]
        have hfin := hSr.setLent hLg hRq (hS.lsep g X rfl) (hS.fsep g X rfl)
        have hkeep : ∀ k cur, w.heap[k]? = some (.cells cur 5 (0, 0)) → (∀ g' bs, some (g, X) = some (g', bs) → k ≠ g') → (wr.setCell ⟨s, 3, none⟩ (lentV (some (g, ps ++ marks)))).heap[k]? = w.heap[k]? ∧ k ≠ g := by
          intro k cur hk hkg
          have hks : k ≠ s := by
            intro e
            subst e
            have h2 := hS.blk
            rw [hk] at h2
            simp at h2
          exact ⟨(Below.heap_setCell _ _ _ _ hks).trans (hOq.block k (hkg g X rfl)), hkg g X rfl⟩
        have hbl : Below L w (wr.setCell ⟨s, 3, none⟩ (lentV (some (g, ps ++ marks)))) := (hOq.below hLg).setCell hS.base _
        simp only [lentV, hlen] at hfin hkeep hbl hcell
        clear hSr hRq hOq
        go_wp2
        go_ret
        exact ⟨g, rfl, hfin, hkeep, hbl⟩
  · obtain ⟨co, ln, hlv, hln⟩ : ∃ co ln, lentV lent = .slice co ln ln ∧ ln ≠ n + 40 := by
      cases lent with
      | none => exact ⟨none, 0, rfl, by omega⟩
      | some x =>
        obtain ⟨g0, X0⟩ := x
        exact ⟨_, X0.length, rfl, fun e => hcase ⟨g0, X0, rfl, e⟩⟩
    rw [hlv] at c3
    have hbn : ((ln : Int) != ((n : Int) + 40)) = true := by rw [bne_iff_ne]; omega
    clear hblk hcase
    go_enter Tryd.func16, Tryd.ntmps16
    go_wp2_with (first
      | (at_make; go_must (refine wpList_make_full _ rfl _ _ 22 rfl w.heap.size 5 i0 _ 1 Tryd.underlying22 hi hz0 hz1 _ _ _ _ (n + 40) rfl rfl (by omega) (by omega) (by rw [hz2]; omega) (by unfold maxLen; omega) (Nat.le_refl _) ?_))
      | fail)
    intro w0 hown0 hg0
    have hR0 : Row w0 w.heap.size (List.replicate (n + 40) 0) := by
      refine row_of_owns (base := w.heap.size) (n := n + 40) ?_
      have e : (madeCells #[Value.int .u8 0] (n + 40)).toList = (List.replicate (n + 40) (0 : UInt8)).map B := by
        rw [toList_madeCells_one, List.map_replicate]; rfl
      rw [← e]; exact hown0
    have hb0 : Below w.heap.size w w0 := (Below.refl _ _).grown hg0 (Nat.le_refl _) (fun k h => by cases h)
    clear hown0 hg0 hi hz0 hz1 hz2 c3 hbn
    obtain ⟨w1, hcopy, hR1, hO1⟩ := copy_only (ao := ao) (dLen := n + 40) (dCap := n + 40) (off := 0) (cap := cap) hR0 hn (by omega) (by simp) (src_keep hsrc hb0)
    rw [← marked_zero] at hR1
    have hX : (List.replicate (n + 40) (0 : UInt8)).length = n + 40 := by simp
    have hLg := hLw
    have hgg : w.heap.size = w.heap.size := rfl
    generalize List.replicate (n + 40) (0 : UInt8) = X at *
    go_wp2
    clear hcopy
    generalize hg : w.heap.size = g at *
    go_loopw [6] (fun i wr => ∃ q : Nat, q ≤ 40 ∧ i = .int .i64 q ∧ Row wr g (marked ps X q) ∧ OnlyG g w0 wr) (fun i _ => 40 - (intOf i).toNat)
    case atStart => exact ⟨0, by omega, rfl, hR1, hO1⟩
    case round =>
      obtain ⟨q, hq, rfl, hRq, hOq⟩ := hrel
      clear hR1 hO1
      by_cases hlt : q < 40
      · have hml := marked_len ps X q (by omega) hq
        have hc := hRq.cell (n + q) _ (getD_some (marked ps X q) (n + q) (by omega))
        have hfz := hRq.frozen (n + q)
        have hR2 := hRq.set (ps.length + q) (UInt8.ofNat (167 + q))
        rw [marked_succ ps X q (by omega) hlt, hn] at hR2
        have hO2 := hOq.setCell (n + q) (B (UInt8.ofNat (167 + q)))
        have hv : B (UInt8.ofNat (167 + q)) = .int .u8 (167 + (q : Int)) := by
          rw [B]; exact val_u8 (by simp; omega)
        rw [hv] at hR2 hO2
        simp only [B] at hc
        clear hRq hOq hv
        generalize ((marked ps X q).getD (n + q) 0).toNat = z at *
        go_wp2
        go_roundw
        case rel => exact ⟨q + 1, by omega, by go_num, hR2, hO2⟩
        case measure => simp [intOf]; omega
      · obtain rfl : q = 40 := by omega
        rw [marked_full ps X (by omega)] at hRq
        have hlen : (ps ++ marks).length = n + 40 := by rw [List.length_append, hn]; rfl
        have hSr : Shelf L s wr m lv hv ls lent fv wv fs := hS.same fun k hk => (hOq.block k (by omega)).trans (hb0.block k (by omega))
        have hcell : wr.cell? ⟨s, 3, none⟩ = some (lentV lent) := by rw [cell_of_row wr s 3 _ 28 (0, 0) hSr.blk]; rfl
        have hfz : wr.frozen? ⟨s, 3, none⟩ = false := by have := hSr.blk; simp [World.frozen?, this]
        have hfin := hSr.setLent hLg hRq (fun e he hh => by have := ((hS.lsE e he).lt hh).1; omega) (fun e he hh => by have := ((hS.fsE e he).lt hh).1; omega)
        have hkeep : ∀ k cur, w.heap[k]? = some (.cells cur 5 (0, 0)) → (∀ g' bs, lent = some (g', bs) → k ≠ g') → (wr.setCell ⟨s, 3, none⟩ (lentV (some (g, ps ++ marks)))).heap[k]? = w.heap[k]? ∧ k ≠ g := by
          intro k cur hk hkg
          have hks : k ≠ s := by
            intro e
            subst e
            have h2 := hS.blk
            rw [hk] at h2
            simp at h2
          have hkl := (Array.getElem?_eq_some_iff.1 hk).1
          exact ⟨(Below.heap_setCell _ _ _ _ hks).trans ((hOq.block k (by omega)).trans (hb0.block k (by omega))), by omega⟩
        have hbl : Below L w (wr.setCell ⟨s, 3, none⟩ (lentV (some (g, ps ++ marks)))) := ((hb0.mono hLw).trans (hOq.below hLg)).setCell hS.base _
        simp only [lentV, hlen] at hfin hkeep hbl 
        rw [hlv] at hcell
        clear hSr hRq hOq
        go_wp2
        go_ret
        exact ⟨g, rfl, hfin, hkeep, hbl⟩
end Go.Proofs.YtboghanldbmfmabDoor
