import Derived.Test.YtaiknlnjahjeiaaSrtS
import Derived.Sort.OwnSorted
namespace Go.Proofs.Ytaiknlnjahjeiaa
open Go.RowKit Go.PlainAid Go.Sort
set_option linter.unusedVariables false
set_option linter.unusedSimpArgs false
def sortL (ss : List (List UInt8)) : List (List UInt8) := ss.mergeSort fun x y => decide (x ≤ y)
theorem sortS_any {w : World} {base n : Nat} {v : Value} {ss : List (List UInt8)} (hown : w.ownsRow base 9 1 v n (flatS ss)) (hn : n = ss.length) (hl : n ≤ 100000) :
    Calls Try.prog 80 #[v] w fun e w' => e = .returned (.tuple #[]) ∧ w'.ownsRow base 9 1 v n (flatS (sortL ss)) ∧ Chg (fun k => v.ownBlock = some k) w w' := by
  subst hn
  rcases hown.2 with ⟨rfl, h0⟩ | ⟨g, cap, cur, rfl, hb, hg, hc, hm, hcs, htk⟩
  · refine (AnyM.slices_Sort_string_none sortS none 0 w).mono ?_
    rintro e w' ⟨rfl, rfl⟩
    have : ss = [] := List.length_eq_zero_iff.1 h0
    subst this
    have e : sortL [] = [] := by simp [sortL]
    rw [e]
    exact ⟨rfl, hown, Chg.refl _ _⟩
  · have hH := holds_of_block (ss := ss) hg (by rw [← Nat.mul_one ss.length]; exact htk)
    have hc2 := AnyM.slices_Sort_string sortS g 0 cap ss w hH (Array.getElem?_eq_some_iff.1 hg).1 (by omega)
    refine Calls.mono (show Calls Try.prog 80 _ w _ from hc2) ?_
    rintro e w' ⟨rfl, nn, os, rfl⟩
    have hlen : (ss.mergeSort fun x y => decide (x ≤ y)).length = ss.length := by simp
    have hgr := grownBy_sorted (w := w) (g := g) (n := nn) (os := os) (ss.mergeSort fun x y => decide (x ≤ y)).toArray
    exact ⟨rfl, ownsRow_sorted hlen hb hg hc hm hcs, ⟨hgr.os, hgr.tape, hgr.output, hgr.size, fun k hk hn => hgr.block k hk (fun e => hn e.symm)⟩⟩
theorem sortL_perm (ss : List (List UInt8)) : (sortL ss).Perm ss := List.mergeSort_perm ss _
theorem sortL_sorted (ss : List (List UInt8)) : (sortL ss).Pairwise (fun x y => x ≤ y) := by
  have h := List.pairwise_mergeSort (le := fun x y : List UInt8 => decide (x ≤ y)) (fun a b c h1 h2 => by
    simp only [decide_eq_true_eq] at *
    exact List.le_trans h1 h2) (fun a b => by
    simp only [Bool.or_eq_true, decide_eq_true_eq]
    exact List.le_total a b) ss
  exact h.imp (fun h => by simpa using h)
set_option maxRecDepth 100000 in
set_option maxHeartbeats 1600000 in
theorem sortedS_any (Bm mb : Nat) (L : List (List UInt8 × Ct)) (w : World) (hc : w.cell? ⟨Bm, 0, none⟩ = some (.map (some mb))) (hM : Gm.HMap MC w mb L) (hL : L.length ≤ 100000) :
    Calls Try.prog 62 #[.func (.func 81) #[] #[.pointer (some ⟨Bm, 0, none⟩)]] w fun e W' => ∃ v ys, e = .returned v ∧ ys.Perm (L.map (·.1)) ∧ ys.Pairwise (fun a b => a ≤ b) ∧ W'.ownsRow w.heap.size 9 1 v ys.length (flatS ys) ∧ Below w.heap.size w W' := by
  have HA : Hid _ := colS_any Bm mb L w hc hM hL
  clear hc hM
  go_enter Try.func62, Try.ntmps62
  go_wp2_with fail
  refine Calls.mono HA.out ?_
  rintro e w2 ⟨v, ys, rfl, hp, hr, hb⟩
  have hlen : ys.length ≤ 100000 := by rw [hp.length_eq, List.length_map]; exact hL
  have HB : Hid _ := hb
  have HS : Hid _ := sortS_any hr rfl hlen
  have HP : Hid (ys.Perm (L.map (·.1))) := hp
  have HLO : Hid (∀ k, v.ownBlock = some k → w.heap.size ≤ k) := fun k e => (ownsRow_lt hr e).1
  obtain ⟨ao, cap, hv, _⟩ := own_slice hr
  subst hv
  clear HA hb hr hp hlen
  go_wp2_with fail
  refine Calls.mono HS.out ?_
  rintro e w3 ⟨rfl, h3, h4⟩
  have H3 : Hid (World.ownsRow w3 w.heap.size 9 1 (.slice ao ys.length cap) ys.length (flatS (sortL ys))) := h3
  have H4 : Hid (Below w.heap.size w w3) := HB.out.trans (h4.below HB.out.size (fun k e => HLO.out k e))
  clear h3 h4 HS
  go_wp2_with fail
  go_ret
  exact ⟨_, sortL ys, rfl, (sortL_perm ys).trans HP.out, sortL_sorted ys, by rw [(sortL_perm ys).length_eq]; exact H3.out, H4.out⟩
set_option maxRecDepth 100000 in
set_option maxHeartbeats 1600000 in
theorem names_any {ab mb : Nat} {L : List (List UInt8 × Ct)} (w : World) (h : AM ab mb L w) (hL : L.length ≤ 100000) :
    Calls Try.prog 39 #[.pointer (some ⟨ab, 0, none⟩)] w fun e W' => ∃ v ys, e = .returned v ∧ ys.Perm (L.map (·.1)) ∧ ys.Pairwise (fun a b => a ≤ b) ∧ W'.ownsRow w.heap.size 9 1 v ys.length (flatS ys) ∧ Below w.heap.size w W' := by
  have c3 : w.cell? ⟨ab, 0, none⟩ = some (.map (some mb)) := h.box.cell 0
  have HK : Hid (∀ w, _) := fun w => keysS_any mb w
  have hb1 : Below w.heap.size w (w.alloc (.cells #[.map (some mb)] 57)) := (Below.refl _ _).alloc (Nat.le_refl _) _
  have hB : Blk (w.alloc (.cells #[.map (some mb)] 57)) w.heap.size #[.map (some mb)] 57 := heap_alloc_new w _
  have HS : Hid _ := sortedS_any w.heap.size mb L (w.alloc (.cells #[.map (some mb)] 57)) (hB.cell 0) (h.map.same (hb1.block mb h.map.lt)) hL
  have HB1 : Hid _ := hb1
  clear hb1 hB h
  go_enter Try.func39, Try.ntmps39
  go_wp2_with fail
  refine Calls.mono (HK.out _) ?_
  rintro e w1 ⟨rfl, hw1⟩
  subst hw1
  clear HK
  go_wp2_with fail
  refine Calls.mono HS.out ?_
  rintro e w2 ⟨v, ys, rfl, h1, h2, h3, h4⟩
  have H1 : Hid (ys.Perm (L.map (·.1))) := h1
  have H2 : Hid (ys.Pairwise fun a b => a ≤ b) := h2
  have H3 : Hid (World.ownsRow w2 w.heap.size 9 1 v ys.length (flatS ys)) := ownsRow_mono h3 (by simp)
  have H4 : Hid (Below w.heap.size w w2) := HB1.out.trans (h4.mono HB1.out.size)
  clear h1 h2 h3 h4 HS
  go_wp2_with fail
  go_ret
  exact ⟨v, ys, rfl, H1.out, H2.out, H3.out, H4.out⟩
end Go.Proofs.Ytaiknlnjahjeiaa
