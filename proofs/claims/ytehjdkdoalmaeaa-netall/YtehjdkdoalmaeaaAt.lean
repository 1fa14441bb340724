import Derived.Test.YtehjdkdoalmaeaaDel
import Derived.Test.YtehjdkdoalmaeaaIns
namespace Go.Proofs.Ytehjdkdoalmaeaa
open Go.RowKit Go.PlainAid
set_option linter.unusedVariables false
set_option linter.unusedSimpArgs false

set_option maxRecDepth 100000 in
set_option maxHeartbeats 1600000 in
/-- At, where there is no such letter. -/
theorem at_no {base hb room : Nat} {v : Value} {ls : List LetV} (w : World) (hS : Bag base hb room v ls w) (i : Int) (hi : ¬ (0 ≤ i ∧ i < ls.length)) :
    Calls Try.prog 16 #[.pointer (some ⟨hb, 0, none⟩), .int .i64 i] w fun e w' => e = .returned (.tuple #[.agg zeroL, .int .i64 40]) ∧ Below w.heap.size w w' := by
  have hgr : Below w.heap.size w (w.alloc (.cells #[.int .i64 0, .int .i64 0, .slice none 0 0] 31)) := by go_grown
  have hh := has_any _ (hS.below hgr) i
  rw [show (decide (0 ≤ i) && decide (i < ls.length)) = false from by simp; omega] at hh
  have hB : Blk ((w.alloc (.cells #[.int .i64 0, .int .i64 0, .slice none 0 0] 31)).setRow w.heap.size zeroL) w.heap.size zeroL 31 := setRow_heap _ _ _ _ 31 _ (zeroL_blk w)
  have hbl : Below w.heap.size w ((w.alloc (.cells #[.int .i64 0, .int .i64 0, .slice none 0 0] 31)).setRow w.heap.size zeroL) := below_setRow' hgr (Nat.le_refl _)
  have hall : zeroL.all (·.oneCell') = true := by simp [zeroL, Value.oneCell']
  have HB : Hid _ := hbl
  clear hgr hbl
  go_enter Try.func16, Try.ntmps16
  go_wp2_with (first | (go_at_call 28; refine hh.mono ?_; rintro e1 w1 ⟨rfl, rfl⟩) | (refine wpList_store_row rfl 31 (.tmp 4) (.tmp 10) rfl w.heap.size zeroL rfl rfl 31 _ (zeroL_blk w) (by kernel_rfl) rfl hall ?_) | fail)
  exact bodyPost_ret (results_cellT Try.results16 _ _ w.heap.size zeroL rfl (run_loadVar_row _ _ 31 31 zeroL (0, 0) _ hB Try.underlying31 rfl (by kernel_rfl))) rfl ⟨rfl, HB.out⟩

set_option maxRecDepth 100000 in
set_option maxHeartbeats 1600000 in
/-- At. -/
theorem at_at {base hb room : Nat} {v : Value} {ls : List LetV} (w : World) (hS : Bag base hb room v ls w) (hroom : ls.length ≤ 1024) (i : Nat) (l : LetV) (hi : ls[i]? = some l) (hsz : l.bs.length ≤ 140737488355328) :
    Calls Try.prog 16 #[.pointer (some ⟨hb, 0, none⟩), .int .i64 (i : Nat)] w fun e w' => ∃ d, e = .returned (.tuple #[.agg (letC l.f l.t d), .int .i64 0]) ∧ w'.ownsRow w.heap.size 5 1 d l.bs.length (l.bs.map B) ∧ Below w.heap.size w w' := by
  have hil := (List.getElem?_eq_some_iff.1 hi).1
  have hgr : Below w.heap.size w (w.alloc (.cells #[.int .i64 0, .int .i64 0, .slice none 0 0] 31)) := by go_grown
  have hS1 := hS.below hgr
  have hh := has_any _ hS1 i
  rw [show (decide ((0 : Int) ≤ i) && decide ((i : Int) < ls.length)) = true from by simp; omega] at hh
  have hc1 := hS1.c1
  obtain ⟨g, cap, rfl, hcap, m0, m1, m2⟩ := hS1.at_ hi
  obtain ⟨lao, lcap, hld, _, lnil, lfrom, _⟩ := own_from (hS1.dat l (List.mem_of_getElem? hi))
  have hlike := like_any l.f l.t lao l.bs.length lcap l.bs _ rfl lnil hsz lfrom
  rw [hld] at m2
  have HG : Hid _ := hgr
  clear hS1 hgr hS
  go_enter Try.func16, Try.ntmps16
  go_wp2_with (first | (go_at_call 28; refine hh.mono ?_; rintro e1 w1 ⟨rfl, rfl⟩) | fail)
  refine hlike.mono ?_
  rintro e2 W ⟨d, rfl, hd, hbW⟩
  have hW4 : Blk W w.heap.size zeroL 31 := (hbW.block w.heap.size (by simp)).trans (zeroL_blk w)
  have hW5 : Blk (W.setRow w.heap.size (letC l.f l.t d)) w.heap.size (letC l.f l.t d) 31 := setRow_heap _ _ _ _ 31 _ hW4
  have hall : (letC l.f l.t d).all (·.oneCell') = true := by
    obtain ⟨x, y, h, _⟩ := own_slice hd
    rw [h]
    simp [letC, Value.oneCell']
  have hd2 : (W.setRow w.heap.size (letC l.f l.t d)).ownsRow w.heap.size 5 1 d l.bs.length (l.bs.map B) := by
    refine ownsRow_mono (ownsRow_same hd fun j hj => heap_setRow_other _ _ _ ?_) (by simp)
    have := (hd.lt j hj).1
    rw [World.size_alloc] at this
    omega
  have hb2 : Below w.heap.size w (W.setRow w.heap.size (letC l.f l.t d)) := below_setRow' (HG.out.trans (hbW.mono (by simp))) (Nat.le_refl _)
  clear hd hbW hlike hh
  go_wp2_with (first | (refine wpList_store_row rfl 31 (.tmp 4) (.tmp 18) rfl w.heap.size (letC l.f l.t d) rfl rfl 31 _ hW4 (by kernel_rfl) rfl hall ?_) | fail)
  exact bodyPost_ret (results_cellT Try.results16 _ _ w.heap.size (letC l.f l.t d) rfl (run_loadVar_row _ _ 31 31 (letC l.f l.t d) (0, 0) _ hW5 Try.underlying31 rfl (by kernel_rfl))) rfl ⟨d, rfl, hd2, hb2⟩
end Go.Proofs.Ytehjdkdoalmaeaa
