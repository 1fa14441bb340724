import Derived.Test.YtehjdkdoalmaeaaTake
namespace Go.Proofs.Ytehjdkdoalmaeaa
open Go.RowKit Go.PlainAid
set_option linter.unusedVariables false
set_option linter.unusedSimpArgs false
theorem results_cellT {fn : Func} {p x : Tmp} {ty : TypeId} (h : fn.results = #[.cell p ty, .tmp x]) (tmps : Array Value) (w : World) (g : Nat) (cs : Array Value)
    (hp : tmps.getD p undef = .pointer (some ⟨g, 0, none⟩)) (hl : (loadVar ty ⟨g, 0, none⟩).run Try.prog w = .ok (.agg cs) w) :
    (results fn tmps).run Try.prog w = .ok (.tuple #[.agg cs, tmps.getD x undef]) w := by
  have hp' : tmps[p]?.getD undef = .pointer (some ⟨g, 0, none⟩) := by simpa using hp
  simp [results, h, hp', asAddr, hl]
def zeroL : Array Value := #[.int .i64 0, .int .i64 0, .slice none 0 0]
theorem zeroL_blk (w : World) : Blk (w.alloc (.cells #[.int .i64 0, .int .i64 0, .slice none 0 0] 31)) w.heap.size zeroL 31 := heap_alloc_new w _

set_option maxRecDepth 100000 in
set_option maxHeartbeats 1600000 in
/-- Deliver, where there is no such letter. -/
theorem deliver_no {base hb room : Nat} {v : Value} {ls : List LetV} (w : World) (hS : Bag base hb room v ls w) (i : Int) (hi : ¬ (0 ≤ i ∧ i < ls.length)) :
    Calls Try.prog 13 #[.pointer (some ⟨hb, 0, none⟩), .int .i64 i] w fun e w' => e = .returned (.tuple #[.agg zeroL, .int .i64 40]) ∧ Below w.heap.size w w' := by
  have hgr : Below w.heap.size w (w.alloc (.cells #[.int .i64 0, .int .i64 0, .slice none 0 0] 31)) := by go_grown
  have hh := has_any _ (hS.below hgr) i
  rw [show (decide (0 ≤ i) && decide (i < ls.length)) = false from by simp; omega] at hh
  have hB : Blk ((w.alloc (.cells #[.int .i64 0, .int .i64 0, .slice none 0 0] 31)).setRow w.heap.size zeroL) w.heap.size zeroL 31 := setRow_heap _ _ _ _ 31 _ (zeroL_blk w)
  have hbl : Below w.heap.size w ((w.alloc (.cells #[.int .i64 0, .int .i64 0, .slice none 0 0] 31)).setRow w.heap.size zeroL) := below_setRow' hgr (Nat.le_refl _)
  have hall : zeroL.all (·.oneCell') = true := by simp [zeroL, Value.oneCell']
  have HB : Hid _ := hbl
  clear hgr hbl
  go_enter Try.func13, Try.ntmps13
  go_wp2_with (first | (go_at_call 28; refine hh.mono ?_; rintro e1 w1 ⟨rfl, rfl⟩) | (refine wpList_store_row rfl 31 (.tmp 4) (.tmp 10) rfl w.heap.size zeroL rfl rfl 31 _ (zeroL_blk w) (by kernel_rfl) rfl hall ?_) | fail)
  exact bodyPost_ret (results_cellT Try.results13 _ _ w.heap.size zeroL rfl (run_loadVar_row _ _ 31 31 zeroL (0, 0) _ hB Try.underlying31 rfl (by kernel_rfl))) rfl ⟨rfl, HB.out⟩

set_option maxRecDepth 100000 in
set_option maxHeartbeats 1600000 in
/-- Deliver. -/
theorem deliver_at {base hb room : Nat} {v : Value} {ls : List LetV} (w : World) (hS : Bag base hb room v ls w) (hroom : ls.length ≤ 1024) (i : Nat) (l : LetV) (hi : ls[i]? = some l) :
    Calls Try.prog 13 #[.pointer (some ⟨hb, 0, none⟩), .int .i64 (i : Nat)] w fun e w' => e = .returned (.tuple #[.agg l.c, .int .i64 0]) ∧ ∃ v', Bag base hb room v' (ls.eraseIdx i) w' ∧ Stp hb v v' w w' := by
  have hil := (List.getElem?_eq_some_iff.1 hi).1
  have hgr : Below w.heap.size w (w.alloc (.cells #[.int .i64 0, .int .i64 0, .slice none 0 0] 31)) := by go_grown
  have hS1 := hS.below hgr
  have hh := has_any _ hS1 i
  rw [show (decide ((0 : Int) ≤ i) && decide ((i : Int) < ls.length)) = true from by simp; omega] at hh
  have ht := take_any _ hS1 hroom i l hi
  have hl1 : ∃ x y, l.d = .slice x l.bs.length y := by obtain ⟨x, y, h, _⟩ := own_slice (hS.dat _ (List.mem_of_getElem? hi)); exact ⟨x, y, h⟩
  have hall : l.c.all (·.oneCell') = true := by
    obtain ⟨x, y, h⟩ := hl1
    simp [LetV.c, letC, h, Value.oneCell']
  have hne := hS1.ne
  have hS0 := hS
  have hblt := hS.lt
  have HG : Hid _ := hgr
  have hvlt : ∀ j, v.ownBlock = some j → j < w.heap.size := fun j hj => (hS.own.lt j hj).2
  clear hS1 hgr hl1
  go_enter Try.func13, Try.ntmps13
  go_wp2_with (first | (go_at_call 28; refine hh.mono ?_; rintro e1 w1 ⟨rfl, rfl⟩) | fail)
  refine ht.mono ?_
  rintro e2 W ⟨rfl, v', hB2, hst, _⟩
  have hW4 : Blk W w.heap.size zeroL 31 := (hst.block w.heap.size (by simp) (by omega) (fun e => by have := hvlt _ e; omega)).trans (zeroL_blk w)
  have hW5 : Blk (W.setRow w.heap.size l.c) w.heap.size l.c 31 := setRow_heap _ _ _ _ 31 _ hW4
  have hst1 : Stp hb v v' w W := (Stp.ofBelow v HG.out).trans hst
  have hv' : ∀ j, v'.ownBlock = some j → j ≠ w.heap.size := fun j hj e => by
    rcases hst.at' j hj with h | h
    · have := hvlt j h; omega
    · rw [World.size_alloc] at h; omega
  have hsz := hst1.size
  have hBag : Bag base hb room v' (ls.eraseIdx i) (W.setRow w.heap.size l.c) := by
    refine ⟨(heap_setRow_other _ _ _ (by omega)).trans hB2.blk, ownsRow_same hB2.own fun j hj => heap_setRow_other _ _ _ (hv' j hj), fun x hx => ownsRow_same (hB2.dat x hx) fun j hj => heap_setRow_other _ _ _ ?_⟩
    have := (hS0.dat x (List.mem_of_mem_eraseIdx hx)).lt j hj
    omega
  have hst2 : Stp hb v v' w (W.setRow w.heap.size l.c) := ⟨hst1.os, hst1.tape, hst1.output, by simp [World.setRow]; exact hsz, fun j h0 h1 h2 => (heap_setRow_other _ _ _ (by omega)).trans (hst1.block j h0 h1 h2), hst1.at'⟩
  clear hst hst1 hB2 hS0 hS hh ht
  go_wp2_with (first | (refine wpList_store_row rfl 31 (.tmp 4) (.tmp 13) rfl w.heap.size l.c rfl rfl 31 _ hW4 (by kernel_rfl) rfl hall ?_) | fail)
  exact bodyPost_ret (results_cellT Try.results13 _ _ w.heap.size l.c rfl (run_loadVar_row _ _ 31 31 l.c (0, 0) _ hW5 Try.underlying31 rfl (by kernel_rfl))) rfl ⟨rfl, v', hBag, hst2⟩
end Go.Proofs.Ytehjdkdoalmaeaa
