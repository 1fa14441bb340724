import Derived.Test.YtehjdkdoalmaeaaMove
namespace Go.Proofs.Ytehjdkdoalmaeaa
open Go.RowKit Go.PlainAid
set_option linter.unusedVariables false
set_option linter.unusedSimpArgs false

set_option maxRecDepth 100000 in
set_option maxHeartbeats 1600000 in
/-- Double, where there is no such letter. -/
theorem double_no {base hb room : Nat} {v : Value} {ls : List LetV} (w : World) (hS : Bag base hb room v ls w) (i : Int) (hi : ¬ (0 ≤ i ∧ i < ls.length)) :
    Calls Try.prog 18 #[.pointer (some ⟨hb, 0, none⟩), .int .i64 i] w fun e w' => e = .returned (.int .i64 40) ∧ w' = w := by
  have hh := has_any _ hS i
  rw [show (decide (0 ≤ i) && decide (i < ls.length)) = false from by simp; omega] at hh
  clear hS
  go_enter Try.func18, Try.ntmps18
  go_wp2_with (first | (go_at_call 28; refine hh.mono ?_; rintro e1 w1 ⟨rfl, rfl⟩) | fail)
  go_ret
  exact ⟨rfl, rfl⟩

set_option maxRecDepth 100000 in
set_option maxHeartbeats 1600000 in
/-- Double, where there is no room. -/
theorem double_full {base hb room : Nat} {v : Value} {ls : List LetV} (w : World) (hS : Bag base hb room v ls w) (hroom : room ≤ 1024) (hlen : ls.length = room) (i : Nat) (l : LetV) (hi : ls[i]? = some l) :
    Calls Try.prog 18 #[.pointer (some ⟨hb, 0, none⟩), .int .i64 (i : Nat)] w fun e w' => e = .returned (.int .i64 41) ∧ Below w.heap.size w w' := by
  have hil := (List.getElem?_eq_some_iff.1 hi).1
  have hh := has_any _ hS i
  rw [show (decide ((0 : Int) ≤ i) && decide ((i : Int) < ls.length)) = true from by simp; omega] at hh
  have hc1 := hS.c1
  obtain ⟨lao, lcap, hld, _⟩ := own_slice (hS.dat l (List.mem_of_getElem? hi))
  have hsend := send_full w hS hroom hlen l.d l.f l.t
  rw [hld] at hsend
  obtain ⟨g, cap, rfl, hcap, m0, m1, m2⟩ := hS.at_ hi
  rw [hld] at m2
  clear hS
  go_enter Try.func18, Try.ntmps18
  go_wp2_with (first | (go_at_call 28; refine hh.mono ?_; rintro e1 w1 ⟨rfl, rfl⟩) | fail)
  refine hsend.mono ?_
  rintro e2 w2 ⟨rfl, hb2⟩
  clear hsend hh m0 m1 m2 hc1
  go_wp2
  go_ret
  exact ⟨rfl, hb2⟩

set_option maxRecDepth 100000 in
set_option maxHeartbeats 1600000 in
/-- Double, where there is room. -/
theorem double_room {base hb room : Nat} {v : Value} {ls : List LetV} (w : World) (hS : Bag base hb room v ls w) (hroom : room ≤ 1024) (hlen : ls.length < room) (hbase : base ≤ w.heap.size) (i : Nat) (l : LetV) (hi : ls[i]? = some l) (hsz : l.bs.length ≤ 140737488355328) :
    Calls Try.prog 18 #[.pointer (some ⟨hb, 0, none⟩), .int .i64 (i : Nat)] w fun e w' => e = .returned (.int .i64 0) ∧ ∃ v' d', Bag base hb room v' (ls ++ [⟨l.f, l.t, d', l.bs⟩]) w' ∧ Stp hb v v' w w' ∧ ∀ j, d'.ownBlock = some j → w.heap.size ≤ j := by
  have hil := (List.getElem?_eq_some_iff.1 hi).1
  have hh := has_any _ hS i
  rw [show (decide ((0 : Int) ≤ i) && decide ((i : Int) < ls.length)) = true from by simp; omega] at hh
  have hc1 := hS.c1
  have hdat := hS.dat l (List.mem_of_getElem? hi)
  obtain ⟨lao, lcap, hld, _, lnil, lfrom, _⟩ := own_from hdat
  have hsend := send_room w hS hroom hlen hbase l.f l.t lao l.bs.length lcap l.bs rfl lnil hsz lfrom (fun b o e => (hdat.lt b (by rw [hld, e]; rfl)).2)
  obtain ⟨g, cap, rfl, hcap, m0, m1, m2⟩ := hS.at_ hi
  rw [hld] at m2
  clear hS hdat
  go_enter Try.func18, Try.ntmps18
  go_wp2_with (first | (go_at_call 28; refine hh.mono ?_; rintro e1 w1 ⟨rfl, rfl⟩) | fail)
  refine hsend.mono ?_
  rintro e2 w2 ⟨rfl, hpost⟩
  have HP : Hid _ := hpost
  clear hsend hh m0 m1 m2 hc1 hpost
  go_wp2
  go_ret
  exact ⟨rfl, HP.out⟩

set_option maxRecDepth 100000 in
set_option maxHeartbeats 1600000 in
/-- Drop, where there is no such letter. -/
theorem drop_no {base hb room : Nat} {v : Value} {ls : List LetV} (w : World) (hS : Bag base hb room v ls w) (i : Int) (hi : ¬ (0 ≤ i ∧ i < ls.length)) :
    Calls Try.prog 19 #[.pointer (some ⟨hb, 0, none⟩), .int .i64 i] w fun e w' => e = .returned (.int .i64 40) ∧ Below w.heap.size w w' := by
  have hd := deliver_no w hS i hi
  clear hS
  go_enter Try.func19, Try.ntmps19
  go_wp2_with fail
  refine hd.mono ?_
  rintro e1 w1 ⟨rfl, hb1⟩
  have hBz : Blk (w1.alloc (.cells #[.int .i64 0, .int .i64 0, .slice none 0 0] 31)) w1.heap.size zeroL 31 := heap_alloc_new w1 _
  have hbl : Below w.heap.size w ((w1.alloc (.cells #[.int .i64 0, .int .i64 0, .slice none 0 0] 31)).setRow w1.heap.size zeroL) := below_setRow' (hb1.alloc hb1.size _) hb1.size
  have hall : zeroL.all (·.oneCell') = true := by simp [zeroL, Value.oneCell']
  have HB : Hid _ := hbl
  clear hbl hb1 hd
  go_wp2_with (first | (refine wpList_store_row rfl 31 (.tmp 5) (.tmp 11) rfl w1.heap.size zeroL rfl rfl 31 _ hBz (by kernel_rfl) rfl hall ?_) | fail)
  go_ret
  exact ⟨rfl, HB.out⟩

theorem Bag.after {base hb room : Nat} {v v' : Value} {ls : List LetV} {w w1 w2 : World} (h : Bag base hb room v' ls w1) (hst : Stp hb v v' w w1) (hk : ∀ k, k < w1.heap.size → w2.heap[k]? = w1.heap[k]?) (ho : w2.os = w1.os ∧ w2.tape = w1.tape ∧ w2.output = w1.output ∧ w1.heap.size ≤ w2.heap.size) : Bag base hb room v' ls w2 ∧ Stp hb v v' w w2 :=
  ⟨h.keep hk, ⟨ho.1.trans hst.os, ho.2.1.trans hst.tape, ho.2.2.1.trans hst.output, Nat.le_trans hst.size ho.2.2.2, fun k h0 h1 h2 => (hk k (Nat.lt_of_lt_of_le h0 hst.size)).trans (hst.block k h0 h1 h2), hst.at'⟩⟩

set_option maxRecDepth 100000 in
set_option maxHeartbeats 1600000 in
/-- Drop. -/
theorem drop_at {base hb room : Nat} {v : Value} {ls : List LetV} (w : World) (hS : Bag base hb room v ls w) (hroom : ls.length ≤ 1024) (i : Nat) (l : LetV) (hi : ls[i]? = some l) :
    Calls Try.prog 19 #[.pointer (some ⟨hb, 0, none⟩), .int .i64 (i : Nat)] w fun e w' => e = .returned (.int .i64 0) ∧ ∃ v', Bag base hb room v' (ls.eraseIdx i) w' ∧ Stp hb v v' w w' := by
  have hd := deliver_at w hS hroom i l hi
  have hall : l.c.all (·.oneCell') = true := by
    obtain ⟨x, y, h, _⟩ := own_slice (hS.dat _ (List.mem_of_getElem? hi))
    simp [LetV.c, letC, h, Value.oneCell']
  clear hS
  go_enter Try.func19, Try.ntmps19
  go_wp2_with fail
  refine hd.mono ?_
  rintro e1 w1 ⟨rfl, v', hB', hst⟩
  have hBz : (w1.alloc (.cells #[.int .i64 0, .int .i64 0, .slice none 0 0] 31)).heap[w1.heap.size]? = some (.cells #[.int .i64 0, .int .i64 0, .slice none 0 0] 31 (0, 0)) := heap_alloc_new w1 _
  have hpost := hB'.after (w2 := (w1.alloc (.cells #[.int .i64 0, .int .i64 0, .slice none 0 0] 31)).setRow w1.heap.size l.c) hst (fun k hk => (heap_setRow_other _ _ _ (by omega)).trans (Below.heap_alloc _ _ _ hk)) ⟨rfl, rfl, rfl, by simp [World.setRow]⟩
  have HP : Hid _ := hpost
  clear hpost hB' hst hd
  go_wp2_with (first | (refine wpList_store_row rfl 31 (.tmp 5) (.tmp 11) rfl w1.heap.size l.c rfl rfl 31 _ hBz (by kernel_rfl) rfl hall ?_) | fail)
  go_ret
  exact ⟨rfl, v', HP.out.1, HP.out.2⟩
end Go.Proofs.Ytehjdkdoalmaeaa
