import Derived.Test.YtehjdkdoalmaeaaLet
namespace Go.Proofs.Ytehjdkdoalmaeaa
open Go.RowKit Go.PlainAid
set_option linter.unusedVariables false
set_option linter.unusedSimpArgs false

set_option maxRecDepth 100000 in
set_option maxHeartbeats 800000 in
theorem num_any (e : Int) (w : World) : Calls Try.prog 9 #[.int .i64 e] w fun r w' => r = .returned (.int .i64 e) ∧ w' = w := by
  go_enter Try.func9, Try.ntmps9
  go_wp2
  go_ret
  exact ⟨rfl, rfl⟩

set_option maxRecDepth 100000 in
set_option maxHeartbeats 800000 in
theorem new_any (room : Nat) (w : World) (h1 : 1 ≤ room) (h2 : room ≤ 1024) :
    Calls Try.prog 8 #[.int .i64 (room : Nat)] w fun r w' => r = .returned (.tuple #[.pointer (some ⟨w.heap.size, 0, none⟩), .int .i64 0]) ∧ w' = w.alloc (.cells #[.int .i64 (room : Nat), .slice none 0 0] 54) := by
  go_enter Try.func8, Try.ntmps8
  go_wp2
  go_ret2
  exact ⟨rfl, rfl⟩
theorem new_bag (base room : Nat) (w : World) : Bag base w.heap.size room (.slice none 0 0) [] (w.alloc (.cells #[.int .i64 (room : Nat), .slice none 0 0] 54)) :=
  ⟨heap_alloc_new w _, World.ownsRow_nil _ _ _ _, fun l hl => by cases hl⟩

set_option maxRecDepth 100000 in
set_option maxHeartbeats 800000 in
theorem len_any {base hb room : Nat} {v : Value} {ls : List LetV} (w : World) (hS : Bag base hb room v ls w) :
    Calls Try.prog 12 #[.pointer (some ⟨hb, 0, none⟩)] w fun r w' => r = .returned (.int .i64 (ls.length : Nat)) ∧ w' = w := by
  have hc := hS.c1
  obtain ⟨ao, cap, rfl, _⟩ := own_slice hS.own
  go_enter Try.func12, Try.ntmps12
  go_wp2
  go_ret
  exact ⟨rfl, rfl⟩

set_option maxRecDepth 100000 in
set_option maxHeartbeats 800000 in
theorem has_any {base hb room : Nat} {v : Value} {ls : List LetV} (w : World) (hS : Bag base hb room v ls w) (i : Int) :
    Calls Try.prog 28 #[.pointer (some ⟨hb, 0, none⟩), .int .i64 i] w fun r w' => r = .returned (.bool (decide (0 ≤ i) && decide (i < ls.length))) ∧ w' = w := by
  have hc := hS.c1
  obtain ⟨ao, cap, rfl, _⟩ := own_slice hS.own
  by_cases h0 : 0 ≤ i
  · go_enter Try.func28, Try.ntmps28
    go_wp2
    go_ret
    exact ⟨by simp [h0], rfl⟩
  · go_enter Try.func28, Try.ntmps28
    go_wp2
    go_ret
    exact ⟨by rw [show decide (0 ≤ i) = false from decide_eq_false (by omega)]; rfl, rfl⟩

/-- bytes.Clone, of any slice. -/
theorem clone_any (ao : Option Addr) (k c : Nat) (s : List UInt8) (w : World) (hl : s.length = k) (hnil : ao = none → k = 0 ∧ c = 0) (hk : k ≤ 140737488355328) (hf : From w ao s) :
    Calls Try.prog 40 #[.slice ao k c] w fun e w' => ∃ v, e = .returned v ∧ w'.ownsRow w.heap.size 5 1 v k (s.map B) ∧ Below w.heap.size w w' := by
  have q29 : ∀ (w : World) (a : Option Addr) (n c n' c' : Nat), (binOp .eql 29 (.slice a n c) (.slice none n' c')).run Try.prog w = .ok (.bool a.isNone) w := fun w a n c n' c' => Lib.run_eql_slice_nil w _ _ a n c n' c' Try.underlying29
  cases ao with
  | none =>
    obtain ⟨rfl, rfl⟩ := hnil rfl
    obtain rfl : s = [] := List.eq_nil_of_length_eq_zero hl
    go_enter Try.func40, Try.ntmps40
    go_wp2
    go_ret
    exact ⟨_, rfl, World.ownsRow_nil _ _ _ _, Below.refl _ _⟩
  | some ad =>
    have hf1 : From (w.alloc (.cells #[] 5)) (some ad) s := hf.alloc _
    go_enter Try.func40, Try.ntmps40
    go_wp2_with (first
      | (at_builtin; go_must (refine wpList_append_bytes rfl _ _ rfl w.heap.size 0 _ [] rfl (World.ownsRow_made w #[] 0 (Nat.le_refl _) (Nat.zero_le _) rfl) (some ad) k c s rfl hl (by intro h; cases h) hf1 (by omega) (by simp) ?_))
      | fail)
    intro v' w1 hown hgr
    replace hown : w1.ownsRow w.heap.size 5 1 v' k (s.map B) := by simpa using hown
    have hbl : Below w.heap.size w w1 := ((Below.refl _ w).alloc (Nat.le_refl _) _).grown hgr (by simp) (by intro k hk; simp [Value.ownBlock] at hk; omega)
    clear hgr
    go_wp2
    go_ret
    exact ⟨_, rfl, hown, hbl⟩

theorem heap_setRow_other (w : World) (g : Nat) (cs : Array Value) {k : Nat} (h : k ≠ g) : (w.setRow g cs).heap[k]? = w.heap[k]? := by
  simp [World.setRow, Array.getElem?_modify, Ne.symm h]
theorem below_setRow' {L g : Nat} {w0 w : World} (h : Below L w0 w) (hg : L ≤ g) {cs : Array Value} : Below L w0 (w.setRow g cs) :=
  ⟨h.os, h.tape, h.output, by have := h.size; simp [World.setRow]; exact this, fun k hk => (heap_setRow_other w g cs (by omega)).trans (h.block k hk)⟩
set_option maxRecDepth 100000 in
set_option maxHeartbeats 800000 in
/-- The law's own copy of a letter. -/
theorem own_any (f t : Int) (ao : Option Addr) (k c : Nat) (s : List UInt8) (w : World) (hl : s.length = k) (hnil : ao = none → k = 0 ∧ c = 0) (hk : k ≤ 140737488355328) (hf : From w ao s) :
    Calls Try.prog 11 #[.agg (letC f t (.slice ao k c))] w fun e w' => ∃ v, e = .returned (.agg (letC f t v)) ∧ w'.ownsRow w.heap.size 5 1 v k (s.map B) ∧ Below w.heap.size w w' := by
  have hf1 : From ((w.alloc (.cells #[.int .i64 f, .int .i64 t, .slice ao k c] 31)).alloc (.cells #[.int .i64 0, .int .i64 0, .slice none 0 0] 31)) ao s := (hf.alloc _).alloc _
  show Calls Try.prog 11 #[.agg #[.int .i64 f, .int .i64 t, .slice ao k c]] w _
  go_enter Try.func11, Try.ntmps11
  go_wp2_with (first
    | (at_builtin; go_must (refine wpList_append_bytes rfl _ _ rfl w.heap.size 0 _ [] rfl (World.ownsRow_nil _ _ _ _) ao k c s rfl hl hnil hf1 (by omega) (by simp; omega) ?_))
    | fail)
  intro v' w1 hown hgr
  replace hown : w1.ownsRow w.heap.size 5 1 v' k (s.map B) := by simpa using hown
  have hbl : Below w.heap.size w w1 := (((Below.refl _ w).alloc (Nat.le_refl _) _).alloc (by simp) _).grown hgr (by simp; omega) (by intro k hk; cases hk)
  have hB1 : w1.heap[w.heap.size]? = some (.cells (letC f t (.slice ao k c)) 31 (0, 0)) := (hgr.block _ (by simp; omega) (by intro h; cases h)).trans ((Below.heap_alloc _ _ _ (by simp)).trans (heap_alloc_new w _))
  have hB2 : w1.heap[w.heap.size + 1]? = some (.cells (letC 0 0 (.slice none 0 0)) 31 (0, 0)) := by
    have := heap_alloc_new (w.alloc (.cells #[.int .i64 f, .int .i64 t, .slice ao k c] 31)) (.cells #[.int .i64 0, .int .i64 0, .slice none 0 0] 31)
    rw [World.size_alloc] at this
    exact (hgr.block _ (by simp) (by intro h; cases h)).trans this
  clear hgr hf1
  have hsz : w.heap.size + 1 < w1.heap.size := (Array.getElem?_eq_some_iff.1 hB2).1
  have hne : ∀ g, v'.ownBlock = some g → g ≠ w.heap.size ∧ g ≠ w.heap.size + 1 := fun g hg => by
    obtain ⟨cur, hc⟩ := ownsRow_type hown hg
    refine ⟨fun e => ?_, fun e => ?_⟩ <;> subst e
    · rw [hB1] at hc; cases hc
    · rw [hB2] at hc; cases hc
  obtain ⟨ao', cap', rfl, _⟩ := own_slice hown
  have c2 : w1.cell? ⟨w.heap.size, 2, none⟩ = some (.slice ao k c) := by rw [cell_of_row w1 _ 2 _ _ _ hB1]; rfl
  have z1 : w1.frozen? ⟨w.heap.size, 2, none⟩ = false := by simp [World.frozen?, hB1]
  have hB3 : (w1.setCell ⟨w.heap.size, 2, none⟩ (.slice ao' k cap')).heap[w.heap.size]? = some (.cells (letC f t (.slice ao' k cap')) 31 (0, 0)) := Blk.set hB1 2 _
  have hB4 : (w1.setCell ⟨w.heap.size, 2, none⟩ (.slice ao' k cap')).heap[w.heap.size + 1]? = some (.cells (letC 0 0 (.slice none 0 0)) 31 (0, 0)) := (Below.heap_setCell _ _ _ _ (by simp)).trans hB2
  have hB5 : ((w1.setCell ⟨w.heap.size, 2, none⟩ (.slice ao' k cap')).setRow (w.heap.size + 1) (letC f t (.slice ao' k cap'))).heap[w.heap.size + 1]? = some (.cells (letC f t (.slice ao' k cap')) 31 (0, 0)) := setRow_heap _ _ _ _ 31 _ hB4
  have hlast : ((w1.setCell ⟨w.heap.size, 2, none⟩ (.slice ao' k cap')).setRow (w.heap.size + 1) (letC f t (.slice ao' k cap'))).ownsRow w.heap.size 5 1 (.slice ao' k cap') k (s.map B) := ownsRow_same hown fun g hg => by
    obtain ⟨h1, h2⟩ := hne g hg
    exact (heap_setRow_other _ _ _ h2).trans (Below.heap_setCell _ _ _ _ h1)
  have hlb : Below w.heap.size w ((w1.setCell ⟨w.heap.size, 2, none⟩ (.slice ao' k cap')).setRow (w.heap.size + 1) (letC f t (.slice ao' k cap'))) := below_setRow' (hbl.setCell (Nat.le_refl _) _) (by simp)
  generalize hw3 : ((w1.setCell ⟨w.heap.size, 2, none⟩ (.slice ao' k cap')).setRow (w.heap.size + 1) (letC f t (.slice ao' k cap'))) = w3 at *
  have hw3' : Hid _ := hw3
  have hall : (letC f t (.slice ao' k cap')).all (·.oneCell') = true := by simp [letC, Value.oneCell']
  clear hB1 hB2 hne hown hbl hsz hw3
  go_wp2_with (first | (refine wpList_load_row rfl 31 (.tmp 1) rfl w.heap.size rfl 31 _ (0, 0) _ hB3 Try.underlying31 rfl (by kernel_rfl) ?_) | (refine wpList_store_row rfl 31 (.tmp 2) (.tmp 7) rfl (w.heap.size + 1) (letC f t (.slice ao' k cap')) rfl rfl 31 _ hB4 (by kernel_rfl) rfl hall ?_) | fail)
  rw [hw3'.out]
  exact bodyPost_ret (results_cell_row Try.results11 _ _ (w.heap.size + 1) 31 _ (0, 0) _ rfl hB5 Try.underlying31 rfl (by kernel_rfl)) rfl ⟨_, rfl, hlast, hlb⟩

set_option maxRecDepth 100000 in
set_option maxHeartbeats 800000 in
/-- The bag's copy of a letter. -/
theorem like_any (f t : Int) (ao : Option Addr) (k c : Nat) (s : List UInt8) (w : World) (hl : s.length = k) (hnil : ao = none → k = 0 ∧ c = 0) (hk : k ≤ 140737488355328) (hf : From w ao s) :
    Calls Try.prog 27 #[.agg (letC f t (.slice ao k c))] w fun e w' => ∃ v, e = .returned (.agg (letC f t v)) ∧ w'.ownsRow w.heap.size 5 1 v k (s.map B) ∧ Below w.heap.size w w' := by
  have hcl := clone_any ao k c s ((w.alloc (.cells #[.int .i64 f, .int .i64 t, .slice ao k c] 31)).alloc (.cells #[.int .i64 0, .int .i64 0, .slice none 0 0] 31)) hl hnil hk ((hf.alloc _).alloc _)
  have c0 : ((w.alloc (.cells #[.int .i64 f, .int .i64 t, .slice ao k c] 31)).alloc (.cells #[.int .i64 0, .int .i64 0, .slice none 0 0] 31)).cell? ⟨w.heap.size, 2, none⟩ = some (.slice ao k c) := by
    exact (cell_of_row _ w.heap.size 2 _ 31 (0, 0) ((Below.heap_alloc _ _ _ (by simp)).trans (heap_alloc_new w _))).trans rfl
  show Calls Try.prog 27 #[.agg #[.int .i64 f, .int .i64 t, .slice ao k c]] w _
  go_enter Try.func27, Try.ntmps27
  go_wp2_with fail
  refine hcl.mono ?_
  rintro e1 w1 ⟨v', rfl, hown, hbl1⟩
  have hbl : Below w.heap.size w w1 := (((Below.refl _ w).alloc (Nat.le_refl _) _).alloc (by simp) _).trans (hbl1.mono (by simp; omega))
  replace hown : w1.ownsRow w.heap.size 5 1 v' k (s.map B) := ownsRow_mono hown (by simp; omega)
  have hB1 : w1.heap[w.heap.size]? = some (.cells (letC f t (.slice ao k c)) 31 (0, 0)) := (hbl1.block _ (by simp; omega)).trans ((Below.heap_alloc _ _ _ (by simp)).trans (heap_alloc_new w _))
  have hB2 : w1.heap[w.heap.size + 1]? = some (.cells (letC 0 0 (.slice none 0 0)) 31 (0, 0)) := by
    have := heap_alloc_new (w.alloc (.cells #[.int .i64 f, .int .i64 t, .slice ao k c] 31)) (.cells #[.int .i64 0, .int .i64 0, .slice none 0 0] 31)
    rw [World.size_alloc] at this
    exact (hbl1.block _ (by simp)).trans this
  clear hbl1 hcl c0
  have hsz : w.heap.size + 1 < w1.heap.size := (Array.getElem?_eq_some_iff.1 hB2).1
  have hne : ∀ g, v'.ownBlock = some g → g ≠ w.heap.size ∧ g ≠ w.heap.size + 1 := fun g hg => by
    obtain ⟨cur, hc⟩ := ownsRow_type hown hg
    refine ⟨fun e => ?_, fun e => ?_⟩ <;> subst e
    · rw [hB1] at hc; cases hc
    · rw [hB2] at hc; cases hc
  obtain ⟨ao', cap', rfl, _⟩ := own_slice hown
  have c2 : w1.cell? ⟨w.heap.size, 2, none⟩ = some (.slice ao k c) := by rw [cell_of_row w1 _ 2 _ _ _ hB1]; rfl
  have z1 : w1.frozen? ⟨w.heap.size, 2, none⟩ = false := by simp [World.frozen?, hB1]
  have hB3 : (w1.setCell ⟨w.heap.size, 2, none⟩ (.slice ao' k cap')).heap[w.heap.size]? = some (.cells (letC f t (.slice ao' k cap')) 31 (0, 0)) := Blk.set hB1 2 _
  have hB4 : (w1.setCell ⟨w.heap.size, 2, none⟩ (.slice ao' k cap')).heap[w.heap.size + 1]? = some (.cells (letC 0 0 (.slice none 0 0)) 31 (0, 0)) := (Below.heap_setCell _ _ _ _ (by simp)).trans hB2
  have hB5 : ((w1.setCell ⟨w.heap.size, 2, none⟩ (.slice ao' k cap')).setRow (w.heap.size + 1) (letC f t (.slice ao' k cap'))).heap[w.heap.size + 1]? = some (.cells (letC f t (.slice ao' k cap')) 31 (0, 0)) := setRow_heap _ _ _ _ 31 _ hB4
  have hlast : ((w1.setCell ⟨w.heap.size, 2, none⟩ (.slice ao' k cap')).setRow (w.heap.size + 1) (letC f t (.slice ao' k cap'))).ownsRow w.heap.size 5 1 (.slice ao' k cap') k (s.map B) := ownsRow_same hown fun g hg => by
    obtain ⟨h1, h2⟩ := hne g hg
    exact (heap_setRow_other _ _ _ h2).trans (Below.heap_setCell _ _ _ _ h1)
  have hlb : Below w.heap.size w ((w1.setCell ⟨w.heap.size, 2, none⟩ (.slice ao' k cap')).setRow (w.heap.size + 1) (letC f t (.slice ao' k cap'))) := below_setRow' (hbl.setCell (Nat.le_refl _) _) (by simp)
  generalize hw3 : ((w1.setCell ⟨w.heap.size, 2, none⟩ (.slice ao' k cap')).setRow (w.heap.size + 1) (letC f t (.slice ao' k cap'))) = w3 at *
  have hw3' : Hid _ := hw3
  have hall : (letC f t (.slice ao' k cap')).all (·.oneCell') = true := by simp [letC, Value.oneCell']
  clear hB1 hB2 hne hown hbl hsz hw3
  go_wp2_with (first | (refine wpList_load_row rfl 31 (.tmp 1) rfl w.heap.size rfl 31 _ (0, 0) _ hB3 Try.underlying31 rfl (by kernel_rfl) ?_) | (refine wpList_store_row rfl 31 (.tmp 2) (.tmp 7) rfl (w.heap.size + 1) (letC f t (.slice ao' k cap')) rfl rfl 31 _ hB4 (by kernel_rfl) rfl hall ?_) | fail)
  rw [hw3'.out]
  exact bodyPost_ret (results_cell_row Try.results27 _ _ (w.heap.size + 1) 31 _ (0, 0) _ rfl hB5 Try.underlying31 rfl (by kernel_rfl)) rfl ⟨_, rfl, hlast, hlb⟩
end Go.Proofs.Ytehjdkdoalmaeaa
