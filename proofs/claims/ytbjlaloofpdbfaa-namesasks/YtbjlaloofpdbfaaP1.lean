import Derived.Test.YtbjlaloofpdbfaaP0
namespace Go.Proofs.Ytbjlaloofpdbfaa
open Go.RowKit Go.PlainAid
set_option linter.unusedVariables false
set_option linter.unusedSimpArgs false
def pairV (hb rb : Nat) (mk : Int) (tx cl tl ms lt wt lc wc : Value) : Array Value := #[.pointer (some ⟨hb, 0, none⟩), .pointer (some ⟨rb, 0, none⟩), tx, cl, tl, .int .i64 mk, ms, lt, wt, lc, wc]
set_option maxRecDepth 100000 in
set_option maxHeartbeats 1600000 in
theorem made_yes (me rep per : Int) (w : World) (h : newCode me rep per = 0) :
    Calls Try.prog 27 #[.int .i64 me, .int .i64 rep, .int .i64 per] w fun e w' => ∃ hb mh mw rb pb B, e = .returned (.tuple #[.pointer (some ⟨pb, 0, none⟩), .bool true]) ∧ w.heap.size ≤ hb ∧ w.heap.size ≤ mh ∧ w.heap.size ≤ mw ∧ w.heap.size ≤ B ∧ B ≤ pb ∧ Tb hb mh mw me rep per [] [] w' ∧ RT B rb (.slice none 0 0) (.slice none 0 0) me rep per [] [] w' ∧ Blk w' pb (pairV hb rb 0 (.slice none 0 0) (.slice none 0 0) (.slice none 0 0) (.slice none 0 0) (.slice none 0 0) (.slice none 0 0) (.slice none 0 0) (.slice none 0 0)) 67 ∧ Below w.heap.size w w' := by
  have HN : Hid _ := new_any me rep per w h
  have HR : Hid (∀ w, _) := fun w => rnew_any me rep per w h
  have HM : Hid (∀ x w, _) := fun x w => num_any x w
  clear h
  go_enter Try.func27, Try.ntmps27
  go_wp2_with fail
  refine Calls.mono HN.out ?_
  rintro e w1 ⟨rfl, hT1, hb1, hs1⟩
  have HT1 : Hid _ := hT1
  have HB1 : Hid _ := hb1
  have HS1 : Hid _ := hs1
  clear hT1 hb1 hs1 HN
  go_wp2_with fail
  refine Calls.mono (HR.out _) ?_
  rintro e w2 ⟨rfl, hR2, hb2⟩
  have HR2 : Hid _ := hR2
  have HB2 : Hid _ := hb2
  clear hR2 hb2 HR
  go_wp2_with fail
  refine Calls.mono (HM.out _ _) ?_
  rintro e w3 ⟨rfl, hw3⟩
  replace hw3 := hw3.symm
  subst hw3
  go_wp2_with fail
  go_ret2
  have h12 : Below w.heap.size w w2 := HB1.out.trans (HB2.out.mono HB1.out.size)
  have hal : Below w2.heap.size w2 (w2.alloc (.cells (pairV (w.heap.size + 2) w1.heap.size 0 (.slice none 0 0) (.slice none 0 0) (.slice none 0 0) (.slice none 0 0) (.slice none 0 0) (.slice none 0 0) (.slice none 0 0) (.slice none 0 0)) 67)) := (Below.refl _ _).alloc (Nat.le_refl _) _
  exact ⟨_, _, _, _, _, w1.heap.size, rfl, by omega, Nat.le_refl _, by omega, HB1.out.size, HB2.out.size, (HT1.out.more HB2.out).more hal, HR2.out.more hal, heap_alloc_new w2 _, h12.trans (hal.mono h12.size)⟩
set_option maxRecDepth 100000 in
set_option maxHeartbeats 1600000 in
theorem made_no (me rep per : Int) (w : World) (h : newCode me rep per ≠ 0) :
    Calls Try.prog 27 #[.int .i64 me, .int .i64 rep, .int .i64 per] w fun e w' => e = .returned (.tuple #[.pointer none, .bool true]) ∧ w' = w := by
  have HN : Hid _ := new_no me rep per w h
  have HR : Hid (∀ w, _) := fun w => rnew_no me rep per w h
  have HM : Hid (∀ x w, _) := fun x w => num_any x w
  generalize newCode me rep per = c at *
  clear h
  go_enter Try.func27, Try.ntmps27
  go_wp2_with fail
  refine Calls.mono HN.out ?_
  rintro e w1 ⟨rfl, hw1⟩
  replace hw1 := hw1.symm
  subst hw1
  clear HN
  go_wp2_with fail
  refine Calls.mono (HR.out _) ?_
  rintro e w2 ⟨rfl, hw2⟩
  replace hw2 := hw2.symm
  subst hw2
  go_wp2_with fail
  refine Calls.mono (HM.out _ _) ?_
  rintro e w3 ⟨rfl, hw3⟩
  replace hw3 := hw3.symm
  subst hw3
  go_wp2_with fail
  go_ret2
  exact ⟨rfl, rfl⟩
/-- No answer was kept that was written to: the earlier ones stand. -/
theorem stands_nil {pb hb rb : Nat} {mk : Int} {tl ms lt wt lc wc : Value} (w : World) (hB : Blk w pb (pairV hb rb mk (.slice none 0 0) (.slice none 0 0) tl ms lt wt lc wc) 67) :
    Calls Try.prog 29 #[.pointer (some ⟨pb, 0, none⟩)] w fun e w' => e = .returned (.bool true) ∧ w' = w := by
  have c2 : w.cell? ⟨pb, 2, none⟩ = some (.slice none 0 0) := hB.cell 2
  have c3 : w.cell? ⟨pb, 3, none⟩ = some (.slice none 0 0) := hB.cell 3
  clear hB
  go_enter Try.func29, Try.ntmps29
  go_wp2_with fail
  refine wp_loop_rounds 1 ?_
  rw [rounds_succ]
  go_wp2_with fail
  refine wp_loop_rounds 1 ?_
  rw [rounds_succ]
  go_wp2_with fail
  go_ret
  exact ⟨rfl, rfl⟩
end Go.Proofs.Ytbjlaloofpdbfaa
