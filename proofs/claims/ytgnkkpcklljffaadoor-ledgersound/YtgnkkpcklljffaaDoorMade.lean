import Derived.Test.YtgnkkpcklljffaaDoorPlay
namespace Go.Proofs.YtgnkkpcklljffaaDoor
open Go.RowKit Go.PlainAid
set_option linter.unusedVariables false
set_option linter.unusedSimpArgs false
theorem fresh_ok {k : Int} (h : okAmt k = true) : (LS.mk 0 0 0 k 0).Ok := by
  have := okAmt_yes h
  exact ⟨by simp, by simp, by simp, by simp only; omega, this.1, this.2⟩
set_option maxRecDepth 100000 in
set_option maxHeartbeats 1600000 in
theorem made_yes (k : Int) (w : World) (hk : okAmt k = true) : Calls Tryd.prog 30 #[.int .i64 k] w fun r w' => r = .returned (.tuple #[.pointer (some ⟨w.heap.size + 2, 0, none⟩), .bool true]) ∧ Pr (w.heap.size + 2) w.heap.size (w.heap.size + 1) (LS.mk 0 0 0 k 0) w' ∧ Below w.heap.size w w' ∧ w'.heap.size = w.heap.size + 3 := by
  have h1 := new_any k w hk
  have h2 := rnew_any k (w.alloc (.cells (LS.mk 0 0 0 k 0).cs 62)) hk
  rw [World.size_alloc] at h2
  have hPr : Pr (w.heap.size + 2) w.heap.size (w.heap.size + 1) (LS.mk 0 0 0 k 0) (((w.alloc (.cells (LS.mk 0 0 0 k 0).cs 62)).alloc (.cells (LS.mk 0 0 0 k 0).cs 81)).alloc (.cells #[.pointer (some ⟨w.heap.size, 0, none⟩), .pointer (some ⟨w.heap.size + 1, 0, none⟩)] 59)) := by
    refine ⟨?_, ?_, ?_, fresh_ok hk⟩
    · have := heap_alloc_new ((w.alloc (.cells (LS.mk 0 0 0 k 0).cs 62)).alloc (.cells (LS.mk 0 0 0 k 0).cs 81)) (.cells #[.pointer (some ⟨w.heap.size, 0, none⟩), .pointer (some ⟨w.heap.size + 1, 0, none⟩)] 59)
      rw [World.size_alloc, World.size_alloc] at this
      exact this
    · exact (Below.heap_alloc _ _ _ (by simp; omega)).trans ((Below.heap_alloc _ _ _ (by simp)).trans (heap_alloc_new w _))
    · have := heap_alloc_new (w.alloc (.cells (LS.mk 0 0 0 k 0).cs 62)) (.cells (LS.mk 0 0 0 k 0).cs 81)
      rw [World.size_alloc] at this
      exact (Below.heap_alloc _ _ _ (by simp)).trans this
  have hgr : Below w.heap.size w (((w.alloc (.cells (LS.mk 0 0 0 k 0).cs 62)).alloc (.cells (LS.mk 0 0 0 k 0).cs 81)).alloc (.cells #[.pointer (some ⟨w.heap.size, 0, none⟩), .pointer (some ⟨w.heap.size + 1, 0, none⟩)] 59)) := by go_grown
  have HP : Hid _ := hPr
  have HG : Hid _ := hgr
  clear hPr hgr hk
  generalize (LS.mk 0 0 0 k 0).cs = C at *
  go_enter Tryd.func30, Tryd.ntmps30
  go_wp2_with fail
  refine h1.mono ?_
  rintro e1 w1 ⟨rfl, rfl⟩
  go_wp2_with fail
  refine h2.mono ?_
  rintro e2 w2 ⟨rfl, rfl⟩
  clear h1 h2
  go_wp2_with fail
  go_ret2
  exact ⟨rfl, HP.out, HG.out, by simp⟩
set_option maxRecDepth 100000 in
set_option maxHeartbeats 1600000 in
theorem made_no (k : Int) (w : World) (hk : okAmt k = false) : Calls Tryd.prog 30 #[.int .i64 k] w fun r w' => r = .returned (.tuple #[.pointer none, .bool true]) ∧ w' = w := by
  have h1 := new_no k w hk
  have h2 := rnew_no k w hk
  go_enter Tryd.func30, Tryd.ntmps30
  go_wp2_with fail
  refine h1.mono ?_
  rintro e1 w1 ⟨rfl, rfl⟩
  go_wp2_with fail
  refine h2.mono ?_
  rintro e2 w2 ⟨rfl, rfl⟩
  clear h1 h2
  go_wp2_with fail
  go_ret2
  exact ⟨rfl, rfl⟩
/-- One of the two pairs, or none. -/
def Side (hp hl hr : Nat) (v : Value) (w : World) : Prop := v = .pointer none ∨ (v = .pointer (some ⟨hp, 0, none⟩) ∧ ∃ s, Pr hp hl hr s w)
theorem made_any (k : Int) (w : World) : Calls Tryd.prog 30 #[.int .i64 k] w fun r w' => ∃ v, r = .returned (.tuple #[v, .bool true]) ∧ Side (w.heap.size + 2) w.heap.size (w.heap.size + 1) v w' ∧ Below w.heap.size w w' ∧ (v ≠ .pointer none → w'.heap.size = w.heap.size + 3) := by
  cases hk : okAmt k with
  | true => exact (made_yes k w hk).mono fun r w' ⟨h1, h2, h3, h4⟩ => ⟨_, h1, Or.inr ⟨rfl, _, h2⟩, h3, fun _ => h4⟩
  | false => exact (made_no k w hk).mono fun r w' ⟨h1, h2⟩ => ⟨_, h1, Or.inl rfl, h2 ▸ Below.refl _ _, fun h => absurd rfl h⟩
/-- A ledger under a pair, as 'alive' holds it. -/
structure AV (S : Sens) (L hp hl hr : Nat) (s : LS) (w0 w : World) : Prop where
  p : Blk w hp #[.pointer (some ⟨hl, 0, none⟩), .pointer (some ⟨hr, 0, none⟩)] 59
  l : Blk w hl s.cs 62
  sen : Sen S L w
  b : Below L w0 w
  L1 : L ≤ hl
theorem AV.step {S : Sens} {L hp hl hr : Nat} {s s' : LS} {w0 w w' : World} (h : AV S L hp hl hr s w0 w) (hB : Blk w' hl s'.cs 62) (hq : Stq hl w w') : AV S L hp hl hr s' w0 w' := by
  have hb : Below L w w' := hq.below (Nat.le_of_lt (Nat.lt_of_le_of_lt h.L1 h.l.lt)) h.L1
  exact ⟨hq.blk h.p (blk_ne h.p h.l (by decide)), hB, h.sen.below hb, h.b.trans hb, h.L1⟩
theorem AV.more {S : Sens} {L hp hl hr : Nat} {s : LS} {w0 w w' : World} (h : AV S L hp hl hr s w0 w) (k : Below w.heap.size w w') : AV S L hp hl hr s w0 w' := h.step (h.l.below k h.l.lt) (Stq.ofBelow k)
set_option maxRecDepth 100000 in
set_option maxHeartbeats 3200000 in
theorem alive_any {S : Sens} (w : World) (hS : Sen S w.heap.size w) : Calls Tryd.prog 9 #[] w fun r w' => r = .returned (.bool true) ∧ Below w.heap.size w w' := by
  have hm := made_yes 10 w (by decide)
  have HS : Hid _ := hS
  clear hS
  go_enter Tryd.func9, Tryd.ntmps9
  go_wp2_with fail
  refine hm.mono ?_
  rintro e1 w1 ⟨rfl, hP1, hb1, _⟩
  clear hm
  have hA : AV S w.heap.size (w.heap.size + 2) w.heap.size (w.heap.size + 1) (LS.mk 0 0 0 10 0) w w1 := ⟨hP1.p, hP1.l, HS.out.below hb1, hb1, Nat.le_refl _⟩
  have hi := in_any (a := 6) (b := 3) w1 hA.sen hA.l hP1.ok hA.L1 (by decide) (by decide)
  rw [show (LS.mk 0 0 0 10 0).icode 6 3 = 0 from by decide, show (LS.mk 0 0 0 10 0).inext 6 3 = LS.mk 6 3 0 10 0 from by rfl] at hi
  have c1 : w1.cell? ⟨w.heap.size + 2, 0, none⟩ = some (.pointer (some ⟨w.heap.size, 0, none⟩)) := hA.p.cell 0
  have HA : Hid _ := hA
  clear hP1 hb1 HS hA
  go_wp2_with fail
  refine hi.mono ?_
  rintro e2 w2 ⟨rfl, hB, hT⟩
  have hA := HA.out.step hB hT
  clear hi c1 hB hT HA
  have ok3 : (LS.mk 6 3 0 10 0).Ok := ⟨by decide, by decide, by decide, by decide, by decide, by decide⟩
  have hi := dec_any (k := 2) w2 hA.sen hA.l ok3 hA.L1
  rw [show (LS.mk 6 3 0 10 0).tcode 0 2 = 0 from by decide, show (LS.mk 6 3 0 10 0).tnext 0 1 2 = (LS.mk 4 5 0 10 0) from by rfl] at hi
  have c1 : w2.cell? ⟨w.heap.size + 2, 0, none⟩ = some (.pointer (some ⟨w.heap.size, 0, none⟩)) := hA.p.cell 0
  have HA : Hid _ := hA
  clear hA ok3
  go_wp2_with fail
  refine hi.mono ?_
  rintro e3 w3 ⟨rfl, hB, hT⟩
  have hA := HA.out.step hB hT
  clear hi c1 hB hT HA
  have ok4 : (LS.mk 4 5 0 10 0).Ok := ⟨by decide, by decide, by decide, by decide, by decide, by decide⟩
  have hi := lock_any (k := 3) w3 hA.sen hA.l ok4 hA.L1
  rw [show (LS.mk 4 5 0 10 0).tcode 0 3 = 0 from by decide, show (LS.mk 4 5 0 10 0).tnext 0 2 3 = (LS.mk 1 5 3 10 0) from by rfl] at hi
  have c1 : w3.cell? ⟨w.heap.size + 2, 0, none⟩ = some (.pointer (some ⟨w.heap.size, 0, none⟩)) := hA.p.cell 0
  have HA : Hid _ := hA
  clear hA ok4
  go_wp2_with fail
  refine hi.mono ?_
  rintro e4 w4 ⟨rfl, hB, hT⟩
  have hA := HA.out.step hB hT
  clear hi c1 hB hT HA
  have ok5 : (LS.mk 1 5 3 10 0).Ok := ⟨by decide, by decide, by decide, by decide, by decide, by decide⟩
  have hi := dec_any (k := 2) w4 hA.sen hA.l ok5 hA.L1
  rw [show (LS.mk 1 5 3 10 0).tcode 0 2 = 60 from by decide, show (LS.mk 1 5 3 10 0).tnext 0 1 2 = (LS.mk 1 5 3 10 0) from by rfl] at hi
  have c1 : w4.cell? ⟨w.heap.size + 2, 0, none⟩ = some (.pointer (some ⟨w.heap.size, 0, none⟩)) := hA.p.cell 0
  have HA : Hid _ := hA
  clear hA ok5
  go_wp2_with fail
  refine hi.mono ?_
  rintro e5 w5 ⟨rfl, hB, hT⟩
  have hA := HA.out.step hB hT
  clear hi c1 hB hT HA
  have hr := rights_any w5 hA.l
  have c1 : w5.cell? ⟨w.heap.size + 2, 0, none⟩ = some (.pointer (some ⟨w.heap.size, 0, none⟩)) := hA.p.cell 0
  have HA : Hid _ := hA
  clear hA
  go_wp2_with fail
  refine hr.mono ?_
  rintro e6 w6 ⟨rfl, hb6⟩
  have hA := HA.out.more hb6
  clear hr c1 hb6 HA
  have hs := same_any 1 5 1 5 w6
  have HA : Hid _ := hA
  clear hA
  go_wp2_with fail
  refine hs.mono ?_
  rintro e7 w7 ⟨rfl, hb7⟩
  have hA := HA.out.more hb7
  have hh := held_any w7 hA.l
  have c1 : w7.cell? ⟨w.heap.size + 2, 0, none⟩ = some (.pointer (some ⟨w.heap.size, 0, none⟩)) := hA.p.cell 0
  clear hs hb7 HA
  have HA : Hid _ := hA
  clear hA
  go_wp2_with fail
  refine hh.mono ?_
  rintro e8 w8 ⟨rfl, rfl⟩
  clear hh c1
  go_wp2_with fail
  go_ret
  exact ⟨rfl, HA.out.b⟩
end Go.Proofs.YtgnkkpcklljffaaDoor
