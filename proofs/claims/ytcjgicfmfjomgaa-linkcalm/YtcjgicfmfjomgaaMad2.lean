import Derived.Test.YtcjgicfmfjomgaaMad
namespace Go.Proofs.Ytcjgicfmfjomgaa
open Go.RowKit Go.PlainAid Go.MapKept
set_option linter.unusedVariables false
set_option linter.unusedSimpArgs false
/-- An end: where it lies. -/
structure EN (L lb cb mb eb : Nat) (uv : Value) (x : LV) (w : World) : Prop where
  lm : LM L lb cb mb uv x w
  bk : ∃ C, Blk w eb C 31 ∧ C[0]? = some (.pointer (some ⟨lb, 0, none⟩))
  lo : L ≤ eb
  ne : ∀ k, lown lb cb mb uv x k → k ≠ eb
theorem EN.cell {L lb cb mb eb : Nat} {uv : Value} {x : LV} {w : World} (h : EN L lb cb mb eb uv x w) : w.cell? ⟨eb, 0, none⟩ = some (.pointer (some ⟨lb, 0, none⟩)) := by
  obtain ⟨C, h1, h2⟩ := h.bk
  exact (h1.cell 0).trans h2
theorem EN.lt {L lb cb mb eb : Nat} {uv : Value} {x : LV} {w : World} (h : EN L lb cb mb eb uv x w) : eb < w.heap.size := by
  obtain ⟨C, h1, h2⟩ := h.bk
  exact h1.lt
theorem EN.more {L lb cb mb eb : Nat} {uv : Value} {x : LV} {w w' : World} (h : EN L lb cb mb eb uv x w) (hb : Below w.heap.size w w') : EN L lb cb mb eb uv x w' := by
  obtain ⟨C, h1, h2⟩ := h.bk
  exact ⟨h.lm.more hb, ⟨C, h1.below hb h1.lt, h2⟩, h.lo, h.ne⟩
set_option maxRecDepth 100000 in
set_option maxHeartbeats 3200000 in
theorem made_yes (me peer : Int) (win : Nat) (res : Int) (w : World) (h1 : repOk me peer) (h2 : argOk win res) :
    Calls Try.prog 10 #[.int .i64 me, .int .i64 peer, .int .i64 (win : Int), .int .i64 res] w fun e w' => ∃ lb cb mb eb, e = .returned (.tuple #[.pointer (some ⟨eb, 0, none⟩), .bool true]) ∧ EN w.heap.size lb cb mb eb (.slice none 0 0) (fresh me peer win res) w' ∧ Below w.heap.size w w' := by
  have HN : Hid _ := new_any me peer win res w h1.1 h1.2.1 h1.2.2 (by unfold argOk at h2; omega) h2.2
  have HR : Hid (∀ w, Calls Try.prog 27 #[.int .i64 me, .int .i64 peer, .int .i64 (win : Int), .int .i64 res] w _) := fun w => rnew_any me peer win res w
  have H1 : Hid (repOk me peer) := h1
  have H2 : Hid (argOk win res) := h2
  clear h1 h2
  go_enter Try.func10, Try.ntmps10
  go_wp2_with fail
  refine Calls.mono HN.out ?_
  rintro e w1 ⟨rfl, hM1, hb1⟩
  have HM1 : Hid _ := hM1
  have HB1 : Hid (Below w.heap.size w w1) := hb1
  obtain ⟨lb, hlb⟩ : ∃ lb, lb = w.heap.size + 2 := ⟨_, rfl⟩
  rw [← hlb] at HM1 ⊢
  clear hM1 hb1 hlb HN
  go_wp2_with fail
  refine Calls.mono (HR.out _) ?_
  rintro e w2 ⟨he, hb2⟩
  rw [if_pos H1.out, if_pos H2.out] at he
  obtain ⟨rb, rfl⟩ := he
  have HM2 : Hid _ := HM1.out.more hb2
  have HB2 : Hid (Below w.heap.size w w2) := show Below w.heap.size w w2 from HB1.out.trans (hb2.mono HB1.out.size)
  clear hb2 HR HM1 HB1 H1 H2
  go_wp2_with fail
  go_ret2
  have k1 := HB2.out.size
  have hn := heap_alloc_new ((w2.alloc (Obj.cells #[Value.slice none 0 0, Value.int IntKind.i64 0] 70)).alloc
          (Obj.cells #[Value.slice none 0 0, Value.int IntKind.i64 0] 73)) (Obj.cells
        #[Value.pointer (some { block := lb, off := 0 }), Value.pointer (some { block := rb, off := 0 }),
          Value.pointer (some { block := w2.heap.size, off := 0 }),
          Value.pointer (some { block := w2.heap.size + 1, off := 0 })]
        31)
  simp only [World.size_alloc] at hn
  refine ⟨lb, w.heap.size, w.heap.size + 1, _, rfl, ⟨HM2.out.more ?_, ⟨_, hn, rfl⟩, ?_, ?_⟩, ?_⟩
  · exact (((Below.refl _ _).alloc (Nat.le_refl _) _).alloc (by simp) _).alloc (by simp; omega) _
  · omega
  · intro k hk
    have := (HM2.out.lt hk).2
    omega
  · exact ((HB2.out.alloc k1 _).alloc (by simp; omega) _).alloc (by simp; omega) _
set_option maxRecDepth 100000 in
set_option maxHeartbeats 3200000 in
theorem made_no (me peer win res : Int) (w : World) (h : ¬ (repOk me peer ∧ argOk win res)) :
    Calls Try.prog 10 #[.int .i64 me, .int .i64 peer, .int .i64 win, .int .i64 res] w fun e w' => e = .returned (.tuple #[.pointer none, .bool true]) ∧ Below w.heap.size w w' := by
  have HR : Hid (∀ w, Calls Try.prog 27 #[.int .i64 me, .int .i64 peer, .int .i64 win, .int .i64 res] w _) := fun w => rnew_any me peer win res w
  by_cases h1 : repOk me peer
  · have h2 : ¬ argOk win res := fun e => h ⟨h1, e⟩
    have HN : Hid _ := new_arg me peer win res w h1 h2
    have H1 : Hid (repOk me peer) := h1
    have H2 : Hid (¬ argOk win res) := h2
    clear h h1 h2
    go_enter Try.func10, Try.ntmps10
    go_wp2_with fail
    refine Calls.mono HN.out ?_
    rintro e w1 ⟨rfl, hw1⟩
    replace hw1 := hw1.symm
    subst hw1
    go_wp2_with fail
    refine Calls.mono (HR.out _) ?_
    rintro e w2 ⟨he, hb2⟩
    rw [if_pos H1.out, if_neg H2.out] at he
    subst he
    have HB2 : Hid (Below w.heap.size w w2) := hb2
    clear hb2 HR HN
    go_wp2_with fail
    go_ret2
    exact ⟨rfl, HB2.out⟩
  · have HN : Hid _ := new_rep me peer win res w h1
    have H1 : Hid (¬ repOk me peer) := h1
    clear h h1
    go_enter Try.func10, Try.ntmps10
    go_wp2_with fail
    refine Calls.mono HN.out ?_
    rintro e w1 ⟨rfl, hw1⟩
    replace hw1 := hw1.symm
    subst hw1
    go_wp2_with fail
    refine Calls.mono (HR.out _) ?_
    rintro e w2 ⟨he, hb2⟩
    rw [if_neg H1.out] at he
    subst he
    have HB2 : Hid (Below w.heap.size w w2) := hb2
    clear hb2 HR HN
    go_wp2_with fail
    go_ret2
    exact ⟨rfl, HB2.out⟩
end Go.Proofs.Ytcjgicfmfjomgaa
