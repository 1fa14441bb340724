import Derived.Test.YtadfmnlkfcigoaaRf2
namespace Go.Proofs.Ytadfmnlkfcigoaa
open Go.RowKit Go.PlainAid Go.MapKept
set_option linter.unusedVariables false
set_option linter.unusedSimpArgs false
theorem info36 : (Try.prog.info? 36).map (fun i => (i.zero, i.size, i.bytes)) = some (some (.agg #[.int .i64 0, .int .i64 0, .int .i64 0, .int .i64 0]), 4, 32) := by kernel_rfl
theorem wpList_runs {ops : Array Oper} {rest : List Oper} {o : Oper} {a : Act} {Q : Exit → Act → World → Prop} {w w' : World} (hgd : o.guard = none) (s x : Operand) (t : TypeId) (ho : o.op = .call { callee := .builtin .append, args := #[s, x], argTypes := #[t, t] }) {v y v' : Value} (hs : a.eval s = v) (hx : a.eval x = y)
    (hr : ∀ ty, (Builtin.append_ #[t, t] ty #[v, y]).run Try.prog w = .ok v' w') (h : wpList Try.prog ops Q rest (a.put o.dst v') w') : wpList Try.prog ops Q (o :: rest) a w := by
  refine wpList_plain hgd fun K hK => ?_
  unfold Oper.wp execOp
  simp only [ho, resolve, invoke, builtin, Sem.run_bind, Sem.run_pure, Result.andThen_ok, List.map_toArray, List.map_cons, List.map_nil, hs, hx, hr]
  exact hK _ _ h
theorem append_call {w : World} {L ln : Nat} {v : Value} {es : List (Int × Int)} (c : Int × Int) (hr : w.ownsRow L 32 2 v ln (flatC es)) (hln : ln ≤ 100000) (hL : L ≤ w.heap.size) :
    ∃ v5 w5, (∀ ty, (Builtin.append_ #[79, 79] ty #[v, .slice (some ⟨w.heap.size, 0, none⟩) 1 1]).run Try.prog (w.alloc (.cells #[.int .i64 c.1, .int .i64 c.2] 32)) = .ok v5 w5) ∧ w5.ownsRow L 32 2 v5 (ln + 1) (flatC (es ++ [c])) ∧ Grew w w5 v v5 := by
  obtain ⟨v', w', h1, h2, h3⟩ := app_rows 79 32 (.agg #[.int .i64 0, .int .i64 0]) 2 16 Try.underlying79 info32 rfl (by decide) (by decide) (hr.alloc (.cells #[.int .i64 c.1, .int .i64 c.2] 32)) (ao := some ⟨w.heap.size, 0, none⟩) (m := 1) (cap := 1) (ys := [.int .i64 c.1, .int .i64 c.2]) rfl (fun e => by cases e) (fun ad had j u hu => by
    cases had
    exact cell_two_new' w _ _ _ j u hu) (fun u hu => by simp at hu; rcases hu with rfl | rfl <;> rfl) (by omega) (by rw [World.size_alloc]; omega)
  refine ⟨v', w', h1, ?_, h3.ofAlloc⟩
  rw [flatC_append]
  exact h2
theorem flatR_append (a b : List Rp) : flatR (a ++ b) = flatR a ++ flatR b := by simp [flatR]
theorem append_rp {w : World} {L ln : Nat} {v : Value} {es : List Rp} (x : Rp) (hr : w.ownsRow L 36 4 v ln (flatR es)) (hln : ln ≤ 100000) (hL : L ≤ w.heap.size) :
    ∃ v5 w5, (∀ ty, (Builtin.append_ #[85, 85] ty #[v, .slice (some ⟨w.heap.size, 0, none⟩) 1 1]).run Try.prog (w.alloc (.cells #[.int .i64 x.s, .int .i64 x.i, .int .i64 x.e, .int .i64 x.v] 36)) = .ok v5 w5) ∧ w5.ownsRow L 36 4 v5 (ln + 1) (flatR (es ++ [x])) ∧ Grew w w5 v v5 := by
  obtain ⟨v', w', h1, h2, h3⟩ := app_rows 85 36 (.agg #[.int .i64 0, .int .i64 0, .int .i64 0, .int .i64 0]) 4 32 Try.underlying85 info36 rfl (by decide) (by decide) (hr.alloc (.cells #[.int .i64 x.s, .int .i64 x.i, .int .i64 x.e, .int .i64 x.v] 36)) (ao := some ⟨w.heap.size, 0, none⟩) (m := 1) (cap := 1) (ys := rpv x) rfl (fun e => by cases e) (fun ad had j u hu => by
    cases had
    rw [addr_add, Nat.zero_add]
    have hB : Blk (w.alloc (.cells #[.int .i64 x.s, .int .i64 x.i, .int .i64 x.e, .int .i64 x.v] 36)) w.heap.size #[.int .i64 x.s, .int .i64 x.i, .int .i64 x.e, .int .i64 x.v] 36 := heap_alloc_new w _
    rw [hB.cell j]
    simpa [rpv] using hu) (fun u hu => by simp [rpv] at hu; rcases hu with rfl | rfl | rfl | rfl <;> rfl) (by omega) (by rw [World.size_alloc]; omega)
  refine ⟨v', w', h1, ?_, h3.ofAlloc⟩
  rw [flatR_append]
  have : flatR [x] = rpv x := by simp [flatR]
  rw [this]
  exact h2
section
variable {a : CA} {B rb : Nat} {r : RS} {w w' : World}
theorem RC.rbb (h : RC a B rb r w) : r.vo.ownBlock ≠ some rb ∧ r.vr.ownBlock ≠ some rb := by
  obtain ⟨C, hB, _⟩ := h.blk
  refine ⟨fun e => ?_, fun e => ?_⟩
  · obtain ⟨D, hD⟩ := ownsRow_type h.ro e
    exact Blk.ne_t hB (show Blk w rb D 32 from hD) (by decide) rfl
  · obtain ⟨D, hD⟩ := ownsRow_type h.rr e
    exact Blk.ne_t hB (show Blk w rb D 36 from hD) (by decide) rfl
theorem RC.apart (h : RC a B rb r w) {k : Nat} (h1 : r.vo.ownBlock = some k) : r.vr.ownBlock ≠ some k := fun h2 => by
  obtain ⟨C, hC⟩ := ownsRow_type h.ro h1
  obtain ⟨D, hD⟩ := ownsRow_type h.rr h2
  exact Blk.ne_t (show Blk w k C 32 from hC) (show Blk w k D 36 from hD) (by decide) rfl
/-- A cell of the document's cache changes. -/
theorem RC.setCell (h : RC a B rb r w) (j : Nat) (v : Value) {r' : RS} (hv1 : r'.vo = r.vo ∨ True) (ho : (w.setCell ⟨rb, j, none⟩ v).ownsRow B 32 2 r'.vo r'.op.length (flatC r'.op)) (hr : (w.setCell ⟨rb, j, none⟩ v).ownsRow B 36 4 r'.vr r'.rp.length (flatR r'.rp)) (hC : ∀ C, RCC C a r.la r.vo r.vr → RCC (C.setIfInBounds j v) a r'.la r'.vo r'.vr) : RC a B rb r' (w.setCell ⟨rb, j, none⟩ v) := by
  obtain ⟨C, hB, hc⟩ := h.blk
  exact ⟨⟨_, hB.set j v, hC C hc⟩, ho, hr, h.lo⟩
theorem setCell_chg (w : World) (rb j : Nat) (v : Value) : Chg (fun k => k = rb) w (w.setCell ⟨rb, j, none⟩ v) := ⟨rfl, rfl, rfl, by simp [World.setCell], fun k hk hn => Below.heap_setCell _ _ _ _ hn⟩
theorem RC.setLast (h : RC a B rb r w) (k : Nat) (hk : k < 64) (i : Int) : RC a B rb { r with la := fun t => if t = k then i else r.la t } (w.setCell ⟨rb, 4 + k, none⟩ (.int .i64 i)) := by
  have hc := setCell_chg w rb (4 + k) (.int .i64 i)
  refine h.setCell (4 + k) _ (Or.inr trivial) (ownsRow_same h.ro (fun g hg => hc.block g (ownsRow_lt h.ro hg).2 (fun e => h.rbb.1 (e ▸ hg)))) (ownsRow_same h.rr (fun g hg => hc.block g (ownsRow_lt h.rr hg).2 (fun e => h.rbb.2 (e ▸ hg)))) (fun C hC => hC.setLa k hk i)
/-- A new row of what is open. -/
theorem RC.setOpen (h : RC a B rb r w) {w5 : World} {v5 : Value} {op' : List (Int × Int)} {A : Nat → Prop} (hg : Chg A w w5) (hA : ∀ k, A k → k < w.heap.size → r.vo.ownBlock = some k) (ho : w5.ownsRow B 32 2 v5 op'.length (flatC op')) (hn : ∀ k, v5.ownBlock = some k → r.vo.ownBlock = some k ∨ w.heap.size ≤ k) : RC a B rb { r with vo := v5, op := op' } (w5.setCell ⟨rb, 68, none⟩ v5) ∧ Chg (r.own rb) w (w5.setCell ⟨rb, 68, none⟩ v5) ∧ ∀ k, RS.own { r with vo := v5, op := op' } rb k → r.own rb k ∨ w.heap.size ≤ k := by
  obtain ⟨C, hB, hC⟩ := h.blk
  have hB5 : Blk w5 rb C 87 := hg.blk hB (fun e => h.rbb.1 (hA _ e hB.lt))
  have hrr : w5.ownsRow B 36 4 r.vr r.rp.length (flatR r.rp) := ownsRow_same h.rr (fun g hgg => hg.block g (ownsRow_lt h.rr hgg).2 (fun e => h.apart (hA _ e (ownsRow_lt h.rr hgg).2) hgg))
  have hc := setCell_chg w5 rb 68 v5
  have n1 : v5.ownBlock ≠ some rb := fun e => by
    rcases hn _ e with h1 | h1
    · exact h.rbb.1 h1
    · have := hB.lt; omega
  refine ⟨⟨⟨_, hB5.set 68 v5, hC.setO v5⟩, ownsRow_same ho (fun g hgg => hc.block g (ownsRow_lt ho hgg).2 (fun e => n1 (e ▸ hgg))), ownsRow_same hrr (fun g hgg => hc.block g (ownsRow_lt hrr hgg).2 (fun e => h.rbb.2 (e ▸ hgg))), h.lo⟩, (hg.mono (fun j hj e => Or.inr (Or.inl (hA j e hj)))).trans hc (fun j hj e => Or.inl e), fun k hk => ?_⟩
  rcases hk with e | e | e
  · exact Or.inl (Or.inl e)
  · rcases hn _ e with h1 | h1
    · exact Or.inl (Or.inr (Or.inl h1))
    · exact Or.inr h1
  · exact Or.inl (Or.inr (Or.inr e))
/-- A new row of replies. -/
theorem RC.setRps (h : RC a B rb r w) {w5 : World} {v5 : Value} {rp' : List Rp} {A : Nat → Prop} (hg : Chg A w w5) (hA : ∀ k, A k → k < w.heap.size → r.vr.ownBlock = some k) (ho : w5.ownsRow B 36 4 v5 rp'.length (flatR rp')) (hn : ∀ k, v5.ownBlock = some k → r.vr.ownBlock = some k ∨ w.heap.size ≤ k) : RC a B rb { r with vr := v5, rp := rp' } (w5.setCell ⟨rb, 69, none⟩ v5) ∧ Chg (r.own rb) w (w5.setCell ⟨rb, 69, none⟩ v5) ∧ ∀ k, RS.own { r with vr := v5, rp := rp' } rb k → r.own rb k ∨ w.heap.size ≤ k := by
  obtain ⟨C, hB, hC⟩ := h.blk
  have hB5 : Blk w5 rb C 87 := hg.blk hB (fun e => h.rbb.2 (hA _ e hB.lt))
  have hro : w5.ownsRow B 32 2 r.vo r.op.length (flatC r.op) := ownsRow_same h.ro (fun g hgg => hg.block g (ownsRow_lt h.ro hgg).2 (fun e => h.apart hgg (hA _ e (ownsRow_lt h.ro hgg).2)))
  have hc := setCell_chg w5 rb 69 v5
  have n1 : v5.ownBlock ≠ some rb := fun e => by
    rcases hn _ e with h1 | h1
    · exact h.rbb.2 h1
    · have := hB.lt; omega
  refine ⟨⟨⟨_, hB5.set 69 v5, hC.setR v5⟩, ownsRow_same hro (fun g hgg => hc.block g (ownsRow_lt hro hgg).2 (fun e => h.rbb.1 (e ▸ hgg))), ownsRow_same ho (fun g hgg => hc.block g (ownsRow_lt ho hgg).2 (fun e => n1 (e ▸ hgg))), h.lo⟩, (hg.mono (fun j hj e => Or.inr (Or.inr (hA j e hj)))).trans hc (fun j hj e => Or.inl e), fun k hk => ?_⟩
  rcases hk with e | e | e
  · exact Or.inl (Or.inl e)
  · exact Or.inl (Or.inr (Or.inl e))
  · rcases hn _ e with h1 | h1
    · exact Or.inl (Or.inr (Or.inr h1))
    · exact Or.inr h1
/-- What a call leaves of the document's cache. -/
structure RStep (a : CA) (B rb : Nat) (r r' : RS) (w w' : World) : Prop where
  rc : RC a B rb r' w'
  chg : Chg (r.own rb) w w'
  new : ∀ k, r'.own rb k → r.own rb k ∨ w.heap.size ≤ k
theorem RStep.trans {r1 r2 : RS} {w1 w2 : World} (h1 : RStep a B rb r r1 w w1) (h2 : RStep a B rb r1 r2 w1 w2) : RStep a B rb r r2 w w2 := by
  refine ⟨h2.rc, h1.chg.trans h2.chg (fun j hj e => ?_), fun k hk => ?_⟩
  · rcases h1.new j e with h | h
    · exact h
    · omega
  · rcases h2.new k hk with h | h
    · exact h1.new k h
    · exact Or.inr (Nat.le_trans h1.chg.size h)
end
end Go.Proofs.Ytadfmnlkfcigoaa
