import Derived.Test.YtjojhhkbebddmaaProg
import Derived.Conc.LoneSelect
import Derived.PlainAid
import Derived.WalkKit
namespace Go.Proofs.Ytjojhhkbebddmaa
open Go.RowKit Go.PlainAid Go.Conc
set_option linter.unusedVariables false
set_option linter.unusedSimpArgs false
/-- A piece of code of a frame that is no early one: what it comes to. -/
def wpN (P : Program) (c : Code) (Q : Exit → Act → World → Prop) (a : Act) (w : World) : Prop :=
  ∀ (b : Frame) (k : List Item) (cs : List Frame), b.kind ≠ .early → ∃ e a' w', Q e a' w' ∧ Arrives P (lone (b.at a (.code c :: k)) cs w) b k cs e a' w'
section
variable {P : Program} {Q : Exit → Act → World → Prop} {a : Act} {w : World} {x y c : Code}
theorem wpN_of (h : c.wp P Q a w) : wpN P c Q a w := fun b k cs _ => h b k cs
theorem Arrives.past {m : Machine} {b : Frame} {i : Item} {k : List Item} {cs : List Frame} {e : Exit} (hi : i.plain = true) (he : e ≠ .normal) (h : Arrives P m b (i :: k) cs e a w) : Arrives P m b k cs e a w :=
  Arrives.pass (x := i) hi (fun _ _ => Or.inl he) h
theorem wpN_seq (h : wpN P x (Exit.then (wpN P y Q) Q) a w) : wpN P (.seq x y) Q a w := by
  intro b k cs hb
  obtain ⟨e, a1, w1, hq, hr⟩ := h b (.code y :: k) cs hb
  by_cases he : e = .normal
  · subst he
    obtain ⟨e2, a2, w2, hq2, hr2⟩ := (show wpN P y Q a1 w1 from hq) b k cs hb
    exact ⟨e2, a2, w2, hq2, Arrives.of_steps (Steps.head step_seq hr) hr2⟩
  · have hq' : Q e a1 w1 := by
      cases e <;> first | exact hq | exact absurd rfl he
    exact ⟨e, a1, w1, hq', Arrives.of_steps (Steps.one step_seq) (Arrives.past rfl he hr)⟩
theorem wpN_block {id : Nat} (h : wpN P c (Exit.inBlock id Q) a w) : wpN P (.block id c) Q a w := by
  intro b k cs hb
  obtain ⟨e, a1, w1, hq, hr⟩ := h b (.inBlock id :: k) cs hb
  cases e with
  | normal => exact ⟨.normal, a1, w1, hq, Steps.head step_block (Steps.trans hr (Steps.one step_inBlock))⟩
  | exit j =>
    by_cases hj : j = id
    · subst hj
      simp only [Exit.inBlock, if_true] at hq
      exact ⟨.normal, a1, w1, hq, Steps.head step_block (hr k (by simp [exitTo]))⟩
    · simp only [Exit.inBlock, if_neg hj] at hq
      have hne : (id == j) = false := by simpa using fun e => hj e.symm
      exact ⟨.exit j, a1, w1, hq, fun k' hk => Steps.head step_block (hr k' (by simp [exitTo, hne, hk]))⟩
  | goto l => exact ⟨_, a1, w1, hq, fun k' hk => Steps.head step_block (hr k' (by simp [gotoIn, hk]))⟩
  | ret => exact ⟨_, a1, w1, hq, Arrives.of_steps (e := .ret) (Steps.one step_block) hr⟩
  | panic ch => exact ⟨_, a1, w1, hq, Arrives.of_steps (e := .panic ch) (Steps.one step_block) hr⟩
  | outgrown => exact ⟨_, a1, w1, hq, Arrives.of_steps (b := b) (k := k) (cs := cs) (e := .outgrown) (Steps.one step_block) hr⟩
theorem wpN_loop (I : Act → World → Prop) (μ : Act → World → Nat) (h0 : I a w) (round : ∀ a w, I a w → wpN P c (Exit.then (fun a' w' => I a' w' ∧ μ a' w' < μ a w) Q) a w) : wpN P (.loop c) Q a w := by
  intro b k cs hb
  suffices H : ∀ n a w, μ a w ≤ n → I a w → ∃ e a' w', Q e a' w' ∧ Arrives P (lone (b.at a (.code c :: .inLoop c :: k)) cs w) b k cs e a' w' by
    obtain ⟨e, a', w', hq, hr⟩ := H (μ a w) a w (Nat.le_refl _) h0
    exact ⟨e, a', w', hq, Arrives.of_steps (Steps.one step_loop) hr⟩
  intro n
  induction n with
  | zero =>
    intro a w hn hI
    obtain ⟨e, a1, w1, hq, hr⟩ := round a w hI b (.inLoop c :: k) cs hb
    by_cases he : e = .normal
    · subst he
      have h2 : I a1 w1 ∧ μ a1 w1 < μ a w := hq
      omega
    · have hq' : Q e a1 w1 := by cases e <;> first | exact hq | exact absurd rfl he
      exact ⟨e, a1, w1, hq', Arrives.past rfl he hr⟩
  | succ n ih =>
    intro a w hn hI
    obtain ⟨e, a1, w1, hq, hr⟩ := round a w hI b (.inLoop c :: k) cs hb
    by_cases he : e = .normal
    · subst he
      obtain ⟨hI1, hlt⟩ : I a1 w1 ∧ μ a1 w1 < μ a w := hq
      obtain ⟨e2, a2, w2, hq2, hr2⟩ := ih a1 w1 (by omega) hI1
      exact ⟨e2, a2, w2, hq2, Arrives.of_steps (Steps.trans hr (Steps.one step_inLoop)) hr2⟩
    · have hq' : Q e a1 w1 := by cases e <;> first | exact hq | exact absurd rfl he
      exact ⟨e, a1, w1, hq', Arrives.past rfl he hr⟩
theorem calls_of_wpN {f : FuncId} {fn : Func} {args : Array Value} {R : Ending → World → Prop} (hf : P.funcs[f]? = some fn) (hb : fn.body = some c)
    (h : wpN P c (bodyPost P fn R) { tmps := args ++ Array.replicate (fn.ntmps - args.size) undef, defers := [] } w) : Calls P f args w R := by
  intro cs
  have hent : Frame.enter P f args .normal = ({ (default : Frame) with fn := f, kind := .normal } : Frame).at { tmps := args ++ Array.replicate (fn.ntmps - args.size) undef, defers := [] } [.code c] := by
    simp [Frame.enter, Frame.at, hf, hb]
  obtain ⟨e, a', w', hq, hr⟩ := h { (default : Frame) with fn := f, kind := .normal } [] cs (by simp)
  rw [← hent] at hr
  cases e with
  | normal =>
    obtain ⟨h1, v, h2, h3⟩ := hq
    exact ⟨.returned v, w', _, h3, Steps.trans hr (Steps.one step_end), rfl, rfl, h1, rfl, fn, hf, h2⟩
  | ret =>
    obtain ⟨h1, v, h2, h3⟩ := hq
    obtain ⟨todo, hs⟩ := hr
    exact ⟨.returned v, w', _, h3, hs, rfl, rfl, h1, rfl, fn, hf, h2⟩
  | panic chain =>
    obtain ⟨h1, h3⟩ := hq
    obtain ⟨todo, hs⟩ := hr
    exact ⟨.panicked chain, w', _, h3, hs, rfl, rfl, h1, fn, hf⟩
  | exit id => exact hq.elim
  | goto l => exact hq.elim
  | outgrown =>
    rcases hr with h1 | h1
    · cases h1
    · exact ⟨.outgrown, w', { (default : Frame) with fn := f }, hq, h1, rfl, trivial⟩
/-- A region that begins with a communication. -/
theorem wpN_comm {id : Nat} {ops : Array Oper} {o : Oper} {rest : List Nat} {v : Value} {w' : World} (ho : ops[0]? = some o) (hl : List.range ops.size = 0 :: rest)
    (hs : ∀ (b : Frame) (k : List Item) (cs : List Frame), b.kind ≠ .early → step P (solo (G (b.at a (.inRegion ops (0 :: rest) :: k)) cs) w) = .next (solo (G ((b.at a (.inRegion ops (0 :: rest) :: k)).finish v) cs) w'))
    (h : wpOps P ops Q rest (a.put o.dst v) w') : wpN P (.region id ops false) Q a w := by
  intro b k cs hb
  obtain ⟨e, a2, w2, hq, hr⟩ := wp_ops rest _ _ h b k cs
  have h1 := hs b k cs hb
  rw [Frame.finish_at, ho] at h1
  refine ⟨e, a2, w2, hq, Arrives.of_steps (Steps.head (step_region (id := id)) ?_) hr⟩
  rw [hl]
  exact Steps.one h1
theorem ops_val {ops : Array Oper} {i : Nat} {rest : List Nat} {o : Oper} {v : Value} (ho : ops[i]? = some o) (hg : o.guard = none) (hr : (execOp a.eval o).run P w = .ok (.value v) w) (h : wpOps P ops Q rest (a.put o.dst v) w) : wpOps P ops Q (i :: rest) a w := by
  simp only [wpOps, ho]
  rw [if_pos (by simp [Region.wanted, hg])]
  refine Or.inl ?_
  unfold Oper.wp
  rw [hr]
  exact h
end
end Go.Proofs.Ytjojhhkbebddmaa
