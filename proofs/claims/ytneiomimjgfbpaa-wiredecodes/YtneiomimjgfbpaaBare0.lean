import Derived.Test.YtneiomimjgfbpaaRMsg0
namespace Go.Proofs.Ytneiomimjgfbpaa
open Go.RowKit Go.PlainAid

/- A frame as a function of the slot. -/
def upd (f : Nat → Value) (d : Nat) (v : Value) : Nat → Value := fun j => if j = d then v else f j
structure Fr (N : Nat) (a : Act) (f : Nat → Value) : Prop where
  size : a.tmps.size = N
  defers : a.defers = []
  get : ∀ j, j < N → a.tmps[j]? = some (f j)
theorem Fr.put {N : Nat} {a : Act} {f : Nat → Value} (h : Fr N a f) (d : Nat) (v : Value) (hd : d < N) : Fr N (a.put (some d) v) (upd f d v) := by
  refine ⟨by simp [Act.put, h.size], by simp [Act.put, h.defers], fun j hj => ?_⟩
  simp only [Act.put, upd, Array.getElem?_setIfInBounds, h.size, h.get j hj]
  by_cases e : d = j
  · subst e; simp [hd]
  · rw [if_neg e, if_neg (fun e' => e e'.symm)]
theorem Fr.eval {N : Nat} {a : Act} {f : Nat → Value} (h : Fr N a f) (j : Nat) (hj : j < N) : a.eval (.tmp j) = f j := by
  simp [Act.eval, h.get j hj]
theorem Fr.yields {N : Nat} {a : Act} {f : Nat → Value} (h : Fr N a f) {ops : Array Oper} {i d : Nat} (ho : (ops[i]?).bind (·.dst) = some d) (hd : d < N) {b : Bool} (hb : f d = .bool b) : yielded ops a.tmps i = some b := by
  simp [yielded, ho, h.get d hd, hb]
theorem Fr.yieldsNot {N : Nat} {a : Act} {f : Nat → Value} (h : Fr N a f) {ops : Array Oper} {i d : Nat} (ho : (ops[i]?).bind (·.dst) = some d) (hd : d < N) (hb : f d = undef) : yielded ops a.tmps i = none := by
  simp only [yielded, ho, Option.bind_some, h.get d hd, hb]
  rfl

section
variable {ops : Array Oper} {Q : Exit → Act → World → Prop} {a : Act} {w : World} {rest : List Oper} {o : Oper}
theorem st_yes {v : Value} (hw : Region.wanted o (yielded ops a.tmps) = true) (hr : (execOp a.eval o).run Try.prog w = .ok (.value v) w) (h : wpList Try.prog ops Q rest (a.put o.dst v) w) : wpList Try.prog ops Q (o :: rest) a w :=
  wpList_step fun K hK => by
    rw [if_pos hw]
    unfold Oper.wp
    rw [hr]
    exact hK _ _ h
theorem st_no (hw : Region.wanted o (yielded ops a.tmps) = false) (h : wpList Try.prog ops Q rest (a.put o.dst undef) w) : wpList Try.prog ops Q (o :: rest) a w :=
  wpList_step fun K hK => by
    rw [if_neg (by rw [hw]; simp)]
    exact hK _ _ h
theorem st_call {v : Value} {k : Nat} {args : Array Value} (hw : Region.wanted o (yielded ops a.tmps) = true) (hr : (execOp a.eval o).run Try.prog w = .ok (.enter k args) w) (hc : Calls Try.prog k args w fun e w' => e = .returned v ∧ w' = w)
    (h : wpList Try.prog ops Q rest (a.put o.dst v) w) : wpList Try.prog ops Q (o :: rest) a w :=
  wpList_step fun K hK => by
    rw [if_pos hw]
    unfold Oper.wp
    rw [hr]
    refine hc.mono ?_
    rintro e w' ⟨rfl, rfl⟩
    exact hK _ _ h
theorem wanted_none {g : Nat → Option Bool} (h : o.guard = none) : Region.wanted o g = true := by simp [Region.wanted, h]
theorem wanted_some {g : Nat → Option Bool} {i : Nat} {b : Bool} (h : o.guard = some (i, b)) : Region.wanted o g = (g i == some b) := by simp [Region.wanted, h]
end

section
variable {ops : Array Oper} {Q : Exit → Act → World → Prop} {a : Act} {w : World} {rest : List Oper} {o : Oper} {f : Nat → Value} {N d : Nat}
theorem sy (hF : Fr N a f) (hd : o.dst = some d) (hN : d < N) (hw : Region.wanted o (yielded ops a.tmps) = true) {v : Value} (hr : (execOp a.eval o).run Try.prog w = .ok (.value v) w) (h : ∀ a', Fr N a' (upd f d v) → wpList Try.prog ops Q rest a' w) : wpList Try.prog ops Q (o :: rest) a w :=
  st_yes hw hr (by rw [hd]; exact h _ (hF.put d v hN))
theorem sn (hF : Fr N a f) (hd : o.dst = some d) (hN : d < N) (hw : Region.wanted o (yielded ops a.tmps) = false) (h : ∀ a', Fr N a' (upd f d undef) → wpList Try.prog ops Q rest a' w) : wpList Try.prog ops Q (o :: rest) a w :=
  st_no hw (by rw [hd]; exact h _ (hF.put d undef hN))
theorem sc (hF : Fr N a f) (hd : o.dst = some d) (hN : d < N) (hw : Region.wanted o (yielded ops a.tmps) = true) {k : Nat} {args : Array Value} (hr : (execOp a.eval o).run Try.prog w = .ok (.enter k args) w) {v : Value} (hc : Calls Try.prog k args w fun e w' => e = .returned v ∧ w' = w)
    (h : ∀ a', Fr N a' (upd f d v) → wpList Try.prog ops Q rest a' w) : wpList Try.prog ops Q (o :: rest) a w :=
  st_call hw hr hc (by rw [hd]; exact h _ (hF.put d v hN))
end
end Go.Proofs.Ytneiomimjgfbpaa
