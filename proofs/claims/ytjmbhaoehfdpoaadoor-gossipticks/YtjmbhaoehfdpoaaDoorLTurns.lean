import Derived.Test.YtjmbhaoehfdpoaaDoorLTurn
namespace Go.Proofs.YtjmbhaoehfdpoaaDoor.Led
open Go.RowKit Go.PlainAid
set_option linter.unusedVariables false
set_option linter.unusedSimpArgs false
section
variable {ops : Array Oper} {C : World → Prop} {eff : Nat → Bool} {Q : Act → World → Prop} {a : Act} {w w1 : World} {rest : List Oper} {o : Oper} {f : Nat → Value} {N d k z : Nat}
theorem lep (hF : Fr N a f) (he : eff k = true) (hC : C w) (hd : o.dst = some d) (hN : d < N) (hw : Region.wanted o (yielded ops a.tmps) = true) {v : Value} (hr : (execOp a.eval o).run Tryd.prog w = .ok (.value v) w1)
    (h : Fr N (a.put (some d) v) (upd f d v) → wpLex Tryd.prog ops C eff z Q rest (k + 1) (a.put (some d) v) w1) : wpLex Tryd.prog ops C eff z Q (o :: rest) k a w := by
  refine ⟨hC, ?_⟩
  rw [if_pos he]
  exact Or.inl ⟨hw, Or.inl ⟨v, w1, Or.inl hr, by rw [hd]; exact h (hF.put d v hN)⟩⟩
theorem lnp (hF : Fr N a f) (he : eff k = false) (hC : C w) (hd : o.dst = some d) (hN : d < N) (hw : Region.wanted o (yielded ops a.tmps) = false)
    (h : Fr N (a.put (some d) undef) (upd f d undef) → wpLex Tryd.prog ops C eff z Q rest (k + 1) (a.put (some d) undef) w) : wpLex Tryd.prog ops C eff z Q (o :: rest) k a w := by
  refine ⟨hC, ?_⟩
  rw [if_neg (by rw [he]; simp)]
  exact ⟨undef, Or.inr ⟨hw, rfl⟩, by rw [hd]; exact h (hF.put d undef hN)⟩
theorem want_yes {i : Nat} {b : Bool} (hF : Fr N a f) (hg : o.guard = some (i, b)) {e : Nat} (ho : (ops[i]?).bind (·.dst) = some e) (he : e < N) (hb : f e = .bool b) : Region.wanted o (yielded ops a.tmps) = true := by
  rw [wanted_some hg, hF.yields ho he hb]
  simp
theorem want_no {i : Nat} {b c : Bool} (hF : Fr N a f) (hg : o.guard = some (i, b)) {e : Nat} (ho : (ops[i]?).bind (·.dst) = some e) (he : e < N) (hb : f e = .bool c) (hne : c ≠ b) : Region.wanted o (yielded ops a.tmps) = false := by
  rw [wanted_some hg, hF.yields ho he hb]
  simp [hne]
theorem want_not {i : Nat} {b : Bool} (hF : Fr N a f) (hg : o.guard = some (i, b)) {e : Nat} (ho : (ops[i]?).bind (·.dst) = some e) (he : e < N) (hb : f e = undef) : Region.wanted o (yielded ops a.tmps) = false := by
  rw [wanted_some hg, hF.yieldsNot ho he hb]
  rfl
end
end Go.Proofs.YtjmbhaoehfdpoaaDoor.Led

