import Derived.Test.YtjojhhkbebddmaaMix
import Derived.Test.YtjojhhkbebddmaaBase
namespace Go.Proofs.Ytjojhhkbebddmaa
open Go.RowKit Go.PlainAid
section
variable {ops : Array Oper} {C : World → Prop} {eff : Nat → Bool} {Q : Act → World → Prop} {a : Act} {w w1 : World} {rest : List Oper} {o : Oper} {f : Nat → Value} {N d k z : Nat}
/-- A read. -/
theorem ly (hF : Fr N a f) (he : eff k = false) (hC : C w) (hd : o.dst = some d) (hN : d < N) (hw : Region.wanted o (yielded ops a.tmps) = true) {v : Value} (hr : ∀ w, C w → (execOp a.eval o).run Try.prog w = .ok (.value v) w)
    (h : ∀ a', Fr N a' (upd f d v) → wpLex Try.prog ops C eff z Q rest (k + 1) a' w) : wpLex Try.prog ops C eff z Q (o :: rest) k a w := by
  refine ⟨hC, ?_⟩
  rw [if_neg (by rw [he]; simp)]
  exact ⟨v, Or.inl ⟨hw, hr⟩, by rw [hd]; exact h _ (hF.put d v hN)⟩
/-- One that is passed over. -/
theorem ln (hF : Fr N a f) (he : eff k = false) (hC : C w) (hd : o.dst = some d) (hN : d < N) (hw : Region.wanted o (yielded ops a.tmps) = false)
    (h : ∀ a', Fr N a' (upd f d undef) → wpLex Try.prog ops C eff z Q rest (k + 1) a' w) : wpLex Try.prog ops C eff z Q (o :: rest) k a w := by
  refine ⟨hC, ?_⟩
  rw [if_neg (by rw [he]; simp)]
  exact ⟨undef, Or.inr ⟨hw, rfl⟩, by rw [hd]; exact h _ (hF.put d undef hN)⟩
/-- An effect that is no call. -/
theorem le (hF : Fr N a f) (he : eff k = true) (hC : C w) (hd : o.dst = some d) (hN : d < N) (hw : Region.wanted o (yielded ops a.tmps) = true) {v : Value} (hr : (execOp a.eval o).run Try.prog w = .ok (.value v) w1)
    (h : ∀ a', Fr N a' (upd f d v) → wpLex Try.prog ops C eff z Q rest (k + 1) a' w1) : wpLex Try.prog ops C eff z Q (o :: rest) k a w := by
  refine ⟨hC, ?_⟩
  rw [if_pos he]
  exact Or.inl ⟨hw, Or.inl ⟨v, w1, Or.inl hr, by rw [hd]; exact h _ (hF.put d v hN)⟩⟩
/-- A call. -/
theorem lc (hF : Fr N a f) (he : eff k = true) (hC : C w) (hd : o.dst = some d) (hN : d < N) (hw : Region.wanted o (yielded ops a.tmps) = true) {g : Nat} {args : Array Value} {Post : Ending → World → Prop} (hr : (execOp a.eval o).run Try.prog w = .ok (.enter g args) w) (hc : Calls Try.prog g args w Post)
    (h : ∀ e w', Post e w' → ∃ v, e = .returned v ∧ ∀ a', Fr N a' (upd f d v) → wpLex Try.prog ops C eff z Q rest (k + 1) a' w') : wpLex Try.prog ops C eff z Q (o :: rest) k a w := by
  refine ⟨hC, ?_⟩
  rw [if_pos he]
  refine Or.inl ⟨hw, Or.inr ⟨g, args, hr, hc.mono fun e w' hp => ?_⟩⟩
  obtain ⟨v, rfl, h'⟩ := h e w' hp
  exact ⟨v, rfl, by rw [hd]; exact h' _ (hF.put d v hN)⟩
/-- A store. -/
theorem lst (he : eff k = true) (hC : C w) (hd : o.dst = none) (hw : Region.wanted o (yielded ops a.tmps) = true) (hr : (execOp a.eval o).run Try.prog w = .ok .skip w1)
    (h : wpLex Try.prog ops C eff z Q rest (k + 1) a w1) : wpLex Try.prog ops C eff z Q (o :: rest) k a w := by
  refine ⟨hC, ?_⟩
  rw [if_pos he]
  exact Or.inl ⟨hw, Or.inl ⟨undef, w1, Or.inr ⟨hr, rfl⟩, by rw [hd]; exact h⟩⟩
end
theorem withFrP {ops : Array Oper} {C : World → Prop} {eff : Nat → Bool} {z : Nat} {Q : Act → World → Prop} {l : List Oper} {k : Nat} {t : Array Value} {w : World} {N : Nat} (ht : t.size = N) (h : ∀ f, Fr N { tmps := t, defers := [] } f → (∀ j, f j = t.getD j undef) → wpLex Try.prog ops C eff z Q l k { tmps := t, defers := [] } w) : wpLex Try.prog ops C eff z Q l k { tmps := t, defers := [] } w :=
  h _ (Fr.ofLit t ht) fun _ => rfl
section
variable {ops : Array Oper} {C : World → Prop} {eff : Nat → Bool} {Q : Act → World → Prop} {a : Act} {w w1 : World} {rest : List Oper} {o : Oper} {f : Nat → Value} {N d k z : Nat}
/- The same with the frame itself. -/
theorem lyp (hF : Fr N a f) (he : eff k = false) (hC : C w) (hd : o.dst = some d) (hN : d < N) (hw : Region.wanted o (yielded ops a.tmps) = true) {v : Value} (hr : ∀ w, C w → (execOp a.eval o).run Try.prog w = .ok (.value v) w)
    (h : Fr N (a.put (some d) v) (upd f d v) → wpLex Try.prog ops C eff z Q rest (k + 1) (a.put (some d) v) w) : wpLex Try.prog ops C eff z Q (o :: rest) k a w := by
  refine ⟨hC, ?_⟩
  rw [if_neg (by rw [he]; simp)]
  exact ⟨v, Or.inl ⟨hw, hr⟩, by rw [hd]; exact h (hF.put d v hN)⟩
theorem lcp (hF : Fr N a f) (he : eff k = true) (hC : C w) (hd : o.dst = some d) (hN : d < N) (hw : Region.wanted o (yielded ops a.tmps) = true) {g : Nat} {args : Array Value} {Post : Ending → World → Prop} (hr : (execOp a.eval o).run Try.prog w = .ok (.enter g args) w) (hc : Calls Try.prog g args w Post)
    (h : ∀ e w', Post e w' → ∃ v, e = .returned v ∧ (Fr N (a.put (some d) v) (upd f d v) → wpLex Try.prog ops C eff z Q rest (k + 1) (a.put (some d) v) w')) : wpLex Try.prog ops C eff z Q (o :: rest) k a w := by
  refine ⟨hC, ?_⟩
  rw [if_pos he]
  refine Or.inl ⟨hw, Or.inr ⟨g, args, hr, hc.mono fun e w' hp => ?_⟩⟩
  obtain ⟨v, rfl, h'⟩ := h e w' hp
  exact ⟨v, rfl, by rw [hd]; exact h' (hF.put d v hN)⟩
end
theorem withFrL {ops : Array Oper} {C : World → Prop} {eff : Nat → Bool} {z : Nat} {Q : Act → World → Prop} {l : List Oper} {k : Nat} {t : Array Value} {w : World} {N : Nat} (ht : t.size = N) (h : ∀ a f, Fr N a f → (∀ j, f j = t.getD j undef) → wpLex Try.prog ops C eff z Q l k a w) : wpLex Try.prog ops C eff z Q l k { tmps := t, defers := [] } w :=
  h _ _ (Fr.ofLit t ht) fun _ => rfl
section
variable {ops : Array Oper} {C : World → Prop} {eff : Nat → Bool} {Q : Act → World → Prop} {a : Act} {w w1 : World} {rest : List Oper} {o : Oper} {f : Nat → Value} {N d k z : Nat}
theorem lep (hF : Fr N a f) (he : eff k = true) (hC : C w) (hd : o.dst = some d) (hN : d < N) (hw : Region.wanted o (yielded ops a.tmps) = true) {v : Value} (hr : (execOp a.eval o).run Try.prog w = .ok (.value v) w1)
    (h : Fr N (a.put (some d) v) (upd f d v) → wpLex Try.prog ops C eff z Q rest (k + 1) (a.put (some d) v) w1) : wpLex Try.prog ops C eff z Q (o :: rest) k a w := by
  refine ⟨hC, ?_⟩
  rw [if_pos he]
  exact Or.inl ⟨hw, Or.inl ⟨v, w1, Or.inl hr, by rw [hd]; exact h (hF.put d v hN)⟩⟩
theorem lnp (hF : Fr N a f) (he : eff k = false) (hC : C w) (hd : o.dst = some d) (hN : d < N) (hw : Region.wanted o (yielded ops a.tmps) = false)
    (h : Fr N (a.put (some d) undef) (upd f d undef) → wpLex Try.prog ops C eff z Q rest (k + 1) (a.put (some d) undef) w) : wpLex Try.prog ops C eff z Q (o :: rest) k a w := by
  refine ⟨hC, ?_⟩
  rw [if_neg (by rw [he]; simp)]
  exact ⟨undef, Or.inr ⟨hw, rfl⟩, by rw [hd]; exact h (hF.put d undef hN)⟩
theorem want_yes {i : Nat} {b : Bool} (hF : Fr N a f) (hg : o.guard = some (i, b)) {e : Nat} (ho : (ops[i]?).bind (·.dst) = some e) (he : e < N) (hb : f e = .bool b) : Region.wanted o (yielded ops a.tmps) = true := by
  rw [wanted_some hg, hF.yields ho he hb]
  simp
theorem want_no {i : Nat} {b c : Bool} (hF : Fr N a f) (hg : o.guard = some (i, b)) {e : Nat} (ho : (ops[i]?).bind (·.dst) = some e) (he : e < N) (hb : f e = .bool c) (hne : c ≠ b) : Region.wanted o (yielded ops a.tmps) = false := by
  rw [wanted_some hg, hF.yields ho he hb]
  simp [hne]
theorem want_not {i : Nat} {b : Bool} (hF : Fr N a f) (hg : o.guard = some (i, b)) {e : Nat} (ho : (ops[i]?).bind (·.dst) = some e) (he : e < N) (hb : f e = undef) : Region.wanted o (yielded ops a.tmps) = false := by
  rw [wanted_some hg, hF.yieldsNot ho he hb]
  rfl
end
section
variable {ops : Array Oper} {Q : Exit → Act → World → Prop} {a : Act} {w : World} {rest : List Oper} {o : Oper} {f : Nat → Value} {N d : Nat}
structure WS (ops : Array Oper) (Q : Exit → Act → World → Prop) (l : List Oper) (a : Act) (w : World) : Prop where
  out : wpList Try.prog ops Q l a w
theorem syp (hF : Fr N a f) (hd : o.dst = some d) (hN : d < N) (hw : Region.wanted o (yielded ops a.tmps) = true) {v : Value} (hr : (execOp a.eval o).run Try.prog w = .ok (.value v) w)
    (h : Fr N (a.put (some d) v) (upd f d v) → WS ops Q rest (a.put (some d) v) w) : WS ops Q (o :: rest) a w :=
  ⟨st_yes hw hr (by rw [hd]; exact (h (hF.put d v hN)).out)⟩
theorem snp (hF : Fr N a f) (hd : o.dst = some d) (hN : d < N) (hw : Region.wanted o (yielded ops a.tmps) = false)
    (h : Fr N (a.put (some d) undef) (upd f d undef) → WS ops Q rest (a.put (some d) undef) w) : WS ops Q (o :: rest) a w :=
  ⟨st_no hw (by rw [hd]; exact (h (hF.put d undef hN)).out)⟩
theorem withFrS {l : List Oper} {t : Array Value} (ht : t.size = N) (h : ∀ f, Fr N { tmps := t, defers := [] } f → (∀ j, f j = t.getD j undef) → WS ops Q l { tmps := t, defers := [] } w) : wpList Try.prog ops Q l { tmps := t, defers := [] } w :=
  (h _ (Fr.ofLit t ht) fun _ => rfl).out
end
end Go.Proofs.Ytjojhhkbebddmaa
