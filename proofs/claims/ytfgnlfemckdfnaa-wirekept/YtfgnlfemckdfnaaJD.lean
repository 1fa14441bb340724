import Derived.Test.YtfgnlfemckdfnaaRComp3
import Derived.Test.YtfgnlfemckdfnaaJC
namespace Go.Proofs.Ytfgnlfemckdfnaa
open Go.RowKit Go.PlainAid
def msgCells (m : Msg) (vs : Value) : Array Value := #[.int .i64 m.kind, Str m.name, .int .i64 m.cap, .int .i64 m.recaps, .int .i64 m.round, .int .i64 m.rank, .int .i64 m.oround, .int .i64 m.orank, .int .i64 m.down, .int .i64 m.up, .int .i64 m.held, .int .i64 m.session, .int .i64 m.id, .int .i64 m.okind, Str m.oname, .int .i64 m.oa, .int .i64 m.ob, .int .i64 m.err, .int .i64 m.value, vs]
def zeroC : Array Value := msgCells Msg.zero (.slice none 0 0)
theorem body1 : bodyC 1 = askC := by unfold bodyC; simp
theorem body2 : bodyC 2 = toldC := by unfold bodyC; simp
theorem body3 : bodyC 3 = markC := by unfold bodyC; simp
theorem body4 : bodyC 4 = yieldC := by unfold bodyC; simp
theorem body5 : bodyC 5 = grantC 5 := by unfold bodyC; simp
theorem body6 : bodyC 6 = grantC 6 := by unfold bodyC; simp
theorem body7 : bodyC 7 = overC := by unfold bodyC; simp
theorem body8 : bodyC 8 = wantC 8 := by unfold bodyC; simp
theorem body9 : bodyC 9 = wantC 9 := by unfold bodyC; simp
theorem body10 : bodyC 10 = digestC := by unfold bodyC; simp
theorem capsIf0 : capsIf 0 = caps := rfl
theorem capsIf101 : capsIf 101 = caps := rfl
theorem capsIfn_rd (e : Int) (h0 : (e == 0) = false) (h1 : (e == 101) = false) (l : List UInt8) : (capsIf e).rd l = .ok ((0, 0), 0) := by
  unfold capsIf hasCap
  rw [h0, h1]
  rfl
end Go.Proofs.Ytfgnlfemckdfnaa
namespace Go.Proofs.Ytfgnlfemckdfnaa
open Go.RowKit Go.PlainAid
/- A frame as a function of the slot. -/
def upd (f : Nat → Value) (d : Nat) (v : Value) : Nat → Value := fun j => if j = d then v else f j
structure Fr (N : Nat) (a : Act) (f : Nat → Value) : Prop where
  size : a.tmps.size = N
  defers : a.defers = []
  get : ∀ j, j < N → a.tmps[j]? = some (f j)
theorem Fr.put {N : Nat} {a : Act} {f : Nat → Value} (h : Fr N a f) (d : Nat) (v : Value) (hd : d < N) : Fr N (a.put (some d) v) (upd f d v) := by
  refine ⟨by simp [Act.put, h.size], by simp [Act.put, h.defers], fun j hj => ?_⟩
  simp only [Act.put, upd, Array.getElem?_setIfInBounds, h.size, h.get j hj]
  by_cases e : d = j
  · subst e; simp [hd]
  · rw [if_neg e, if_neg (fun e' => e e'.symm)]
theorem Fr.eval {N : Nat} {a : Act} {f : Nat → Value} (h : Fr N a f) (j : Nat) (hj : j < N) : a.eval (.tmp j) = f j := by
  simp [Act.eval, h.get j hj]
theorem Fr.yields {N : Nat} {a : Act} {f : Nat → Value} (h : Fr N a f) {ops : Array Oper} {i d : Nat} (ho : (ops[i]?).bind (·.dst) = some d) (hd : d < N) {b : Bool} (hb : f d = .bool b) : yielded ops a.tmps i = some b := by
  simp [yielded, ho, h.get d hd, hb]
theorem Fr.yieldsNot {N : Nat} {a : Act} {f : Nat → Value} (h : Fr N a f) {ops : Array Oper} {i d : Nat} (ho : (ops[i]?).bind (·.dst) = some d) (hd : d < N) (hb : f d = undef) : yielded ops a.tmps i = none := by
  simp only [yielded, ho, Option.bind_some, h.get d hd, hb]
  rfl
section
variable {ops : Array Oper} {Q : Exit → Act → World → Prop} {a : Act} {w : World} {rest : List Oper} {o : Oper}
theorem st_yes {v : Value} (hw : Region.wanted o (yielded ops a.tmps) = true) (hr : (execOp a.eval o).run Try.prog w = .ok (.value v) w) (h : wpList Try.prog ops Q rest (a.put o.dst v) w) : wpList Try.prog ops Q (o :: rest) a w :=
  wpList_step fun K hK => by
    rw [if_pos hw]
    unfold Oper.wp
    rw [hr]
    exact hK _ _ h
theorem st_no (hw : Region.wanted o (yielded ops a.tmps) = false) (h : wpList Try.prog ops Q rest (a.put o.dst undef) w) : wpList Try.prog ops Q (o :: rest) a w :=
  wpList_step fun K hK => by
    rw [if_neg (by rw [hw]; simp)]
    exact hK _ _ h
theorem st_call {v : Value} {k : Nat} {args : Array Value} (hw : Region.wanted o (yielded ops a.tmps) = true) (hr : (execOp a.eval o).run Try.prog w = .ok (.enter k args) w) (hc : Calls Try.prog k args w fun e w' => e = .returned v ∧ w' = w)
    (h : wpList Try.prog ops Q rest (a.put o.dst v) w) : wpList Try.prog ops Q (o :: rest) a w :=
  wpList_step fun K hK => by
    rw [if_pos hw]
    unfold Oper.wp
    rw [hr]
    refine hc.mono ?_
    rintro e w' ⟨rfl, rfl⟩
    exact hK _ _ h
theorem wanted_none {g : Nat → Option Bool} (h : o.guard = none) : Region.wanted o g = true := by simp [Region.wanted, h]
theorem wanted_some {g : Nat → Option Bool} {i : Nat} {b : Bool} (h : o.guard = some (i, b)) : Region.wanted o g = (g i == some b) := by simp [Region.wanted, h]
end
section
variable {ops : Array Oper} {Q : Exit → Act → World → Prop} {a : Act} {w : World} {rest : List Oper} {o : Oper} {f : Nat → Value} {N d : Nat}
theorem sy (hF : Fr N a f) (hd : o.dst = some d) (hN : d < N) (hw : Region.wanted o (yielded ops a.tmps) = true) {v : Value} (hr : (execOp a.eval o).run Try.prog w = .ok (.value v) w) (h : ∀ a', Fr N a' (upd f d v) → wpList Try.prog ops Q rest a' w) : wpList Try.prog ops Q (o :: rest) a w :=
  st_yes hw hr (by rw [hd]; exact h _ (hF.put d v hN))
theorem sn (hF : Fr N a f) (hd : o.dst = some d) (hN : d < N) (hw : Region.wanted o (yielded ops a.tmps) = false) (h : ∀ a', Fr N a' (upd f d undef) → wpList Try.prog ops Q rest a' w) : wpList Try.prog ops Q (o :: rest) a w :=
  st_no hw (by rw [hd]; exact h _ (hF.put d undef hN))
theorem sc (hF : Fr N a f) (hd : o.dst = some d) (hN : d < N) (hw : Region.wanted o (yielded ops a.tmps) = true) {k : Nat} {args : Array Value} (hr : (execOp a.eval o).run Try.prog w = .ok (.enter k args) w) {v : Value} (hc : Calls Try.prog k args w fun e w' => e = .returned v ∧ w' = w)
    (h : ∀ a', Fr N a' (upd f d v) → wpList Try.prog ops Q rest a' w) : wpList Try.prog ops Q (o :: rest) a w :=
  st_call hw hr hc (by rw [hd]; exact h _ (hF.put d v hN))
theorem sz (hF : Fr N a f) {v : Value} (hr : (execOp a.eval o).run Try.prog w = .ok (.value v) w) (h : ∀ a', Fr N a' (upd f d v) → wpList Try.prog ops Q rest a' w) (hd : o.dst = some d := by rfl) (hN : d < N := by omega) (hg : o.guard = none := by rfl) : wpList Try.prog ops Q (o :: rest) a w := sy hF hd hN (wanted_none hg) hr h
theorem sm (hF : Fr N a f) (hw : Region.wanted o (yielded ops a.tmps) = false) (h : ∀ a', Fr N a' (upd f d undef) → wpList Try.prog ops Q rest a' w) (hd : o.dst = some d := by rfl) (hN : d < N := by omega) : wpList Try.prog ops Q (o :: rest) a w := sn hF hd hN hw h
theorem Fr.mr (hF : Fr N a f) (k : Nat) {v : Value} (h : f k = v := by first | rfl | simp [upd]) (ho : o.op = .move (.tmp k) := by rfl) (hk : k < N := by omega) : (execOp a.eval o).run Try.prog w = .ok (.value v) w := by simp only [execOp, ho, (hF.eval k hk).trans h]; rfl
theorem Fr.ny {g : Nat} {gb r : Bool} (hF : Fr N a f) (h2 : (ops[g]?).bind (·.dst) = some d) (b : Bool) (hb : f d = .bool b := by simp [upd]) (h3 : d < N := by omega) (h1 : o.guard = some (g, gb) := by rfl) (h4 : (some b == some gb) = r := by rfl) : Region.wanted o (yielded ops a.tmps) = r := by
  rw [wanted_some h1, hF.yields h2 h3 hb]; exact h4
theorem Fr.nn {g : Nat} {gb : Bool} (hF : Fr N a f) (h2 : (ops[g]?).bind (·.dst) = some d) (hb : f d = undef := by simp [upd]) (h3 : d < N := by omega) (h1 : o.guard = some (g, gb) := by rfl) : Region.wanted o (yielded ops a.tmps) = false := by
  rw [wanted_some h1, hF.yieldsNot h2 h3 hb]; rfl
theorem wn {y : Nat → Option Bool} (h : o.guard = none := by rfl) : Region.wanted o y = true := wanted_none h
end
end Go.Proofs.Ytfgnlfemckdfnaa
