import Derived.Test.YtnphkmdanicemaaGreatDoorLErr
import Derived.Test.YtnphkmdanicemaaGreatDoorRows
import Derived.WalkKit
import Derived.WalkSpells
import Derived.WalkLawsBesides
import Derived.Handy
import Derived.PlainAid
import Derived.Laws.AppendOwnNone
import Derived.Recover
import Derived.Laws.Cover1
import Derived.Deep.RegionWith
import Derived.Deep.RegionLaw
import Derived.Deep.QuietTactic
import Derived.BigQuiet
namespace Go.Proofs.YtnphkmdanicemaaGreatDoor.Led
open Go.RowKit Go.PlainAid

theorem val_i64 {a b : Int} (h : a = b) : Value.int .i64 a = .int .i64 b := by rw [h]
theorem ret_i64 {a b : Int} (h : a = b) : Ending.returned (.int .i64 a) = .returned (.int .i64 b) := by rw [h]
theorem ret_bool {a b : Bool} (h : a = b) : Ending.returned (.bool a) = .returned (.bool b) := by rw [h]
theorem addr_add (g o j : Nat) : (Addr.add ⟨g, o, none⟩ j) = ⟨g, o + j, none⟩ := by unfold Addr.add; split <;> simp_all
def Blk (w : World) (mb : Nat) (C : Array Value) (T : TypeId) : Prop := w.heap[mb]? = some (.cells C T (0, 0))
theorem Blk.cell {w : World} {mb : Nat} {C : Array Value} {T : TypeId} (h : Blk w mb C T) (j : Nat) : w.cell? ⟨mb, j, none⟩ = C[j]? := cell_of_row w mb j C T (0, 0) h
theorem Blk.frozen {w : World} {mb : Nat} {C : Array Value} {T : TypeId} (h : Blk w mb C T) (j : Nat) : w.frozen? ⟨mb, j, none⟩ = false := by unfold Blk at h; simp [World.frozen?, h]
theorem Blk.lt {w : World} {mb : Nat} {C : Array Value} {T : TypeId} (h : Blk w mb C T) : mb < w.heap.size := (Array.getElem?_eq_some_iff.1 h).1
theorem Blk.set {w : World} {mb : Nat} {C : Array Value} {T : TypeId} (h : Blk w mb C T) (j : Nat) (v : Value) : Blk (w.setCell ⟨mb, j, none⟩ v) mb (C.setIfInBounds j v) T := by
  unfold Blk at *
  simp [World.setCell, Array.getElem?_modify, h]
theorem Blk.below {w w' : World} {B mb : Nat} {C : Array Value} {T : TypeId} (h : Blk w mb C T) (hb : Below B w w') (hlt : mb < B) : Blk w' mb C T := (hb.block mb hlt).trans h
def upd (f : Nat → Value) (d : Nat) (v : Value) : Nat → Value := fun j => if j = d then v else f j
structure Fr (N : Nat) (a : Act) (f : Nat → Value) : Prop where
  size : a.tmps.size = N
  defers : a.defers = []
  get : ∀ j, j < N → a.tmps[j]? = some (f j)
theorem Fr.put {N : Nat} {a : Act} {f : Nat → Value} (h : Fr N a f) (d : Nat) (v : Value) (hd : d < N) : Fr N (a.put (some d) v) (upd f d v) := by
  refine ⟨by simp [Act.put, h.size], by simp [Act.put, h.defers], fun j hj => ?_⟩
  simp only [Act.put, upd, Array.getElem?_setIfInBounds, h.size, h.get j hj]
  by_cases e : d = j
  · subst e; simp [hd]
  · rw [if_neg e, if_neg (fun e' => e e'.symm)]
theorem Fr.eval {N : Nat} {a : Act} {f : Nat → Value} (h : Fr N a f) (j : Nat) (hj : j < N) : a.eval (.tmp j) = f j := by
  simp [Act.eval, h.get j hj]
theorem Fr.yields {N : Nat} {a : Act} {f : Nat → Value} (h : Fr N a f) {ops : Array Oper} {i d : Nat} (ho : (ops[i]?).bind (·.dst) = some d) (hd : d < N) {b : Bool} (hb : f d = .bool b) : yielded ops a.tmps i = some b := by
  simp [yielded, ho, h.get d hd, hb]
theorem Fr.yieldsNot {N : Nat} {a : Act} {f : Nat → Value} (h : Fr N a f) {ops : Array Oper} {i d : Nat} (ho : (ops[i]?).bind (·.dst) = some d) (hd : d < N) (hb : f d = undef) : yielded ops a.tmps i = none := by
  simp only [yielded, ho, Option.bind_some, h.get d hd, hb]
  rfl

section
variable {ops : Array Oper} {Q : Exit → Act → World → Prop} {a : Act} {w : World} {rest : List Oper} {o : Oper}
theorem st_yes {v : Value} (hw : Region.wanted o (yielded ops a.tmps) = true) (hr : (execOp a.eval o).run Tryz.prog w = .ok (.value v) w) (h : wpList Tryz.prog ops Q rest (a.put o.dst v) w) : wpList Tryz.prog ops Q (o :: rest) a w :=
  wpList_step fun K hK => by
    rw [if_pos hw]
    unfold Oper.wp
    rw [hr]
    exact hK _ _ h
theorem st_no (hw : Region.wanted o (yielded ops a.tmps) = false) (h : wpList Tryz.prog ops Q rest (a.put o.dst undef) w) : wpList Tryz.prog ops Q (o :: rest) a w :=
  wpList_step fun K hK => by
    rw [if_neg (by rw [hw]; simp)]
    exact hK _ _ h
theorem st_call {v : Value} {k : Nat} {args : Array Value} (hw : Region.wanted o (yielded ops a.tmps) = true) (hr : (execOp a.eval o).run Tryz.prog w = .ok (.enter k args) w) (hc : Calls Tryz.prog k args w fun e w' => e = .returned v ∧ w' = w)
    (h : wpList Tryz.prog ops Q rest (a.put o.dst v) w) : wpList Tryz.prog ops Q (o :: rest) a w :=
  wpList_step fun K hK => by
    rw [if_pos hw]
    unfold Oper.wp
    rw [hr]
    refine hc.mono ?_
    rintro e w' ⟨rfl, rfl⟩
    exact hK _ _ h
theorem wanted_none {g : Nat → Option Bool} (h : o.guard = none) : Region.wanted o g = true := by simp [Region.wanted, h]
theorem wanted_some {g : Nat → Option Bool} {i : Nat} {b : Bool} (h : o.guard = some (i, b)) : Region.wanted o g = (g i == some b) := by simp [Region.wanted, h]
end

section
variable {ops : Array Oper} {Q : Exit → Act → World → Prop} {a : Act} {w : World} {rest : List Oper} {o : Oper} {f : Nat → Value} {N d : Nat}
theorem sy (hF : Fr N a f) (hd : o.dst = some d) (hN : d < N) (hw : Region.wanted o (yielded ops a.tmps) = true) {v : Value} (hr : (execOp a.eval o).run Tryz.prog w = .ok (.value v) w) (h : ∀ a', Fr N a' (upd f d v) → wpList Tryz.prog ops Q rest a' w) : wpList Tryz.prog ops Q (o :: rest) a w :=
  st_yes hw hr (by rw [hd]; exact h _ (hF.put d v hN))
theorem sn (hF : Fr N a f) (hd : o.dst = some d) (hN : d < N) (hw : Region.wanted o (yielded ops a.tmps) = false) (h : ∀ a', Fr N a' (upd f d undef) → wpList Tryz.prog ops Q rest a' w) : wpList Tryz.prog ops Q (o :: rest) a w :=
  st_no hw (by rw [hd]; exact h _ (hF.put d undef hN))
theorem sc (hF : Fr N a f) (hd : o.dst = some d) (hN : d < N) (hw : Region.wanted o (yielded ops a.tmps) = true) {k : Nat} {args : Array Value} (hr : (execOp a.eval o).run Tryz.prog w = .ok (.enter k args) w) {v : Value} (hc : Calls Tryz.prog k args w fun e w' => e = .returned v ∧ w' = w)
    (h : ∀ a', Fr N a' (upd f d v) → wpList Tryz.prog ops Q rest a' w) : wpList Tryz.prog ops Q (o :: rest) a w :=
  st_call hw hr hc (by rw [hd]; exact h _ (hF.put d v hN))
end
section
variable {ops : Array Oper} {Q : Exit → Act → World → Prop} {a : Act} {w w' : World} {rest : List Oper} {o : Oper} {f : Nat → Value} {N d : Nat}
theorem sw (hF : Fr N a f) (hd : o.dst = some d) (hN : d < N) (hw : Region.wanted o (yielded ops a.tmps) = true) {v : Value} (hr : (execOp a.eval o).run Tryz.prog w = .ok (.value v) w') (h : ∀ a', Fr N a' (upd f d v) → wpList Tryz.prog ops Q rest a' w') : wpList Tryz.prog ops Q (o :: rest) a w :=
  wpList_step fun K hK => by
    rw [if_pos hw]
    unfold Oper.wp
    rw [hr]
    exact hK _ _ (by rw [hd]; exact h _ (hF.put d v hN))
theorem su (hd : o.dst = none) (hw : Region.wanted o (yielded ops a.tmps) = true) (hr : (execOp a.eval o).run Tryz.prog w = .ok .skip w') (h : wpList Tryz.prog ops Q rest a w') : wpList Tryz.prog ops Q (o :: rest) a w :=
  wpList_step fun K hK => by
    rw [if_pos hw]
    unfold Oper.wp
    rw [hr]
    exact hK _ _ (by rw [hd]; exact h)
end

theorem load_row_g {ops : Array Oper} {rest : List Oper} {o : Oper} {a : Act} {w : World} {Q : Exit → Act → World → Prop} (ty : TypeId) (x : Operand) (ho : o.op = .load ty x) (hw : Region.wanted o (yielded ops a.tmps) = true)
    (g : Nat) (hx : a.eval x = .pointer (some ⟨g, 0, none⟩)) (t : TypeId) (cs : Array Value) (fr : Nat × Nat) (fs : _) (hg : w.heap[g]? = some (.cells cs t fr))
    (hu : Tryz.prog.underlying ty = some (.struct fs)) (hi : (Tryz.prog.info? ty).map (·.size) = some cs.size)
    (h : wpList Tryz.prog ops Q rest (a.put o.dst (.agg cs)) w) : wpList Tryz.prog ops Q (o :: rest) a w :=
  wpList_step fun K hK => by
    rw [if_pos hw]
    exact wp_load_row ty x ho g hx t cs fr _ hg hu rfl hi (hK _ _ h)

theorem Fr.lit {N : Nat} {a : Act} {f : Nat → Value} (h : Fr N a f) : a = { tmps := ((List.range N).map f).toArray, defers := [] } := by
  obtain ⟨t, d⟩ := a
  have h1 := h.size
  have h2 := h.defers
  simp only at h1 h2
  subst h2
  congr 1
  apply Array.ext_getElem?
  intro i
  by_cases hi : i < N
  · rw [h.get i hi]
    simp [hi]
  · rw [Array.getElem?_eq_none (by omega), Array.getElem?_eq_none (by simp; omega)]
theorem Fr.ofLit {N : Nat} (t : Array Value) (h : t.size = N) : Fr N { tmps := t, defers := [] } (fun j => t.getD j undef) := by
  refine ⟨h, rfl, fun j hj => ?_⟩
  simp [Array.getD, h, hj]
end Go.Proofs.YtnphkmdanicemaaGreatDoor.Led

