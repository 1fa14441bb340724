import Derived.Test.YtjojhhkbebddmaaBd2
import Derived.Test.YtjojhhkbebddmaaMix2
import Derived.Test.YtjojhhkbebddmaaCmm
namespace Go.Proofs.Ytjojhhkbebddmaa
open Go.RowKit Go.PlainAid Go.Conc
set_option linter.unusedVariables false
set_option linter.unusedSimpArgs false
/-- An epoch: its round, its rank. -/
structure Ep where
  r : Int
  k : Int
  deriving DecidableEq
def Ep.row (e : Ep) : List Value := [.int .i64 e.r, .int .i64 e.k]
def epV (e : Ep) : Value := .agg #[.int .i64 e.r, .int .i64 e.k]
def e0 : Ep := ⟨0, 0⟩
/-- An act. -/
structure Ac where
  kd : Int
  to : Int
  e : Ep
  o : Ep
  deriving DecidableEq
def Ac.row (a : Ac) : List Value := [.int .i64 a.kd, .int .i64 a.to, .int .i64 a.e.r, .int .i64 a.e.k, .int .i64 a.o.r, .int .i64 a.o.k]
def acV (a : Ac) : Value := .agg #[.int .i64 a.kd, .int .i64 a.to, .int .i64 a.e.r, .int .i64 a.e.k, .int .i64 a.o.r, .int .i64 a.o.k]
def flatE (l : List Ep) : List Value := l.flatMap Ep.row
def flatA (l : List Ac) : List Value := l.flatMap Ac.row
theorem flatE_len (l : List Ep) : (flatE l).length = l.length * 2 := flat_len Ep.row 2 (fun _ => rfl) l
theorem flatA_len (l : List Ac) : (flatA l).length = l.length * 6 := flat_len Ac.row 6 (fun _ => rfl) l
theorem flatE_app (l m : List Ep) : flatE (l ++ m) = flatE l ++ flatE m := by simp [flatE]
theorem flatA_app (l m : List Ac) : flatA (l ++ m) = flatA l ++ flatA m := by simp [flatA]
theorem flatE_one (l : List Ep) : ∀ u ∈ flatE l, u.oneCell' = true := by
  intro u hu
  obtain ⟨t, _, hu⟩ := List.mem_flatMap.1 hu
  simp only [Ep.row, List.mem_cons, List.not_mem_nil, or_false] at hu
  rcases hu with rfl | rfl <;> rfl
theorem flatA_one (l : List Ac) : ∀ u ∈ flatA l, u.oneCell' = true := by
  intro u hu
  obtain ⟨t, _, hu⟩ := List.mem_flatMap.1 hu
  simp only [Ac.row, List.mem_cons, List.not_mem_nil, or_false] at hu
  rcases hu with rfl | rfl | rfl | rfl | rfl | rfl <;> rfl
theorem info49 : (Try.prog.info? 49).map (fun i => (i.zero, i.size, i.bytes)) = some (some (.agg #[.int .i64 0, .int .i64 0]), 2, 16) := by kernel_rfl
theorem info56 : (Try.prog.info? 56).map (fun i => (i.zero, i.size, i.bytes)) = some (some (.agg #[.int .i64 0, .int .i64 0, .int .i64 0, .int .i64 0, .int .i64 0, .int .i64 0]), 6, 48) := by kernel_rfl
theorem isz49 : (Try.prog.info? 49).map (·.size) = some 2 := by kernel_rfl
theorem isz56 : (Try.prog.info? 56).map (·.size) = some 6 := by kernel_rfl
/-- A machine's values. -/
structure EV where
  me : Nat
  n : Nat
  kn : Nat → Int
  fi : Nat → Int
  need : Bool
  rep : Nat → Bool
  hd : Nat → Int
def mbox (x : EV) (cb : Nat) : Array Value := #[.int .i64 (x.me : Int), .int .i64 (x.n : Int), .int .i64 (x.kn 0), .int .i64 (x.kn 1), .int .i64 (x.kn 2), .int .i64 (x.kn 3), .int .i64 (x.kn 4), .int .i64 (x.kn 5), .int .i64 (x.kn 6), .int .i64 (x.kn 7), .int .i64 (x.kn 8), .int .i64 (x.kn 9), .int .i64 (x.kn 10), .int .i64 (x.kn 11), .int .i64 (x.kn 12), .int .i64 (x.kn 13), .int .i64 (x.kn 14), .int .i64 (x.kn 15), .int .i64 (x.fi 0), .int .i64 (x.fi 1), .int .i64 (x.fi 2), .int .i64 (x.fi 3), .int .i64 (x.fi 4), .int .i64 (x.fi 5), .int .i64 (x.fi 6), .int .i64 (x.fi 7), .int .i64 (x.fi 8), .int .i64 (x.fi 9), .int .i64 (x.fi 10), .int .i64 (x.fi 11), .int .i64 (x.fi 12), .int .i64 (x.fi 13), .int .i64 (x.fi 14), .int .i64 (x.fi 15), .bool x.need, .bool (x.rep 0), .bool (x.rep 1), .bool (x.rep 2), .bool (x.rep 3), .bool (x.rep 4), .bool (x.rep 5), .bool (x.rep 6), .bool (x.rep 7), .bool (x.rep 8), .bool (x.rep 9), .bool (x.rep 10), .bool (x.rep 11), .bool (x.rep 12), .bool (x.rep 13), .bool (x.rep 14), .bool (x.rep 15), .int .i64 (x.hd 0), .int .i64 (x.hd 1), .int .i64 (x.hd 2), .int .i64 (x.hd 3), .int .i64 (x.hd 4), .int .i64 (x.hd 5), .int .i64 (x.hd 6), .int .i64 (x.hd 7), .int .i64 (x.hd 8), .int .i64 (x.hd 9), .int .i64 (x.hd 10), .int .i64 (x.hd 11), .int .i64 (x.hd 12), .int .i64 (x.hd 13), .int .i64 (x.hd 14), .int .i64 (x.hd 15), .chan (some cb)]
theorem mbox_kn (x : EV) (cb : Nat) {r : Nat} (h : r < 16) : (mbox x cb)[2 + r]? = some (.int .i64 (x.kn r)) := by
  match r, h with
  | 0, _ | 1, _ | 2, _ | 3, _ | 4, _ | 5, _ | 6, _ | 7, _ | 8, _ | 9, _ | 10, _ | 11, _ | 12, _ | 13, _ | 14, _ | 15, _ => rfl
  | n + 16, h => exact absurd h (by omega)
theorem mbox_fi (x : EV) (cb : Nat) {r : Nat} (h : r < 16) : (mbox x cb)[18 + r]? = some (.int .i64 (x.fi r)) := by
  match r, h with
  | 0, _ | 1, _ | 2, _ | 3, _ | 4, _ | 5, _ | 6, _ | 7, _ | 8, _ | 9, _ | 10, _ | 11, _ | 12, _ | 13, _ | 14, _ | 15, _ => rfl
  | n + 16, h => exact absurd h (by omega)
theorem mbox_rep (x : EV) (cb : Nat) {r : Nat} (h : r < 16) : (mbox x cb)[35 + r]? = some (.bool (x.rep r)) := by
  match r, h with
  | 0, _ | 1, _ | 2, _ | 3, _ | 4, _ | 5, _ | 6, _ | 7, _ | 8, _ | 9, _ | 10, _ | 11, _ | 12, _ | 13, _ | 14, _ | 15, _ => rfl
  | n + 16, h => exact absurd h (by omega)
theorem mbox_hd (x : EV) (cb : Nat) {r : Nat} (h : r < 16) : (mbox x cb)[51 + r]? = some (.int .i64 (x.hd r)) := by
  match r, h with
  | 0, _ | 1, _ | 2, _ | 3, _ | 4, _ | 5, _ | 6, _ | 7, _ | 8, _ | 9, _ | 10, _ | 11, _ | 12, _ | 13, _ | 14, _ | 15, _ => rfl
  | n + 16, h => exact absurd h (by omega)
def up {α : Type} (f : Nat → α) (j : Nat) (v : α) : Nat → α := fun i => if i = j then v else f i
theorem mbox_set_kn (x : EV) (cb : Nat) {r : Nat} (h : r < 16) (v : Int) : (mbox x cb).setIfInBounds (2 + r) (.int .i64 v) = mbox { x with kn := up x.kn r v } cb := by
  match r, h with
  | 0, _ | 1, _ | 2, _ | 3, _ | 4, _ | 5, _ | 6, _ | 7, _ | 8, _ | 9, _ | 10, _ | 11, _ | 12, _ | 13, _ | 14, _ | 15, _ => rfl
  | n + 16, h => exact absurd h (by omega)
theorem mbox_set_fi (x : EV) (cb : Nat) {r : Nat} (h : r < 16) (v : Int) : (mbox x cb).setIfInBounds (18 + r) (.int .i64 v) = mbox { x with fi := up x.fi r v } cb := by
  match r, h with
  | 0, _ | 1, _ | 2, _ | 3, _ | 4, _ | 5, _ | 6, _ | 7, _ | 8, _ | 9, _ | 10, _ | 11, _ | 12, _ | 13, _ | 14, _ | 15, _ => rfl
  | n + 16, h => exact absurd h (by omega)
theorem mbox_set_rep (x : EV) (cb : Nat) {r : Nat} (h : r < 16) (v : Bool) : (mbox x cb).setIfInBounds (35 + r) (.bool v) = mbox { x with rep := up x.rep r v } cb := by
  match r, h with
  | 0, _ | 1, _ | 2, _ | 3, _ | 4, _ | 5, _ | 6, _ | 7, _ | 8, _ | 9, _ | 10, _ | 11, _ | 12, _ | 13, _ | 14, _ | 15, _ => rfl
  | n + 16, h => exact absurd h (by omega)
theorem mbox_set_hd (x : EV) (cb : Nat) {r : Nat} (h : r < 16) (v : Int) : (mbox x cb).setIfInBounds (51 + r) (.int .i64 v) = mbox { x with hd := up x.hd r v } cb := by
  match r, h with
  | 0, _ | 1, _ | 2, _ | 3, _ | 4, _ | 5, _ | 6, _ | 7, _ | 8, _ | 9, _ | 10, _ | 11, _ | 12, _ | 13, _ | 14, _ | 15, _ => rfl
  | n + 16, h => exact absurd h (by omega)
theorem setCell_chg (W : World) (b j : Nat) (v : Value) : Chg (fun k => k = b) W (W.setCell ⟨b, j, none⟩ v) := ⟨rfl, rfl, rfl, by simp [World.setCell], fun k hk hn => Below.heap_setCell _ _ _ _ hn⟩
theorem setChan_chg (w : World) (cb cap : Nat) (buf : Array Value) (cl : Bool) (s r : Nat) (t : Bool) : Chg (fun k => k = cb) w (w.setChan cb cap buf cl s r t) := by
  refine ⟨rfl, rfl, rfl, by simp [World.setChan], fun k hk hn => ?_⟩
  simp only [World.setChan, Array.getElem?_setIfInBounds]
  rw [if_neg (fun e => hn e.symm)]
/-- A machine in memory; A: the acts that the call under way has asked for. -/
structure MM (L mb cb : Nat) (x : EV) (A : List Ac) (w : World) : Prop where
  b : Blk w mb (mbox x cb) 86
  c : ∃ s r, w.heap[cb]? = some (.chan 3 (A.map acV).toArray false s r false)
  lo : L ≤ mb ∧ L ≤ cb
def mown (mb cb : Nat) (k : Nat) : Prop := k = mb ∨ k = cb
section
variable {L mb cb : Nat} {x : EV} {A : List Ac} {w w' : World}
theorem MM.clt (h : MM L mb cb x A w) : cb < w.heap.size := by
  obtain ⟨s, r, h1⟩ := h.c
  exact (Array.getElem?_eq_some_iff.1 h1).1
theorem MM.lt (h : MM L mb cb x A w) {k : Nat} (hk : mown mb cb k) : L ≤ k ∧ k < w.heap.size := by
  rcases hk with rfl | rfl
  · exact ⟨h.lo.1, h.b.lt⟩
  · exact ⟨h.lo.2, h.clt⟩
theorem MM.keep (h : MM L mb cb x A w) {S : Nat → Prop} (hc : Chg S w w') (hS : ∀ k, mown mb cb k → ¬ S k) : MM L mb cb x A w' := by
  have hs : ∀ k, mown mb cb k → w'.heap[k]? = w.heap[k]? := fun k hk => hc.block k (h.lt hk).2 (hS k hk)
  obtain ⟨s, r, h1⟩ := h.c
  exact ⟨(hs mb (.inl rfl)).trans h.b, ⟨s, r, (hs cb (.inr rfl)).trans h1⟩, h.lo⟩
theorem MM.more (h : MM L mb cb x A w) (hb : Below w.heap.size w w') : MM L mb cb x A w' := h.keep (Chg.ofBelow (fun _ => False) hb) (fun _ _ e => e)
theorem MM.ne (h : MM L mb cb x A w) : cb ≠ mb := fun e => by
  obtain ⟨s, r, h1⟩ := h.c
  subst e
  have := h1.symm.trans h.b
  cases this
theorem MM.box (h : MM L mb cb x A w) {x' : EV} (hc : Chg (fun k => k = mb) w w') (hb : Blk w' mb (mbox x' cb) 86) : MM L mb cb x' A w' := by
  obtain ⟨s, r, h1⟩ := h.c
  exact ⟨hb, ⟨s, r, (hc.block cb h.clt h.ne).trans h1⟩, h.lo⟩
theorem MM.setKn (h : MM L mb cb x A w) {r : Nat} (hr : r < 16) (v : Int) : MM L mb cb { x with kn := up x.kn r v } A (w.setCell ⟨mb, 2 + r, none⟩ (.int .i64 v)) :=
  h.box (setCell_chg _ _ _ _) (by rw [← mbox_set_kn x cb hr v]; exact h.b.set _ _)
theorem MM.setFi (h : MM L mb cb x A w) {r : Nat} (hr : r < 16) (v : Int) : MM L mb cb { x with fi := up x.fi r v } A (w.setCell ⟨mb, 18 + r, none⟩ (.int .i64 v)) :=
  h.box (setCell_chg _ _ _ _) (by rw [← mbox_set_fi x cb hr v]; exact h.b.set _ _)
theorem MM.setRep (h : MM L mb cb x A w) {r : Nat} (hr : r < 16) (v : Bool) : MM L mb cb { x with rep := up x.rep r v } A (w.setCell ⟨mb, 35 + r, none⟩ (.bool v)) :=
  h.box (setCell_chg _ _ _ _) (by rw [← mbox_set_rep x cb hr v]; exact h.b.set _ _)
theorem MM.setHd (h : MM L mb cb x A w) {r : Nat} (hr : r < 16) (v : Int) : MM L mb cb { x with hd := up x.hd r v } A (w.setCell ⟨mb, 51 + r, none⟩ (.int .i64 v)) :=
  h.box (setCell_chg _ _ _ _) (by rw [← mbox_set_hd x cb hr v]; exact h.b.set _ _)
theorem MM.ckn (h : MM L mb cb x A w) {r : Nat} (hr : r < 16) : w.cell? ⟨mb, 2 + r, none⟩ = some (.int .i64 (x.kn r)) := (h.b.cell _).trans (mbox_kn x cb hr)
theorem MM.cfi (h : MM L mb cb x A w) {r : Nat} (hr : r < 16) : w.cell? ⟨mb, 18 + r, none⟩ = some (.int .i64 (x.fi r)) := (h.b.cell _).trans (mbox_fi x cb hr)
theorem MM.crep (h : MM L mb cb x A w) {r : Nat} (hr : r < 16) : w.cell? ⟨mb, 35 + r, none⟩ = some (.bool (x.rep r)) := (h.b.cell _).trans (mbox_rep x cb hr)
theorem MM.chd (h : MM L mb cb x A w) {r : Nat} (hr : r < 16) : w.cell? ⟨mb, 51 + r, none⟩ = some (.int .i64 (x.hd r)) := (h.b.cell _).trans (mbox_hd x cb hr)
theorem MM.c0 (h : MM L mb cb x A w) : w.cell? ⟨mb, 0, none⟩ = some (.int .i64 (x.me : Int)) := h.b.cell 0
theorem MM.c1 (h : MM L mb cb x A w) : w.cell? ⟨mb, 1, none⟩ = some (.int .i64 (x.n : Int)) := h.b.cell 1
theorem MM.c34 (h : MM L mb cb x A w) : w.cell? ⟨mb, 34, none⟩ = some (.bool x.need) := h.b.cell 34
theorem MM.c67 (h : MM L mb cb x A w) : w.cell? ⟨mb, 67, none⟩ = some (.chan (some cb)) := h.b.cell 67
end
def liveE (x : EV) (j : Nat) : Ep := if x.kn j = x.fi j then e0 else ⟨x.kn j, j⟩
end Go.Proofs.Ytjojhhkbebddmaa
