import Derived.Test.YtcjgicfmfjomgaaAw
import Derived.Test.YtcjgicfmfjomgaaFi
namespace Go.Proofs.Ytcjgicfmfjomgaa
open Go.RowKit Go.PlainAid Go.MapKept
set_option linter.unusedVariables false
set_option linter.unusedSimpArgs false
section
variable {ops : Array Oper} {C : World → Prop} {eff : Nat → Bool} {z : Nat} {Q : Act → World → Prop} {rest : List Oper} {k : Nat} {a : Act} {w w1 : World} {o : Oper}
theorem lsv (he : eff k = true) (hC : C w) (hd : o.dst = none) (hw : Region.wanted o (yielded ops a.tmps) = true) {v : Value} (hr : (execOp a.eval o).run Try.prog w = .ok (.value v) w1)
    (h : wpLex Try.prog ops C eff z Q rest (k + 1) a w1) : wpLex Try.prog ops C eff z Q (o :: rest) k a w := by
  refine ⟨hC, ?_⟩
  rw [if_pos he]
  exact Or.inl ⟨hw, Or.inl ⟨v, w1, Or.inl hr, by rw [hd]; exact h⟩⟩
end

def rmD (n : Int) (E : List (Int × Dv)) : List (Int × Dv) := E.eraseP fun p => decide (n = p.1)
def atD (n : Int) (E : List (Int × Dv)) : Option Dv := (E.find? fun p => decide (n = p.1)).map Prod.snd
/-- What is in turn, what is awaited then, what still waits. -/
def handed : Nat → Int → List (Int × Dv) → List Dv × Int × List (Int × Dv)
  | 0, n, E => ([], n, E)
  | f + 1, n, E => match atD n E with
    | some d => (d :: (handed f (n + 1) (rmD n E)).1, (handed f (n + 1) (rmD n E)).2)
    | none => ([], n, E)
theorem rm_map (n : Int) : ∀ E : List (Int × Dv), rmK n (E.map fun p => (p.1, p.2.v)) = (rmD n E).map fun p => (p.1, p.2.v)
  | [] => rfl
  | p :: t => by
    have ih := rm_map n t
    unfold rmK rmD at ih ⊢
    by_cases e : n = p.1
    · simp [e]
    · simp only [List.map_cons, List.eraseP_cons, decide_eq_false e, cond_false]
      rw [ih]
theorem look_map (n : Int) : ∀ E : List (Int × Dv), look n (E.map fun p => (p.1, p.2.v)) = (atD n E).map Dv.v
  | [] => rfl
  | p :: t => by
    have ih := look_map n t
    unfold look atD at ih ⊢
    by_cases e : n = p.1
    · simp [e]
    · simp only [List.map_cons, List.find?_cons, decide_eq_false e]
      exact ih
theorem rm_perm {n : Int} {d : Dv} : ∀ {E : List (Int × Dv)}, atD n E = some d → (E.map Prod.snd).Perm (d :: (rmD n E).map Prod.snd) ∧ E.length = (rmD n E).length + 1
  | [], h => by cases h
  | p :: t, h => by
    unfold atD rmD at *
    by_cases e : n = p.1
    · simp [e] at h ⊢
      rw [h]
    · simp only [List.find?_cons, decide_eq_false e] at h
      have ih := rm_perm (E := t) h
      unfold rmD at ih
      simp only [List.eraseP_cons, decide_eq_false e, cond_false, List.map_cons, List.length_cons]
      refine ⟨((List.Perm.cons p.2 ih.1).trans (List.Perm.swap _ _ _)), by omega⟩
theorem handed_none {n : Int} {E : List (Int × Dv)} (h : atD n E = none) : ∀ f, handed f n E = ([], n, E)
  | 0 => rfl
  | f + 1 => by simp [handed, h]
def LV.at_ (x : LV) (n : Int) (E : List (Int × Dv)) : LV := { x with next := n, early := E }
/-- What is handed up, under way. -/
structure HU (L lb cb mb : Nat) (uv : Value) (x : LV) (w : World) (vd : Value) (ds : List Dv) (n : Int) (E : List (Int × Dv)) (wr : World) : Prop where
  lm : LM L lb cb mb uv (x.at_ n E) wr
  hd : handed x.early.length x.next x.early = (ds ++ (handed E.length n E).1, (handed E.length n E).2)
  r : wr.ownsRow w.heap.size 41 1 vd ds.length (ds.map Dv.v)
  dt : ∀ d ∈ ds, wr.ownsRow L 5 1 d.v d.s.length (d.s.map B)
  pm : (ds ++ (x.at_ n E).all).Perm x.all
  pw : (ds ++ (x.at_ n E).all).Pairwise fun d e => ∀ g, d.v.ownBlock = some g → e.v.ownBlock ≠ some g
  ch : Chg (lown lb cb mb uv x) w wr
  nn : n = x.next + (ds.length : Int)
  lt0 : ∀ k, lown lb cb mb uv x k → k < w.heap.size
theorem HU.more {L lb cb mb : Nat} {uv : Value} {x : LV} {w : World} {vd : Value} {ds : List Dv} {n : Int} {E : List (Int × Dv)} {wr w' : World} (h : HU L lb cb mb uv x w vd ds n E wr) (hb : Below wr.heap.size wr w') : HU L lb cb mb uv x w vd ds n E w' :=
  ⟨h.lm.more hb, h.hd, ownsRow_same h.r (fun g e => hb.block g (ownsRow_lt h.r e).2), fun d hd => ownsRow_same (h.dt d hd) (fun g e => hb.block g (ownsRow_lt (h.dt d hd) e).2), h.pm, h.pw, h.ch.trans (Chg.ofBelow (fun _ => False) hb) (fun _ _ e => e.elim), h.nn, h.lt0⟩
end Go.Proofs.Ytcjgicfmfjomgaa
