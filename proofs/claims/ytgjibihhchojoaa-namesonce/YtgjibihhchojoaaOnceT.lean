import Derived.Test.YtgjibihhchojoaaArgs
import Derived.Test.YtgjibihhchojoaaBd2
import Derived.Test.YtgjibihhchojoaaTld
import Derived.Test.YtgjibihhchojoaaAsk
namespace Go.Proofs.Ytgjibihhchojoaa
open Go.RowKit Go.PlainAid Go.MapKept
set_option linter.unusedVariables false
set_option linter.unusedSimpArgs false
theorem row8 (x : LO) : x.row.length = 8 := rfl
def flatL (l : List LO) : List Value := l.flatMap LO.row
def wtOf (l : List LO) : List ((Int × Int) × OpA) := l.map fun x => (x.c, x.o)
def lastAt (c : Int × Int) (WL : List LO) : Nat → Int
  | 0 => -1
  | j + 1 => if (WL[j]?.map (·.c)) = some c then (j : Int) else lastAt c WL j
theorem lastAt_no {c : Int × Int} {WL : List LO} : ∀ {j : Nat}, lastAt c WL j < 0 → lastAt c WL j = -1 ∧ ∀ i x, i < j → WL[i]? = some x → x.c ≠ c
  | 0, _ => ⟨rfl, fun i x h => by omega⟩
  | j + 1, h => by
    unfold lastAt at h ⊢
    by_cases e : (WL[j]?.map (·.c)) = some c
    · rw [if_pos e] at h; omega
    · rw [if_neg e] at h ⊢
      obtain ⟨h1, h2⟩ := lastAt_no h
      refine ⟨h1, fun i x hi hx => ?_⟩
      by_cases hij : i = j
      · subst hij
        intro hc
        rw [hx] at e
        exact e (by simp [hc])
      · exact h2 i x (by omega) hx
theorem lastAt_yes {c : Int × Int} {WL : List LO} : ∀ {j : Nat}, 0 ≤ lastAt c WL j → ∃ (i : Nat) (x : LO), lastAt c WL j = (i : Int) ∧ WL[i]? = some x ∧ x.c = c
  | 0, h => by simp [lastAt] at h
  | j + 1, h => by
    unfold lastAt at h ⊢
    by_cases e : (WL[j]?.map (·.c)) = some c
    · rw [if_pos e]
      cases hx : WL[j]? with
      | none => rw [hx] at e; simp at e
      | some x => rw [hx] at e; exact ⟨j, x, rfl, hx, by simpa using e⟩
    · rw [if_neg e] at h ⊢
      exact lastAt_yes h
theorem lastAt_bd (c : Int × Int) (WL : List LO) : ∀ j : Nat, -1 ≤ lastAt c WL j ∧ lastAt c WL j < j
  | 0 => by simp [lastAt]
  | j + 1 => by
    unfold lastAt
    have := lastAt_bd c WL j
    split <;> omega
theorem wt_none {c : Int × Int} {WL : List LO} (h : ∀ x ∈ WL, x.c ≠ c) : look c (wtOf WL) = none ∧ rmK c (wtOf WL) = wtOf WL := by
  have h1 : ∀ p ∈ wtOf WL, ¬ decide (c = p.1) = true := fun p hp => by
    obtain ⟨x, hx, rfl⟩ := List.mem_map.1 hp
    simpa using fun e => h x hx e.symm
  refine ⟨?_, ?_⟩
  · unfold look
    rw [List.find?_eq_none.2 h1]
    rfl
  · exact List.eraseP_of_forall_not h1
theorem wt_some {c : Int × Int} : ∀ {WL : List LO} {i : Nat} {x : LO}, (WL.map (·.c)).Nodup → WL[i]? = some x → x.c = c → look c (wtOf WL) = some x.o ∧ rmK c (wtOf WL) = wtOf (WL.eraseIdx i)
  | [], i, x, _, h, _ => by simp at h
  | y :: t, 0, x, hn, h, hc => by
    simp at h
    subst h
    subst hc
    simp [look, wtOf, rmK]
  | y :: t, i + 1, x, hn, h, hc => by
    have h2 : t[i]? = some x := by simpa using h
    rw [List.map_cons, List.nodup_cons] at hn
    have hne : ¬ c = y.c := fun e => hn.1 (List.mem_map.2 ⟨x, List.mem_of_getElem? h2, by rw [hc, e]⟩)
    obtain ⟨a, b⟩ := wt_some hn.2 h2 hc
    refine ⟨?_, ?_⟩
    · unfold look wtOf at a ⊢
      rw [List.map_cons, List.find?_cons_of_neg (by simpa using hne)]
      exact a
    · unfold rmK wtOf at b ⊢
      rw [List.map_cons, List.eraseP_cons_of_neg (by simpa using hne), b]
      rfl
theorem erase_split {α : Type} (l : List α) (i : Nat) : l.eraseIdx i = l.take i ++ l.drop (i + 1) := List.eraseIdx_eq_take_drop_succ l i
theorem nodup_erase {WL : List LO} (i : Nat) (h : (WL.map (·.c)).Nodup) : ((WL.eraseIdx i).map (·.c)).Nodup := (List.eraseIdx_sublist WL i).map _ |>.nodup h
theorem nodup_push {WL : List LO} {x : LO} (h : (WL.map (·.c)).Nodup) (hn : ∀ y ∈ WL, y.c ≠ x.c) : ((WL ++ [x]).map (·.c)).Nodup := by
  rw [List.map_append, List.nodup_append]
  refine ⟨h, by simp, fun a ha b hb => ?_⟩
  simp at hb
  subst hb
  obtain ⟨y, hy, rfl⟩ := List.mem_map.1 ha
  exact hn y hy
theorem info41 : (Try.prog.info? 41).map (fun i => (i.zero, i.size, i.bytes)) = some (some (.agg #[.int .i64 0, .string ⟨#[]⟩, .int .i64 0, .int .i64 0, .int .i64 0, .string ⟨#[]⟩, .int .i64 0, .int .i64 0]), 8, 80) := by kernel_rfl
theorem isz41 : (Try.prog.info? 41).map (·.size) = some 8 := by kernel_rfl
theorem isz37 : (Try.prog.info? 37).map (·.size) = some 2 := by kernel_rfl
theorem flatL_one (l : List LO) : ∀ u ∈ flatL l, u.oneCell' = true := by
  intro u hu
  obtain ⟨x, _, hx⟩ := List.mem_flatMap.1 hu
  simp only [LO.row, List.mem_cons, List.not_mem_nil, or_false] at hx
  rcases hx with rfl | rfl | rfl | rfl | rfl | rfl | rfl | rfl <;> rfl
/-- The law's state. -/
structure OS (hb mh mw base : Nat) (v : Value) (WL : List LO) (w0 wr : World) : Prop where
  t : Tb hb mh mw 0 2 4 [] (wtOf WL) wr
  r : wr.ownsRow base 41 8 v WL.length (flatL WL)
  nd : (WL.map (·.c)).Nodup
  b : Below w0.heap.size w0 wr
  lo : w0.heap.size ≤ base
  lw : w0.heap.size ≤ mw
  bs : base ≤ wr.heap.size
theorem OS.more {hb mh mw base : Nat} {v : Value} {WL : List LO} {w0 wr w' : World} (h : OS hb mh mw base v WL w0 wr) (hb2 : Below wr.heap.size wr w') : OS hb mh mw base v WL w0 w' :=
  ⟨h.t.more hb2, ownsRow_same h.r (fun g e => hb2.block g (ownsRow_lt h.r e).2), h.nd, h.b.trans (hb2.mono h.b.size), h.lo, h.lw, Nat.le_trans h.bs hb2.size⟩
/-- The table has changed its waiting ones. -/
theorem OS.setW {hb mh mw base : Nat} {v : Value} {WL : List LO} {w0 wr w' : World} {WT : List ((Int × Int) × OpA)} (h : OS hb mh mw base v WL w0 wr) (hT : Tb hb mh mw 0 2 4 [] WT w') (hc : Chg (fun k => k = mw) wr w') :
    w'.ownsRow base 41 8 v WL.length (flatL WL) ∧ Below w0.heap.size w0 w' := by
  refine ⟨ownsRow_same h.r (fun g e => ?_), h.b.trans (hc.below h.b.size (fun k e => by rw [e]; exact h.lw))⟩
  obtain ⟨cu, hcu⟩ := ownsRow_type h.r e
  exact hc.block g (ownsRow_lt h.r e).2 (h.t.wm.ne_b (show Blk wr g cu 41 from hcu))
/-- A cell of a waiting one. -/
theorem OS.cell {hb mh mw base g cap : Nat} {WL : List LO} {w0 wr : World} (h : OS hb mh mw base (.slice (some ⟨g, 0, none⟩) WL.length cap) WL w0 wr) {i : Nat} {x : LO} (hx : WL[i]? = some x) {j : Nat} {u : Value} (hj : x.row[j]? = some u) : wr.cell? ⟨g, i * 8 + j, none⟩ = some u := by
  have hi := (List.getElem?_eq_some_iff.1 hx).1
  have hj8 : j < 8 := by have := (List.getElem?_eq_some_iff.1 hj).1; rw [row8] at this; exact this
  have := h.r.cells (g := g) rfl (i * 8 + j) u (by unfold flatL; rw [flat_at LO.row 8 row8 WL i j x hx hj8]; exact hj)
  rwa [addr_add, Nat.zero_add] at this
def OSE (hb mh mw base : Nat) (w0 : World) (k : Nat) (v : Value) (wr : World) : Prop := ∃ WL, WL.length ≤ k ∧ OS hb mh mw base v WL w0 wr
end Go.Proofs.Ytgjibihhchojoaa
