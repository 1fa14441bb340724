import Derived.Test.YtcjgicfmfjomgaaSam
namespace Go.Proofs.Ytcjgicfmfjomgaa
open Go.RowKit Go.PlainAid Go.MapKept
set_option linter.unusedVariables false
set_option linter.unusedSimpArgs false
/-- An end whose link's own blocks change. -/
theorem EN.step {L lb cb mb eb : Nat} {uv uv1 : Value} {x x1 : LV} {w w1 : World} (h : EN L lb cb mb eb uv x w) (hm : LM L lb cb mb uv1 x1 w1) (hs : LStp lb cb mb uv uv1 x x1 w w1) : EN L lb cb mb eb uv1 x1 w1 := by
  have hlt := h.lt
  obtain ⟨C, h1, h2⟩ := h.bk
  refine ⟨hm, ⟨C, hs.1.blk h1 (fun e => h.ne eb e rfl), h2⟩, h.lo, fun k hk => ?_⟩
  rcases hs.2 k hk with e | e
  · exact h.ne k e
  · omega
/-- An end that does not change. -/
theorem EN.keep {L lb cb mb eb : Nat} {uv : Value} {x : LV} {w w1 : World} (h : EN L lb cb mb eb uv x w) {S : Nat → Prop} (hc : Chg S w w1) (hS : ∀ k, lown lb cb mb uv x k ∨ k = eb → ¬ S k) : EN L lb cb mb eb uv x w1 := by
  obtain ⟨C, h1, h2⟩ := h.bk
  exact ⟨h.lm.keep hc (fun k hk => hS k (.inl hk)), ⟨C, hc.blk h1 (hS eb (.inr rfl)), h2⟩, h.lo, h.ne⟩
theorem LM.low {L L' lb cb mb : Nat} {uv : Value} {x : LV} {w : World} (h : LM L lb cb mb uv x w) (hl : L' ≤ L) : LM L' lb cb mb uv x w :=
  ⟨h.b, h.c, ownsRow_mono h.u hl, h.m, fun d hd => ownsRow_mono (h.dt d hd) hl, h.dj, Nat.le_trans hl h.lo.1, Nat.le_trans hl h.lo.2.1, Nat.le_trans hl h.lo.2.2⟩
theorem EN.low {L L' lb cb mb eb : Nat} {uv : Value} {x : LV} {w : World} (h : EN L lb cb mb eb uv x w) (hl : L' ≤ L) : EN L' lb cb mb eb uv x w := ⟨h.lm.low hl, h.bk, Nat.le_trans hl h.lo, h.ne⟩
/-- Where an end lies. -/
def eown (lb cb mb eb : Nat) (uv : Value) (x : LV) (k : Nat) : Prop := lown lb cb mb uv x k ∨ k = eb
theorem EN.elt {L lb cb mb eb : Nat} {uv : Value} {x : LV} {w : World} (h : EN L lb cb mb eb uv x w) {k : Nat} (hk : eown lb cb mb eb uv x k) : L ≤ k ∧ k < w.heap.size := by
  rcases hk with e | rfl
  · exact h.lm.lt e
  · exact ⟨h.lo, h.lt⟩
/-- Two ends. -/
structure TW (L lb cb mb eb : Nat) (uv : Value) (x : LV) (lb' cb' mb' eb' : Nat) (uv' : Value) (x' : LV) (w0 w : World) : Prop where
  a : EN L lb cb mb eb uv x w
  b : EN L lb' cb' mb' eb' uv' x' w
  dj : ∀ k, eown lb cb mb eb uv x k → ¬ eown lb' cb' mb' eb' uv' x' k
  bl : Below L w0 w
section
variable {L lb cb mb eb : Nat} {uv uv1 : Value} {x x1 : LV} {lb' cb' mb' eb' : Nat} {uv' uv1' : Value} {x' x1' : LV} {w0 w w1 : World}
theorem TW.more (h : TW L lb cb mb eb uv x lb' cb' mb' eb' uv' x' w0 w) (hb : Below w.heap.size w w1) (hl : w0.heap.size ≤ w.heap.size) (hL : L ≤ w.heap.size) : TW L lb cb mb eb uv x lb' cb' mb' eb' uv' x' w0 w1 :=
  ⟨h.a.more hb, h.b.more hb, h.dj, h.bl.trans (hb.mono hL)⟩
theorem TW.fst (h : TW L lb cb mb eb uv x lb' cb' mb' eb' uv' x' w0 w) (hm : LM L lb cb mb uv1 x1 w1) (hs : LStp lb cb mb uv uv1 x x1 w w1) : TW L lb cb mb eb uv1 x1 lb' cb' mb' eb' uv' x' w0 w1 := by
  refine ⟨h.a.step hm hs, h.b.keep hs.1 (fun k hk hk' => h.dj k (.inl hk') hk), fun k hk hk' => ?_, ?_⟩
  · rcases hk with e | e
    · rcases hs.2 k e with e | e
      · exact h.dj k (.inl e) hk'
      · have := (h.b.elt hk').2
        omega
    · exact h.dj k (.inr e) hk'
  · exact h.bl.trans (hs.1.below (Nat.le_of_lt (Nat.lt_of_le_of_lt h.a.lo h.a.lt)) (fun k hk => (h.a.lm.lt hk).1))
theorem TW.swap (h : TW L lb cb mb eb uv x lb' cb' mb' eb' uv' x' w0 w) : TW L lb' cb' mb' eb' uv' x' lb cb mb eb uv x w0 w :=
  ⟨h.b, h.a, fun k hk hk' => h.dj k hk' hk, h.bl⟩
theorem TW.snd (h : TW L lb cb mb eb uv x lb' cb' mb' eb' uv' x' w0 w) (hm : LM L lb' cb' mb' uv1' x1' w1) (hs : LStp lb' cb' mb' uv' uv1' x' x1' w w1) : TW L lb cb mb eb uv x lb' cb' mb' eb' uv1' x1' w0 w1 :=
  (h.swap.fst hm hs).swap
end
end Go.Proofs.Ytcjgicfmfjomgaa
