import Derived.Test.YtcjgicfmfjomgaaBe
namespace Go.Proofs.Ytcjgicfmfjomgaa
open Go.RowKit Go.PlainAid Go.MapKept
set_option linter.unusedVariables false
set_option linter.unusedSimpArgs false
theorem lent_row {w : World} {L : Nat} {v : Value} {s : List UInt8} (h : w.ownsRow L 5 1 v (s.length + 3) ((s ++ [167, 182, 197]).map B)) : ∃ c g, v = .slice (some ⟨g, 0, none⟩) (s.length + 3) c ∧ s.length + 3 ≤ c ∧ c ≤ maxLen ∧ L ≤ g ∧ g < w.heap.size ∧ w.ownsRow L 5 1 (.slice (some ⟨g, 0, none⟩) s.length c) s.length (s.map B) := by
  rcases h.2 with ⟨_, e⟩ | ⟨g, c, cur, rfl, hb, hg, hc, hm, hcs, htk⟩
  · omega
  · refine ⟨c, g, rfl, hc, hm, hb, (Array.getElem?_eq_some_iff.1 hg).1, by simp, Or.inr ⟨g, c, cur, rfl, hb, hg, by omega, hm, hcs, ?_⟩⟩
    have : cur.toList.take (s.length * 1) = (cur.toList.take ((s.length + 3) * 1)).take (s.length * 1) := by rw [List.take_take, Nat.min_eq_left (by omega)]
    rw [this, htk]
    simp
theorem Ln.outO_outO (S : Ln) (i o o' : Nat) : (S.outO i o).outO i o' = S.outO i o' := by
  unfold Ln.outO Ln.setE
  simp only [if_pos]
  congr 1
  funext k
  split <;> rfl
theorem Ln.outO_self (S : Ln) (i : Nat) : S.outO i (S.e i).out = S := by
  unfold Ln.outO Ln.setE
  cases S
  simp only
  congr 1
  funext k
  split
  · rename_i h
    rw [h]
  · rfl
/-- A segment is taken: what was handed up is counted, one by one. -/
structure CM (L M xb : Nat) (S : Ln) (col : Nat → Nat) (i o m : Nat) (v : Value) (ds : List Dv) (A : Nat → Prop) (w0 wr : World) : Prop where
  ln : LNM L xb (S.outO i (o + m)) col wr
  r : wr.ownsRow M 41 1 v ds.length (ds.map Dv.v)
  dt : ∀ d ∈ ds, wr.ownsRow L 5 1 d.v d.s.length (d.s.map B)
  ch : Chg A w0 wr
section
variable {L M xb : Nat} {S : Ln} {col : Nat → Nat} {i o m : Nat} {v : Value} {ds : List Dv} {A : Nat → Prop} {w0 wr wr' : World}
theorem CM.more (h : CM L M xb S col i o m v ds A w0 wr) (hb : Below wr.heap.size wr wr') : CM L M xb S col i o m v ds A w0 wr' :=
  ⟨h.ln.more hb, ownsRow_same h.r (fun g e => hb.block g (ownsRow_lt h.r e).2), fun d hd => ownsRow_same (h.dt d hd) (fun g e => hb.block g (ownsRow_lt (h.dt d hd) e).2), h.ch.trans (Chg.ofBelow (fun _ => False) hb) (fun _ _ e => e.elim)⟩
theorem CM.step (h : CM L M xb S col i o m v ds A w0 wr) (hi : i < 2) (hA : A xb) : CM L M xb S col i o (m + 1) v ds A w0 (wr.setCell ⟨xb, 4 + i, none⟩ (.int .i64 ((o + (m + 1) : Nat) : Int))) := by
  have hc := setCell_chg wr xb (4 + i) (.int .i64 ((o + (m + 1) : Nat) : Int))
  refine ⟨?_, ownsRow_same h.r (fun g e => hc.block g (ownsRow_lt h.r e).2 (fun q => ?_)), fun d hd => ownsRow_same (h.dt d hd) (fun g e => hc.block g (ownsRow_lt (h.dt d hd) e).2 (fun q => ?_)), h.ch.trans hc (fun k _ e => by rw [e]; exact hA)⟩
  · have := h.ln.setOut hi (o + (m + 1))
    rw [Ln.outO_outO] at this
    exact this
  · obtain ⟨cur, hcur⟩ := ownsRow_type h.r e
    exact Blk.ne_t hcur h.ln.b (by decide) q
  · obtain ⟨cur, hcur⟩ := ownsRow_type (h.dt d hd) e
    exact Blk.ne_t hcur h.ln.b (by decide) q
end
end Go.Proofs.Ytcjgicfmfjomgaa
