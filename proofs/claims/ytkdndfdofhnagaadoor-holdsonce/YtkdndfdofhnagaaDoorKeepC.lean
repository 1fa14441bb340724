import Derived.Test.YtkdndfdofhnagaaDoorKeepA
namespace Go.Proofs.YtkdndfdofhnagaaDoor
open Go.RowKit Go.PlainAid
set_option linter.unusedVariables false
set_option linter.unusedSimpArgs false
theorem own_set {w : World} {L e n g cap k : Nat} {xs : List Value} (h : w.ownsRow L e 1 (.slice (some ⟨g, 0, none⟩) n cap) n xs) (hk : k < n) (u : Value) : (w.setCell ⟨g, k, none⟩ u).ownsRow L e 1 (.slice (some ⟨g, 0, none⟩) n cap) n (xs.set k u) ∧ w.frozen? ⟨g, k, none⟩ = false ∧ ∃ u0, w.cell? ⟨g, k, none⟩ = some u0 := by
  rcases h.2 with ⟨h1, _⟩ | ⟨g2, c, cur, h1, h2, h3, h4, h5, h6, h7⟩
  · cases h1
  · cases h1
    have hB : Blk w g cur e := h3
    refine ⟨⟨by simpa using h.1, Or.inr ⟨g, cap, cur.setIfInBounds k u, rfl, h2, hB.set k u, h4, h5, by simpa using h6, ?_⟩⟩, hB.frozen k, ?_⟩
    · rw [← h7, Array.toList_setIfInBounds, List.take_set]
    · exact ⟨cur[k]'(by omega), by rw [hB.cell k]; exact Array.getElem?_eq_getElem _⟩
section
variable {L : Nat} {a : PA} {p : PS} {z z' : ZS} {m : Int} {w0 w w' : World} {A : Nat → Prop}
/-- A cell of the answer under way is written. -/
theorem KSt.write {x : Dat} {g cap k : Nat} (h : KSt L a p z m w0 w) (hf : z.fl = [x]) (hd : x.d = .slice (some ⟨g, 0, none⟩) x.zs.length cap) (hk : k < x.zs.length) (y : Int) : KSt L a p (setFl z [⟨x.d, x.zs.set k y⟩]) m w0 (w.setCell ⟨g, k, none⟩ (I y)) ∧ w.frozen? ⟨g, k, none⟩ = false ∧ ∃ u0, w.cell? ⟨g, k, none⟩ = some u0 := by
  have ho := h.sh.dat x (by simp [ZS.dats, hf])
  rw [hd] at ho
  obtain ⟨h1, h2, h3⟩ := own_set ho hk (I y)
  have hs := Stq.set g k (I y) w
  have hc : Chg (fun j => x.d.ownBlock = some j) w (w.setCell ⟨g, k, none⟩ (I y)) := (Chg.ofStq hs).mono (fun j _ e => by rw [hd, e]; rfl)
  obtain ⟨h4, h5⟩ := h.sh.refloat (x' := ⟨x.d, x.zs.set k y⟩) hf rfl (by
    show (w.setCell ⟨g, k, none⟩ (I y)).ownsRow L 3 1 x.d (x.zs.set k y).length ((x.zs.set k y).map I)
    rw [hd, List.length_set, List.map_set]
    exact h1) hc
  exact ⟨h.step hc (fun j e => Or.inl ⟨x.d, by simp [ZS.vals, ZS.dats, hf], e⟩) h4 h5 ⟨rfl, rfl, rfl, rfl⟩, h2, h3⟩
/-- What grows out of the answer under way. -/
structure KMore (L : Nat) (z : ZS) (x : Dat) (w0 w : World) (mv : Value) (n : Nat) : Prop where
  own : ∃ ys : List Int, w.ownsRow L 3 1 mv n (ys.map I)
  loc : ∀ k, mv.ownBlock = some k → x.d.ownBlock = some k ∨ (¬ z.has k ∧ w0.heap.size ≤ k)
theorem KSt.grow {x : Dat} {n : Nat} {mv mv' : Value} {y : Int} (h : KSt L a p z m w0 w) (hf : z.fl = [x]) (hM : KMore L z x w0 w mv n) (hn : x.zs.length ≤ n) {ys : List Int} (ho : w'.ownsRow L 3 1 mv' (n + 1) ((ys ++ [y]).map I)) (hg : Grew w w' mv mv') (hin : ∀ (d : Value) (n' base' : Nat) (zs : List Value), n' ≤ n → d.ownBlock = mv.ownBlock → w.ownsRow base' 3 1 d n' zs → w'.ownsRow base' 3 1 d n' zs) :
    KSt L a p z m w0 w' ∧ KMore L z x w0 w' mv' (n + 1) := by
  have hx := h.sh.dat x (by simp [ZS.dats, hf])
  have hlt : ∀ k, mv.ownBlock = some k → k < w.heap.size := fun k e => by obtain ⟨ys0, h0⟩ := hM.own; exact (ownsRow_lt h0 e).2
  have hxh : ∀ k, x.d.ownBlock = some k → z.has k := fun k e => ⟨x.d, by simp [ZS.vals, ZS.dats, hf], e⟩
  have hsame : setFl z [x] = z := by cases z; simp only [setFl] at hf ⊢; subst hf; rfl
  have key : Shelf L z w' ∧ (∀ k, mv.ownBlock = some k → z.has k ∨ w.heap.size ≤ k ∨ ¬ z.has k) := by
    refine ⟨?_, fun k _ => by by_cases e : z.has k; exact Or.inl e; exact Or.inr (Or.inr e)⟩
    cases hb : mv.ownBlock with
    | none => exact h.sh.chg hg.chg (fun k _ e => by rw [hb] at e; cases e)
    | some j =>
      rcases hM.loc j hb with h1 | h1
      · have := h.sh.refloat (x' := x) hf rfl (hin x.d x.zs.length L _ hn (h1.trans hb.symm) hx) (hg.chg.mono (fun k _ e => by rw [hb] at e; exact h1.trans e))
        rw [hsame] at this
        exact this.1
      · exact h.sh.chg hg.chg (fun k hk e => by rw [hb] at e; cases e; exact h1.1 hk)
  have hpb : mv.ownBlock ≠ some a.pb := fun e => by
    obtain ⟨ys0, h0⟩ := hM.own
    obtain ⟨cur, h1⟩ := ownsRow_type h0 e
    exact Blk.ne_t h1 h.box (by decide) rfl
  refine ⟨?_, ⟨⟨_, ho⟩, fun k e => ?_⟩⟩
  · refine ⟨key.1, hg.chg.blk h.box hpb, h.chg.trans hg.chg (fun k hk e => ?_), h.new, h.low⟩
    rcases hM.loc k e with h1 | h1
    · rcases h.new k (hxh k h1) with h2 | h2
      · exact Or.inr h2
      · omega
    · omega
  · rcases hg.at' k e with h1 | h1
    · exact hM.loc k h1
    · exact Or.inr ⟨fun e2 => by have := (h.sh.typ e2).2.1; omega, Nat.le_trans h.size h1⟩
end
end Go.Proofs.YtkdndfdofhnagaaDoor
