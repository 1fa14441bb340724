import Derived.Test.YtadfmnlkfcigoaaAgL
namespace Go.Proofs.Ytadfmnlkfcigoaa
open Go.RowKit Go.PlainAid
set_option linter.unusedVariables false
set_option linter.unusedSimpArgs false
theorem flatC_at (cs : List (Int × Int)) (i : Nat) {c : Int × Int} (h : cs[i]? = some c) : (flatC cs)[i * 2]? = some (.int .i64 c.1) ∧ (flatC cs)[i * 2 + 1]? = some (.int .i64 c.2) := by
  constructor
  · have := flat_at (fun c : Int × Int => [Value.int .i64 c.1, Value.int .i64 c.2]) 2 (fun _ => rfl) cs i 0 c h (by omega)
    exact this
  · have := flat_at (fun c : Int × Int => [Value.int .i64 c.1, Value.int .i64 c.2]) 2 (fun _ => rfl) cs i 1 c h (by omega)
    exact this
theorem flatC_set2 (cs : List (Int × Int)) (i : Nat) (c : Int × Int) (hi : i < cs.length) : ((flatC cs).set (i * 2) (.int .i64 c.1)).set (i * 2 + 1) (.int .i64 c.2) = flatC (cs.set i c) := by
  have hl : ∀ l : List (Int × Int), (flatC l).length = l.length * 2 := fun l => flat_len (fun c : Int × Int => [Value.int .i64 c.1, Value.int .i64 c.2]) 2 (fun _ => rfl) l
  apply List.ext_getElem?
  intro q
  by_cases hq : q < cs.length * 2
  · obtain ⟨i', t, rfl, ht⟩ : ∃ i' t, q = i' * 2 + t ∧ t < 2 := ⟨q / 2, q % 2, by omega, by omega⟩
    have hi' : i' < cs.length := by omega
    rw [List.getElem?_set, List.getElem?_set]
    simp only [List.length_set, hl]
    by_cases e : i = i'
    · subst e
      have hs : (cs.set i c)[i]? = some c := by simp [hi]
      obtain ⟨h1, h2⟩ := flatC_at (cs.set i c) i hs
      have ht2 : t = 0 ∨ t = 1 := by omega
      rcases ht2 with rfl | rfl
      · rw [if_neg (by omega), if_pos (by omega), if_pos (by omega)]; exact h1.symm
      · rw [if_pos (by omega), if_pos (by omega)]; exact h2.symm
    · rw [if_neg (by omega), if_neg (by omega)]
      have hs : (cs.set i c)[i']? = some cs[i'] := by rw [List.getElem?_set_ne e]; exact List.getElem?_eq_getElem hi'
      obtain ⟨h1, h2⟩ := flatC_at (cs.set i c) i' hs
      obtain ⟨h3, h4⟩ := flatC_at cs i' (List.getElem?_eq_getElem hi')
      have ht2 : t = 0 ∨ t = 1 := by omega
      rcases ht2 with rfl | rfl
      · exact h3.trans h1.symm
      · exact h4.trans h2.symm
  · rw [List.getElem?_eq_none (by simp [hl]; omega), List.getElem?_eq_none (by rw [hl]; simp; omega)]
theorem rep_set {α : Type} (m : α) (ys : List α) (k : Nat) (hk : k < ys.length) : (List.replicate k m ++ ys.drop k).set k m = List.replicate (k + 1) m ++ ys.drop (k + 1) := by
  rw [List.set_append_right _ _ (by simp), List.length_replicate, Nat.sub_self, List.drop_eq_getElem_cons hk, List.set_cons_zero, List.replicate_succ', List.append_assoc]
  rfl
theorem fillC {w : World} {L g cap n k : Nat} {ys : List (Int × Int)} {c : Int × Int} (h : w.ownsRow L 32 2 (.slice (some ⟨g, 0, none⟩) n cap) n (flatC (List.replicate k c ++ ys.drop k))) (hk : k < ys.length) (hn : n = ys.length := by rfl) :
    ((w.setCell ⟨g, k * 2, none⟩ (.int .i64 c.1)).setCell ⟨g, k * 2 + 1, none⟩ (.int .i64 c.2)).ownsRow L 32 2 (.slice (some ⟨g, 0, none⟩) n cap) n (flatC (List.replicate (k + 1) c ++ ys.drop (k + 1))) ∧
    Chg (fun q => (Value.slice (some ⟨g, 0, none⟩) n cap).ownBlock = some q) w ((w.setCell ⟨g, k * 2, none⟩ (.int .i64 c.1)).setCell ⟨g, k * 2 + 1, none⟩ (.int .i64 c.2)) ∧ w.frozen? ⟨g, k * 2, none⟩ = false ∧ (w.setCell ⟨g, k * 2, none⟩ (.int .i64 c.1)).frozen? ⟨g, k * 2 + 1, none⟩ = false ∧ ∃ u0 u1, w.cell? ⟨g, k * 2, none⟩ = some u0 ∧ (w.setCell ⟨g, k * 2, none⟩ (.int .i64 c.1)).cell? ⟨g, k * 2 + 1, none⟩ = some u1 := by
  obtain ⟨h1, g1⟩ := World.ownsRow.stored h (k * 2) (.int .i64 c.1)
  obtain ⟨h2, g2⟩ := World.ownsRow.stored h1 (k * 2 + 1) (.int .i64 c.2)
  have hlen : (List.replicate k c ++ ys.drop k).length = ys.length := by simp; omega
  rw [flatC_set2 _ k c (by rw [hlen]; exact hk), rep_set c ys k hk] at h2
  have e0 := World.ownsRow.cellAt h (k * 2) (by omega)
  have e1 := World.ownsRow.cellAt h1 (k * 2 + 1) (by omega)
  have hl0 := h.1
  have hl1 := h1.1
  refine ⟨h2, ⟨(g2.os).trans g1.os, g2.tape.trans g1.tape, g2.output.trans g1.output, Nat.le_trans g1.size g2.size, fun q hq hn => (g2.block q (Nat.lt_of_lt_of_le hq g1.size) (fun e => hn e.symm)).trans (g1.block q hq (fun e => hn e.symm))⟩, World.ownsRow.frozenAt h _, World.ownsRow.frozenAt h1 _, _, _, e0.trans (List.getElem?_eq_getElem (by omega)), e1.trans (List.getElem?_eq_getElem (by omega))⟩
theorem snoc_rel {α β : Type} (R : α → β → Prop) {l : List α} {ms : List β} {x : α} {m : β} (hl : ms.length = l.length) (h : ∀ (i : Nat) (y : α) (q : β), l[i]? = some y → ms[i]? = some q → R y q) (hx : R x m) : ∀ (i : Nat) (y : α) (q : β), (l ++ [x])[i]? = some y → (ms ++ [m])[i]? = some q → R y q := by
  intro i y q h1 h2
  by_cases hi : i < l.length
  · rw [List.getElem?_append_left hi] at h1
    rw [List.getElem?_append_left (by omega)] at h2
    exact h i y q h1 h2
  · rw [List.getElem?_append_right (by omega)] at h1
    rw [List.getElem?_append_right (by omega), hl] at h2
    by_cases e : i - l.length = 0
    · rw [e] at h1 h2
      simp at h1 h2
      rw [← h1, ← h2]
      exact hx
    · rw [List.getElem?_eq_none (by simp; omega)] at h1
      cases h1
theorem NFull.addC {z : NZ} {x : DC} {m : Int} (h : NFull z) (hl : x.cs.length ≤ 1000) (hx : ∀ u ∈ x.cs, u.1 = m) (hn : z.kc.length + 1 ≤ 4) (u' u'' : Value) : NFull { z with vcl := u', kc := z.kc ++ [x], vms := u'', ms := z.ms ++ [m] } :=
  ⟨by simp [h.lc1], (fun i y q h1 h2 => snoc_rel (fun (x : DC) m => ∀ u ∈ x.cs, u.1 = m) h.lc1 h.fc hx i y q h1 h2), by simpa using hn, h.n4, (fun y hy => by
    have old : y ∈ z.kc ++ (z.lc ++ z.wc) → y.cs.length ≤ 1000 := h.s2 y
    rcases List.mem_append.1 hy with hy | hy
    · rcases List.mem_append.1 (hy) with hy | hy
      · exact old (by simp [hy])
      · simp at hy; subst hy; exact hl
    · exact old (List.mem_append.2 (Or.inr hy))), h.wc1⟩
theorem NFull.rotC {z : NZ} {x : DC} {m : Int} (h : NFull z) (hl : x.cs.length ≤ 1000) (hx : ∀ u ∈ x.cs, u.1 = m) (hn : z.kc.length = 4) (u' u'' : Value) : NFull { z with vcl := u', kc := (z.kc ++ [x]).tail, vms := u'', ms := (z.ms ++ [m]).tail } :=
  ⟨by simp [h.lc1], (fun i y q h1 h2 => by rw [List.getElem?_tail] at h1 h2; exact snoc_rel (fun (x : DC) m => ∀ u ∈ x.cs, u.1 = m) h.lc1 h.fc hx (i + 1) y q h1 h2), by simp [hn], h.n4, (fun y hy => by
    have old : y ∈ z.kc ++ (z.lc ++ z.wc) → y.cs.length ≤ 1000 := h.s2 y
    rcases List.mem_append.1 hy with hy | hy
    · rcases List.mem_append.1 (List.mem_of_mem_tail hy) with hy | hy
      · exact old (by simp [hy])
      · simp at hy; subst hy; exact hl
    · exact old (List.mem_append.2 (Or.inr hy))), h.wc1⟩
section
variable {L : Nat} {P : List (Ent L)} {own0 : Nat → Prop} {w0 : World} {R : List (Ent L)} {w w' : World} {z : NZ}
structure MoC (P : List (Ent L)) (w0 w : World) (x : DC) (R : List (Ent L)) (mv : Value) (n : Nat) : Prop where
  own : ∃ zs, w.ownsRow L 32 2 mv n zs
  loc : ∀ k, mv.ownBlock = some k → x.d.ownBlock = some k ∨ (w0.heap.size ≤ k ∧ ¬ has (P ++ (dcE L x :: R)) k)
/-- What grows out of the row under way. -/
theorem AP.growC {x : DC} {mv mv' : Value} {n m : Nat} {zs : List Value} (h : AP P own0 w0 (dcE L x :: R) w) (hM : MoC P w0 w x R mv n) (hn : x.cs.length ≤ n) (ho : w'.ownsRow L 32 2 mv' m zs) (hg : Grew w w' mv mv') (hin : ∀ (d : Value) (n' base' : Nat) (zs : List Value), n' ≤ n → d.ownBlock = mv.ownBlock → w.ownsRow base' 32 2 d n' zs → w'.ownsRow base' 32 2 d n' zs) :
    AP P own0 w0 (dcE L x :: R) w' ∧ MoC P w0 w' x R mv' m := by
  have hx : w.ownsRow L 32 2 x.d x.cs.length (flatC x.cs) := h.get (e := dcE L x) (List.mem_cons_self ..)
  have key : AP P own0 w0 (dcE L x :: R) w' := by
    cases hb : mv.ownBlock with
    | none =>
      refine h.more ⟨hg.g.os, hg.g.tape, hg.g.output, hg.g.size, fun k hk => hg.g.block k hk (by rw [hb]; simp)⟩
    | some j =>
      rcases hM.loc j hb with h1 | h1
      · exact h.writeC (x' := x) rfl (hin x.d x.cs.length L _ hn (h1.trans hb.symm) hx) (hg.chg.mono (fun k _ e => by rw [hb] at e; exact h1.trans e))
      · have hc : Chg (fun k => k = j) w w' := hg.chg.mono (fun k _ e => by rw [hb] at e; cases e; rfl)
        exact ⟨AS.h h |>.chg hc (fun k hk e => h1.2 (e ▸ hk)), (AS.chg h).trans hc (fun k hk e => by subst e; omega), AS.new h⟩
  refine ⟨key, ⟨_, ho⟩, fun k hk => ?_⟩
  rcases hg.at' k hk with h1 | h1
  · exact hM.loc k h1
  · exact Or.inr ⟨Nat.le_trans (AS.chg h).size h1, fun e => by have := ((AS.h h).typ e).2; omega⟩
end
end Go.Proofs.Ytadfmnlkfcigoaa
