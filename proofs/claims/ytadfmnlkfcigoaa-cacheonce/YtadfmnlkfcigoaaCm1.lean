import Derived.Test.YtadfmnlkfcigoaaPut
namespace Go.Proofs.Ytadfmnlkfcigoaa
open Go.RowKit Go.PlainAid Go.MapKept
set_option linter.unusedVariables false
set_option linter.unusedSimpArgs false
section
variable {a : CA} {x x' : CX} {w w' : World}
def CX.setLa (x : CX) (s i : Int) : CX := { x with la := fun t => if t = s then i else x.la t }
def CX.setRg (x : CX) (s : Int) (R : List Rp) : CX := { x with rg := fun t => if t = s then R else x.rg t }
theorem row_eq {me rep : Int} {j k : Nat} (hr : 0 < rep) (h : me + (j : Int) * rep = me + (k : Int) * rep) : j = k := by
  have e : (j : Int) * rep = k * rep := by omega
  have := Int.eq_of_mul_eq_mul_right (by omega) e
  omega
theorem CM.hne (h : CM a x w) {j hb : Nat} (hj : a.hs[j]? = some hb) : hb ≠ a.cb ∧ hb ≠ a.ms ∧ hb ≠ a.mp := by
  obtain ⟨C, hB⟩ := (h.hist j hb hj).blk
  exact ⟨hB.ne_t h.blk (by decide), h.sm.ne_b hB, h.pm.ne_b hB⟩
/-- A history changes. -/
theorem CM.setHist (h : CM a x w) {j hb : Nat} (hj : a.hs[j]? = some hb) (hc : Chg (fun k => k = hb) w w') (la : Int → Int) (rg : Int → List Rp)
    (hn : Hist w' hb a.room (la (a.me + j * a.rep)) (rg (a.me + j * a.rep))) (ho : ∀ k : Nat, k ≠ j → la (a.me + k * a.rep) = x.la (a.me + k * a.rep) ∧ rg (a.me + k * a.rep) = x.rg (a.me + k * a.rep)) : CM a { x with la := la, rg := rg } w' := by
  obtain ⟨n1, n2, n3⟩ := h.hne hj
  refine ⟨h.ok, hc.blk h.blk (fun e => n1 e.symm), h.sm.same (hc.block _ h.sm.lt (fun e => n2 e.symm)), h.pm.same (hc.block _ h.pm.lt (fun e => n3 e.symm)), fun k b hk => ?_, h.ne⟩
  by_cases e : k = j
  · subst e
    rw [hj] at hk
    cases hk
    exact hn
  · have hne : b ≠ hb := fun e2 => by
      subst e2
      have h1 := (List.getElem?_eq_some_iff.1 hk)
      have h2 := (List.getElem?_eq_some_iff.1 hj)
      obtain ⟨l1, g1⟩ := h1
      obtain ⟨l2, g2⟩ := h2
      have hp := List.pairwise_iff_getElem.1 h.ok.nd
      rcases Nat.lt_or_gt_of_ne e with h3 | h3
      · exact hp k j l1 l2 h3 (g1.trans g2.symm)
      · exact hp j k l2 l1 h3 (g2.trans g1.symm)
    have := (h.hist k b hk).same (hc.block b (h.hist k b hk).lt hne)
    obtain ⟨e1, e2⟩ := ho k e
    simp only [e1, e2]
    exact this
theorem CM.setLast (h : CM a x w) {j hb : Nat} (hj : a.hs[j]? = some hb) {s : Int} (hs : s = a.me + j * a.rep) (i : Int) :
    CM a (x.setLa s i) (w.setCell ⟨hb, 0, none⟩ (.int .i64 i)) ∧ Chg (fun k => k = hb) w (w.setCell ⟨hb, 0, none⟩ (.int .i64 i)) := by
  have hc : Chg (fun k => k = hb) w (w.setCell ⟨hb, 0, none⟩ (.int .i64 i)) := ⟨rfl, rfl, rfl, by simp [World.setCell], fun k hk hn => Below.heap_setCell _ _ _ _ hn⟩
  refine ⟨h.setHist hj hc _ _ ?_ (fun k hk => ?_), hc⟩
  · obtain ⟨C, sl, f, hB, hC, r⟩ := h.hist j hb hj
    rw [← hs] at hC r ⊢
    rw [if_pos rfl]
    exact ⟨_, sl, f, hB.set 0 _, hC.set0 i, r⟩
  · have : ¬ a.me + (k : Int) * a.rep = s := fun e => hk (row_eq (by have := h.ok.rep; omega) (e.trans hs))
    exact ⟨if_neg this, rfl⟩
theorem CM.setRing (h : CM a x w) {j hb : Nat} (hj : a.hs[j]? = some hb) {s : Int} (hs : s = a.me + j * a.rep) (R : List Rp) (hc : Chg (fun k => k = hb) w w') (hn : Hist w' hb a.room (x.la s) R) : CM a (x.setRg s R) w' := by
  refine h.setHist hj hc _ _ ?_ (fun k hk => ?_)
  · rw [← hs, if_pos rfl]
    exact hn
  · have : ¬ a.me + (k : Int) * a.rep = s := fun e => hk (row_eq (by have := h.ok.rep; omega) (e.trans hs))
    exact ⟨rfl, if_neg this⟩
theorem CM.setP (h : CM a x w) (hc : Chg (fun k => k = a.mp) w w') {op : List (Int × Int)} (hm : HMap MP w' a.mp (op.map fun c => (c, ()))) : CM a { x with op := op } w' := by
  refine ⟨h.ok, hc.blk h.blk (h.pm.ne_b h.blk), h.sm.same (hc.block _ h.sm.lt h.ne), hm, fun k b hk => ?_, h.ne⟩
  exact (h.hist k b hk).same (hc.block b (h.hist k b hk).lt (h.hne hk).2.2)
end
end Go.Proofs.Ytadfmnlkfcigoaa
