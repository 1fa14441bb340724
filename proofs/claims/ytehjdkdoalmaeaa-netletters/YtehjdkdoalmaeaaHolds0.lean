import Derived.Test.YtehjdkdoalmaeaaApart1
namespace Go.Proofs.Ytehjdkdoalmaeaa
open Go.RowKit Go.PlainAid
set_option linter.unusedVariables false
set_option linter.unusedSimpArgs false
/-- A pair behind k calls. -/
def PRel (L pb hbn hbr room : Nat) (s0 : PS) (W0 : World) (k : Nat) (wr : World) : Prop :=
  ∃ s', PInv L pb hbn hbr room s' wr ∧ PAg room s' ∧ PFull s' ∧ PCnt k s' ∧ s'.fl = [] ∧ PStp pb hbn hbr s0 s' W0 wr
section
variable {L pb hbn hbr room k : Nat} {s0 : PS} {W0 wr : World}
theorem PRel.plays (h : PRel L pb hbn hbr room s0 W0 k wr) (hk : k ≤ 3000) (hroom : room ≤ 1024) (hL : L ≤ W0.heap.size) (hLb : L ≤ pb ∧ L ≤ hbn ∧ L ≤ hbr) (o : OpA) (hln : o.l.bs.length ≤ 1048576) (hnil : o.l.ao = none → o.l.bs.length = 0 ∧ o.l.cap = 0) (hsrc : From W0 o.l.ao o.l.bs)
    (hlow : 0 < o.l.bs.length → ∀ b q, o.l.ao = some ⟨b, q, none⟩ → b < W0.heap.size ∧ ¬ s0.has pb hbn hbr b) :
    Calls Try.prog 23 #[.pointer (some ⟨pb, 0, none⟩), .agg (opC o)] wr fun e w' => e = .returned (.bool true) ∧ PRel L pb hbn hbr room s0 W0 (k + 1) w' ∧ ∃ s1 s2, PStp pb hbn hbr s0 s1 W0 wr ∧ PInv L pb hbn hbr room s1 wr ∧ PStp pb hbn hbr s1 s2 wr w' := by
  obtain ⟨s', hP, hA, hF, hC, hfl, hS⟩ := h
  have hout : ∀ b, b < W0.heap.size → ¬ s0.has pb hbn hbr b → ¬ s'.has pb hbn hbr b := fun b hb hn q => (hS.has b q).elim hn (fun r => by omega)
  have hsrc' : From wr o.l.ao o.l.bs := fun h0 => by
    obtain ⟨b, off, e, hc⟩ := hsrc h0
    obtain ⟨h1, h2⟩ := hlow h0 b off e
    exact ⟨b, off, e, fun j u hu => (World.cell?_of_block (w := W0) (hS.block b h1 h2)).trans (hc j u hu)⟩
  refine (plays_any wr hP hA hF hC hk hroom (Nat.le_trans hL hS.size) hLb hfl o hln hnil hsrc' fun h0 b q e => ?_).mono ?_
  · obtain ⟨h1, h2⟩ := hlow h0 b q e
    exact ⟨Nat.lt_of_lt_of_le h1 hS.size, hout b h1 h2⟩
  · rintro e w' ⟨rfl, s2, hp⟩
    exact ⟨rfl, ⟨s2, hp.inv, hp.ag, hp.full, hp.cnt, hp.fl, hS.trans hp.stp⟩, s', s2, hS, hP, hp.stp⟩
theorem PRel.stands (h : PRel L pb hbn hbr room s0 W0 k wr) : Calls Try.prog 24 #[.pointer (some ⟨pb, 0, none⟩)] wr fun e w' => e = .returned (.bool true) ∧ ∃ q, w' = wr.drewN q := by
  obtain ⟨s', hP, hA, hF, hC, hfl, hS⟩ := h
  exact stands_any wr hP hF
theorem PRel.drewN (h : PRel L pb hbn hbr room s0 W0 k wr) (q : Nat) : PRel L pb hbn hbr room s0 W0 k (wr.drewN q) := by
  obtain ⟨s', hP, hA, hF, hC, hfl, hS⟩ := h
  exact ⟨s', hP.drewN q, hA, hF, hC, hfl, ⟨hS.os, hS.tape, hS.output, hS.size, hS.block, hS.has⟩⟩
theorem PRel.apart (h : PRel L pb hbn hbr room s0 W0 k wr) (hk : k ≤ 3000) (hL : L ≤ W0.heap.size) : Calls Try.prog 25 #[.pointer (some ⟨pb, 0, none⟩)] wr fun e w' => e = .returned (.bool true) ∧ (∃ s', PStp pb hbn hbr s0 s' W0 w') ∧ ∃ s1, PStp pb hbn hbr s0 s1 W0 wr ∧ PInv L pb hbn hbr room s1 wr ∧ PStp pb hbn hbr s1 s1 wr w' := by
  obtain ⟨s', hP, hA, hF, hC, hfl, hS⟩ := h
  refine (apart_any wr hP hF hC hk (Nat.le_trans hL hS.size)).mono ?_
  rintro e w' ⟨rfl, hst⟩
  exact ⟨rfl, ⟨s', hS.trans hst⟩, s', hS, hP, hst⟩
theorem PRel.start {s0 : PS} (hP : PInv L pb hbn hbr room s0 W0) (hA : PAg room s0) (hF : PFull s0) (hC : PCnt 0 s0) (hfl : s0.fl = []) : PRel L pb hbn hbr room s0 W0 0 W0 :=
  ⟨s0, hP, hA, hF, hC, hfl, PStp.ofBelow (Below.refl _ _)⟩
/-- What is made above is no matter. -/
theorem PRel.below {W2 : World} (h : PRel L pb hbn hbr room s0 W0 k wr) (hb : Below wr.heap.size wr W2) : PRel L pb hbn hbr room s0 W0 k W2 := by
  obtain ⟨s', hP, hA, hF, hC, hfl, hS⟩ := h
  exact ⟨s', hP.below hb, hA, hF, hC, hfl, hS.trans (PStp.ofBelow hb)⟩
end
theorem new_cnt : PCnt 0 PS.new := ⟨by decide, by decide, by decide, by decide, by decide, by decide, by decide, fun x hx => by cases hx⟩
theorem new_has (pb hbn hbr k : Nat) : PS.new.has pb hbn hbr k → k = pb ∨ k = hbn ∨ k = hbr := by
  intro h
  rcases h with h | h | h | h
  · exact Or.inl h
  · exact Or.inr (Or.inl h)
  · exact Or.inr (Or.inr h)
  · rw [show PS.new.foot = [] from rfl] at h
    cases h
theorem newW_size (room : Int) (w : World) : (newW room w).heap.size = w.heap.size + 3 := by simp [newW]
theorem newW_below (room : Int) (w : World) : Below w.heap.size w (newW room w) := by
  unfold newW
  exact (((Below.refl _ _).alloc (Nat.le_refl _) _).alloc (by simp) _).alloc (by simp; omega) _
end Go.Proofs.Ytehjdkdoalmaeaa
