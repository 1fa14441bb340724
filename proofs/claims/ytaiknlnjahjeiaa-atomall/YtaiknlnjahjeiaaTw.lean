import Derived.Test.YtaiknlnjahjeiaaCp
namespace Go.Proofs.Ytaiknlnjahjeiaa
open Go.RowKit Go.PlainAid Go.MapKept
set_option linter.unusedVariables false
set_option linter.unusedSimpArgs false
/-- All blocks of a map. -/
def ownB (ab mb : Nat) (L : List (List UInt8 × Ct)) (k : Nat) : Prop := k = ab ∨ ownA mb L k
section
variable {w w' : World} {ab mb ab2 mb2 : Nat} {L L2 : List (List UInt8 × Ct)}
theorem AM.own_lt (h : AM ab mb L w) {k : Nat} (hk : ownB ab mb L k) : k < w.heap.size := by
  rcases hk with rfl | rfl | ⟨p, hp, hpb⟩
  · exact h.box.lt
  · exact h.map.lt
  · exact h.lows.2.2 p hp k hpb
theorem AM.frame {A : Nat → Prop} (h : AM ab mb L w) (hc : Chg A w w') (hA : ∀ k, ownB ab mb L k → ¬ A k) : AM ab mb L w' :=
  ⟨hc.blk h.box (hA ab (Or.inl rfl)), h.map.same (hc.block _ h.map.lt (hA mb (Or.inr (Or.inl rfl)))), fun p hp => by
    obtain ⟨a, b, x, c, d, e⟩ := h.ct p hp
    exact ⟨a, b, x, c, d.same (hc.block _ d.lt (hA x (Or.inr (Or.inr ⟨p, hp, c⟩)))), e⟩, h.dj, h.kd⟩
theorem AM.keeps (h : AM ab mb L w) (hc : Chg (ownA mb L) w w') : ∀ b C T, Blk w b C T → Blk w' b C T := fun b C T hB => hc.blk hB (fun e => by
  rcases e with rfl | ⟨p, hp, hpb⟩
  · exact h.map.ne_b hB rfl
  · obtain ⟨_, _, x, c1, d1, _⟩ := h.ct p hp
    rw [hpb] at c1
    cases c1
    exact d1.ne_b hB rfl)
theorem own_doL {R : Out} {n : List UInt8} {hb' k : Nat} (hk : L.Pairwise (fun p q => p.1 ≠ q.1)) (hh : R.1.2 = 0 → (∃ p ∈ L, p.2.hb = some hb') ∨ w.heap.size ≤ hb') (h : ownB ab mb (doL R n hb' L) k) : ownB ab mb L k ∨ w.heap.size ≤ k := by
  rcases h with h | h | ⟨p, hp, hpb⟩
  · exact Or.inl (Or.inl h)
  · exact Or.inl (Or.inr (Or.inl h))
  · unfold doL at hp
    by_cases hr : R.1.2 = 0
    · rw [if_pos hr] at hp
      rcases putM_in hk hp with rfl | ⟨hp, _⟩
      · have hx : hb' = k := by simpa using hpb
        subst hx
        rcases hh hr with ⟨p, hp, hpb⟩ | hh
        · exact Or.inl (Or.inr (Or.inr ⟨p, hp, hpb⟩))
        · exact Or.inr hh
      · exact Or.inl (Or.inr (Or.inr ⟨p, hp, hpb⟩))
    · rw [if_neg hr] at hp
      exact Or.inl (Or.inr (Or.inr ⟨p, hp, hpb⟩))
end
/-- Two maps that were made since w0, apart from one another. -/
structure TwoM (w0 : World) (ab mb : Nat) (L : List (List UInt8 × Ct)) (ab2 mb2 : Nat) (L2 : List (List UInt8 × Ct)) (w : World) : Prop where
  a : AX w0 ab mb L w
  b : AM ab2 mb2 L2 w
  dj : ∀ k, ownB ab mb L k → ¬ ownB ab2 mb2 L2 k
  lo : ∀ k, ownB ab2 mb2 L2 k → w0.heap.size ≤ k
section
variable {w0 w w' : World} {ab mb ab2 mb2 : Nat} {L L2 : List (List UInt8 × Ct)}
theorem TwoM.more (h : TwoM w0 ab mb L ab2 mb2 L2 w) (hb : Below w.heap.size w w') : TwoM w0 ab mb L ab2 mb2 L2 w' := ⟨h.a.more hb, h.b.more hb, h.dj, h.lo⟩
theorem TwoM.copy (h : AX w0 ab mb L w) : Calls Try.prog 19 #[.pointer (some ⟨ab, 0, none⟩)] w fun e w' => ∃ ab2 mb2 L2, e = .returned (.pointer (some ⟨ab2, 0, none⟩)) ∧ TwoM w0 ab mb L ab2 mb2 L2 w' ∧ Eqv L L2 ∧ Below w.heap.size w w' := by
  refine (copy_any w h.am).mono ?_
  rintro e w' ⟨ab2, mb2, L2, rfl, hA, hc, ⟨l1, l2, l3⟩, hb⟩
  have hlo : ∀ k, ownB ab2 mb2 L2 k → w.heap.size ≤ k := fun k hk => by
    rcases hk with rfl | rfl | ⟨p, hp, hpb⟩
    · exact l1
    · exact l2
    · exact l3 p hp k hpb
  refine ⟨ab2, mb2, L2, rfl, ⟨h.more hb, hA, fun k h1 h2 => ?_, fun k hk => Nat.le_trans h.bel.size (hlo k hk)⟩, hc.eqv h.am.kd, hb⟩
  have := h.am.own_lt h1
  have := hlo k h2
  omega
theorem TwoM.do (h : TwoM w0 ab mb L ab2 mb2 L2 w) (k A B q : Int) (n : List UInt8) (hn : n.length ≤ 140737488355328) :
    Calls Try.prog 12 #[.pointer (some ⟨ab, 0, none⟩), .agg #[.int .i64 k, .string ⟨n.toArray⟩, .int .i64 A, .int .i64 B], .int .i64 q] w fun e w' => ∃ hb', e = .returned (.tuple #[.int .i64 (mapO k A B q n L).1.1, .int .i64 (mapO k A B q n L).1.2]) ∧ TwoM w0 ab mb (doL (mapO k A B q n L) n hb' L) ab2 mb2 L2 w' ∧ ∀ b C T, Blk w b C T → Blk w' b C T := by
  refine (do_any k A B q n w h.a.am hn).mono ?_
  rintro e w' ⟨hb', rfl, hA, hh, hc⟩
  have hlo : ∀ j, ownB ab mb L j → w0.heap.size ≤ j := fun j hj => by
    rcases hj with rfl | rfl | ⟨p, hp, hpb⟩
    · exact h.a.lo.1
    · exact h.a.lo.2.1
    · exact h.a.lo.2.2 p hp j hpb
  have hlo2 : ∀ j, ownB ab mb (doL (mapO k A B q n L) n hb' L) j → w0.heap.size ≤ j := fun j hj => (own_doL h.a.am.kd hh hj).elim (hlo j) (fun e => Nat.le_trans h.a.bel.size e)
  refine ⟨hb', rfl, ⟨⟨hA, ⟨h.a.lo.1, h.a.lo.2.1, fun p hp x hx => hlo2 x (Or.inr (Or.inr ⟨p, hp, hx⟩))⟩, h.a.bel.trans (hc.below h.a.bel.size (fun j hj => hlo j (Or.inr hj)))⟩, h.b.frame hc (fun j h1 h2 => h.dj j (Or.inr h2) h1), fun j h1 h2 => ?_, h.lo⟩, h.a.am.keeps hc⟩
  rcases own_doL h.a.am.kd hh h1 with h3 | h3
  · exact h.dj j h3 h2
  · have := h.b.own_lt h2
    omega
theorem own_alL {R : Out} {er va : Int} {n : List UInt8} {hb' k : Nat} {ab mb : Nat} {L : List (List UInt8 × Ct)} {w : World} (hk : L.Pairwise (fun p q => p.1 ≠ q.1)) (hh : alH R er va w hb' L) (h : ownB ab mb (alL R er va n hb' L) k) : ownB ab mb L k ∨ w.heap.size ≤ k := by
  cases hb : alB R er va with
  | true => rw [alL_yes hb] at h; exact own_doL hk (fun h0 => hh h0 hb) h
  | false => rw [alL_no hb] at h; exact Or.inl h
/-- Allows of the second one. -/
theorem TwoM.al (h : TwoM w0 ab mb L ab2 mb2 L2 w) (e0 e1 e2 k A B er va : Int) (n : List UInt8) (hn : n.length ≤ 140737488355328) :
    Calls Try.prog 20 #[.pointer (some ⟨ab2, 0, none⟩), .agg #[.int .i64 e0, .int .i64 e1, .int .i64 e2, .int .i64 k, .string ⟨n.toArray⟩, .int .i64 A, .int .i64 B, .int .i64 er, .int .i64 va]] w fun e w' => ∃ hb', e = .returned (.bool (alB (mapO k A B va n L2) er va)) ∧ TwoM w0 ab mb L ab2 mb2 (alL (mapO k A B va n L2) er va n hb' L2) w' ∧ ∀ b C T, Blk w b C T → Blk w' b C T := by
  refine (allows_any e0 e1 e2 k A B er va n w h.b hn).mono ?_
  rintro e w' ⟨hb', rfl, hA, hh, hc⟩
  have hlo2 : ∀ j, ownB ab2 mb2 (alL (mapO k A B va n L2) er va n hb' L2) j → w0.heap.size ≤ j := fun j hj => (own_alL h.b.kd hh hj).elim (h.lo j) (fun e => Nat.le_trans h.a.bel.size e)
  refine ⟨hb', rfl, ⟨⟨h.a.am.frame hc (fun j h1 h2 => h.dj j h1 (Or.inr h2)), h.a.lo, h.a.bel.trans (hc.below h.a.bel.size (fun j hj => h.lo j (Or.inr hj)))⟩, hA, fun j h1 h2 => ?_, hlo2⟩, h.b.keeps hc⟩
  rcases own_alL h.b.kd hh h2 with h3 | h3
  · exact h.dj j h1 h3
  · have := h.a.am.own_lt h1
    omega
/-- One that is not allowed leaves all as it was. -/
theorem TwoM.al_no (h : TwoM w0 ab mb L ab2 mb2 L2 w) (e0 e1 e2 k A B er va : Int) (n : List UInt8) (hn : n.length ≤ 140737488355328) (hb : alB (mapO k A B va n L2) er va = false) :
    Calls Try.prog 20 #[.pointer (some ⟨ab2, 0, none⟩), .agg #[.int .i64 e0, .int .i64 e1, .int .i64 e2, .int .i64 k, .string ⟨n.toArray⟩, .int .i64 A, .int .i64 B, .int .i64 er, .int .i64 va]] w fun e w' => e = .returned (.bool false) ∧ TwoM w0 ab mb L ab2 mb2 L2 w' ∧ ∀ b C T, Blk w b C T → Blk w' b C T := by
  refine (h.al e0 e1 e2 k A B er va n hn).mono ?_
  rintro e w' ⟨hb', rfl, h1, h2⟩
  rw [alL_no hb] at h1
  exact ⟨by rw [hb], h1, h2⟩
end
theorem wrap_ne (x o : Int) (h1 : 1 ≤ o) (h2 : o ≤ 1000) : x ≠ IntKind.i64.wrap (x + o) := by
  rw [IntKind.wrap_i64]
  omega
theorem alB_val {R : Out} {er va : Int} (h : R.1.1 ≠ va) : alB R er va = false := by
  unfold alB
  rw [show (R.1.1 == va) = false from by simpa using h]
  simp
theorem alB_err {R : Out} {er va : Int} (h : R.1.2 ≠ er) : alB R er va = false := by
  unfold alB
  rw [show (R.1.2 == er) = false from by simpa using h]
  simp
theorem alB_own (R : Out) : alB R R.1.2 R.1.1 = !(R.1.2 == 1) := by
  unfold alB
  simp
/-- What is allowed does what Do has done. -/
theorem alL_eqv {L L2 : List (List UInt8 × Ct)} (h : Eqv L L2) (R : Out) (n : List UInt8) (x y : Nat) : Eqv (doL R n x L) (alL R R.1.2 R.1.1 n y L2) := by
  by_cases h1 : R.1.2 = 1
  · have hb : alB R R.1.2 R.1.1 = false := by rw [alB_own, h1]; rfl
    rw [alL_no hb]
    have : doL R n x L = L := by unfold doL; rw [if_neg (by rw [h1]; decide)]
    rw [this]
    exact h
  · have hb : alB R R.1.2 R.1.1 = true := by rw [alB_own]; simpa using h1
    rw [alL_yes hb]
    exact h.doL R n x y
end Go.Proofs.Ytaiknlnjahjeiaa
