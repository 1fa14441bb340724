import Derived.Test.YtkdndfdofhnagaaDoorR7d
import Derived.Test.YtkdndfdofhnagaaDoorTail
import Derived.Test.YtkdndfdofhnagaaDoorJC
namespace Go.Proofs.YtkdndfdofhnagaaDoor
open Go.RowKit Go.PlainAid
set_option linter.unusedVariables false
set_option linter.unusedSimpArgs false
/-- Numbers in a row of their own. -/
structure Dat where
  d : Value
  zs : List Int
structure PA where
  pb : Nat
  hb : Nat
  mb : Nat
  l0 : Nat
  l1 : Nat
  rb : Nat
  q0 : Nat
  q1 : Nat
structure CS where
  b : BS
  s0 : LS
  s1 : LS
structure ZS where
  vl : Value
  vm : Value
  vf : Value
  vw : Value
  ks : List Dat
  ls : List Dat
  ws : List Dat
  fl : List Dat
  ms : List Int
structure PS where
  c : CS
  v : Value
  z : ZS
  mark : Int
def PA.l (a : PA) (i : Bool) : Nat := bif i then a.l1 else a.l0
def PA.q (a : PA) (i : Bool) : Nat := bif i then a.q1 else a.q0
def CS.s (c : CS) (i : Bool) : LS := bif i then c.s1 else c.s0
def CS.put (c : CS) (i : Bool) (b : BS) (s : LS) : CS := bif i then ⟨b, c.s0, s⟩ else ⟨b, s, c.s1⟩
def pairC (a : PA) (p : PS) : Array Value := #[.pointer (some ⟨a.hb, 0, none⟩), .pointer (some ⟨a.rb, 0, none⟩), .pointer (some ⟨a.l0, 0, none⟩), .pointer (some ⟨a.l1, 0, none⟩), .pointer (some ⟨a.q0, 0, none⟩), .pointer (some ⟨a.q1, 0, none⟩), p.z.vl, p.z.vm, .int .i64 p.mark, p.z.vf, p.z.vw]
/-- Both books with their ledgers: the program's side stands at cc, the reference's at cr. -/
structure Core (S : Sens) (L : Nat) (a : PA) (cc cr : CS) (v : Value) (w : World) : Prop where
  sen : Sen S L w
  bk : Bk a.hb a.mb cc.b w
  rk : RBk L a.rb v cr.b w
  l0 : Blk w a.l0 cc.s0.cs 71
  l1 : Blk w a.l1 cc.s1.cs 71
  q0 : Blk w a.q0 cr.s0.cs 89
  q1 : Blk w a.q1 cr.s1.cs 89
  nl : a.l0 ≠ a.l1
  nq : a.q0 ≠ a.q1
  lo : L ≤ a.hb ∧ L ≤ a.mb ∧ L ≤ a.l0 ∧ L ≤ a.l1 ∧ L ≤ a.rb ∧ L ≤ a.q0 ∧ L ≤ a.q1
structure CS.Ok (c : CS) : Prop where
  b : c.b.Ok
  s0 : c.s0.Ok
  s1 : c.s1.Ok
theorem CS.Ok.s {c : CS} (h : c.Ok) (i : Bool) : (c.s i).Ok := by cases i; exact h.s0; exact h.s1
def PA.code (a : PA) (k : Nat) : Prop := k = a.hb ∨ k = a.mb ∨ k = a.l0 ∨ k = a.l1
def PA.refr (a : PA) (v : Value) (k : Nat) : Prop := k = a.rb ∨ k = a.q0 ∨ k = a.q1 ∨ v.ownBlock = some k
def PA.core (a : PA) (v : Value) (k : Nat) : Prop := a.code k ∨ a.refr v k
section
variable {S : Sens} {L : Nat} {a : PA} {cc cr cc' cr' : CS} {v v' : Value} {w w' : World} {A : Nat → Prop}
theorem Core.led (h : Core S L a cc cr v w) (i : Bool) : Blk w (a.l i) (cc.s i).cs 71 := by cases i; exact h.l0; exact h.l1
theorem Core.qed (h : Core S L a cc cr v w) (i : Bool) : Blk w (a.q i) (cr.s i).cs 89 := by cases i; exact h.q0; exact h.q1
theorem Core.lol (h : Core S L a cc cr v w) (i : Bool) : L ≤ a.l i := by cases i; exact h.lo.2.2.1; exact h.lo.2.2.2.1
theorem Core.low (h : Core S L a cc cr v w) : L ≤ w.heap.size := Nat.le_trans h.lo.1 (Nat.le_of_lt h.bk.blk.lt)
/-- What blocks of the core are. -/
theorem Core.typ (h : Core S L a cc cr v w) {k : Nat} (hk : a.core v k) {C : Array Value} {T : TypeId} (hB : Blk w k C T) : T ≠ 3 ∧ T ≠ 48 ∧ T ≠ 61 := by
  have key : ∀ {D : Array Value} {U : TypeId}, Blk w k D U → (U ≠ 3 ∧ U ≠ 48 ∧ U ≠ 61) → T ≠ 3 ∧ T ≠ 48 ∧ T ≠ 61 := fun {D U} h1 h2 => by
    have : T = U := Decidable.byContradiction fun e => hB.ne_t h1 e rfl
    rw [this]
    exact h2
  rcases hk with (rfl | rfl | rfl | rfl) | (rfl | rfl | rfl | e)
  · exact key h.bk.blk (by decide)
  · exact absurd rfl (hB.ne_m h.bk.map)
  · exact key h.l0 (by decide)
  · exact key h.l1 (by decide)
  · exact key h.rk.blk (by decide)
  · exact key h.q0 (by decide)
  · exact key h.q1 (by decide)
  · obtain ⟨cur, h1⟩ := ownsRow_type h.rk.row e
    exact key h1 (by decide)
theorem Core.lt (h : Core S L a cc cr v w) {k : Nat} (hk : a.core v k) : k < w.heap.size := by
  rcases hk with (rfl | rfl | rfl | rfl) | (rfl | rfl | rfl | e)
  · exact h.bk.blk.lt
  · exact h.bk.map.lt
  · exact h.l0.lt
  · exact h.l1.lt
  · exact h.rk.blk.lt
  · exact h.q0.lt
  · exact h.q1.lt
  · exact (ownsRow_lt h.rk.row e).2
theorem Core.ge (h : Core S L a cc cr v w) {k : Nat} (hk : a.core v k) : L ≤ k := by
  rcases hk with (rfl | rfl | rfl | rfl) | (rfl | rfl | rfl | e)
  · exact h.lo.1
  · exact h.lo.2.1
  · exact h.lo.2.2.1
  · exact h.lo.2.2.2.1
  · exact h.lo.2.2.2.2.1
  · exact h.lo.2.2.2.2.2.1
  · exact h.lo.2.2.2.2.2.2
  · exact (ownsRow_lt h.rk.row e).1
theorem Core.keep (h : Core S L a cc cr v w) (hc : Chg A w w') (hA : ∀ k, A k → L ≤ k ∧ ¬ a.core v k) : Core S L a cc cr v w' := by
  have n := fun k (hk : a.core v k) (e : A k) => (hA k e).2 hk
  exact ⟨h.sen.below (hc.below h.low (fun k e => (hA k e).1)), h.bk.keep hc (n _ (Or.inl (Or.inl rfl))) (n _ (Or.inl (Or.inr (Or.inl rfl)))), h.rk.keep hc (n _ (Or.inr (Or.inl rfl))) (fun k e => n k (Or.inr (Or.inr (Or.inr (Or.inr e))))), hc.blk h.l0 (n _ (Or.inl (Or.inr (Or.inr (Or.inl rfl))))), hc.blk h.l1 (n _ (Or.inl (Or.inr (Or.inr (Or.inr rfl))))), hc.blk h.q0 (n _ (Or.inr (Or.inr (Or.inl rfl)))), hc.blk h.q1 (n _ (Or.inr (Or.inr (Or.inr (Or.inl rfl))))), h.nl, h.nq, h.lo⟩
theorem Core.below (h : Core S L a cc cr v w) (hb : Below w.heap.size w w') : Core S L a cc cr v w' := h.keep (Chg.ofBelow (fun _ => False) hb) (by simp)
/-- The two sides lie apart. -/
theorem Core.sides (h : Core S L a cc cr v w) {k : Nat} (h1 : a.code k) : ¬ a.refr v k := by
  have m : ∀ {C : Array Value} {T : TypeId}, Blk w k C T → k ≠ a.mb := fun hB => hB.ne_m h.bk.map
  rintro (rfl | rfl | rfl | e)
  · rcases h1 with e | e | e | e
    · exact h.rk.blk.ne_t h.bk.blk (by decide) e
    · exact m h.rk.blk e
    · exact h.rk.blk.ne_t h.l0 (by decide) e
    · exact h.rk.blk.ne_t h.l1 (by decide) e
  · rcases h1 with e | e | e | e
    · exact h.q0.ne_t h.bk.blk (by decide) e
    · exact m h.q0 e
    · exact h.q0.ne_t h.l0 (by decide) e
    · exact h.q0.ne_t h.l1 (by decide) e
  · rcases h1 with e | e | e | e
    · exact h.q1.ne_t h.bk.blk (by decide) e
    · exact m h.q1 e
    · exact h.q1.ne_t h.l0 (by decide) e
    · exact h.q1.ne_t h.l1 (by decide) e
  · obtain ⟨cur, hr⟩ := ownsRow_type h.rk.row e
    rcases h1 with e | e | e | e
    · exact Blk.ne_t hr h.bk.blk (by decide) e
    · exact m hr e
    · exact Blk.ne_t hr h.l0 (by decide) e
    · exact Blk.ne_t hr h.l1 (by decide) e
theorem Core.codeStep (h : Core S L a cc cr v w) (i : Bool) (hc : Chg (fun k => k = a.hb ∨ k = a.mb ∨ k = a.l i) w w') {b' : BS} {s' : LS} (hb : Bk a.hb a.mb b' w') (hl : Blk w' (a.l i) s'.cs 71) : Core S L a (cc.put i b' s') cr v w' := by
  have hc' : Chg a.code w w' := hc.mono (fun j _ e => by
    rcases e with e | e | e
    · exact Or.inl e
    · exact Or.inr (Or.inl e)
    · cases i
      · exact Or.inr (Or.inr (Or.inl e))
      · exact Or.inr (Or.inr (Or.inr e)))
  have n := fun k (hk : a.refr v k) (e : a.code k) => h.sides e hk
  have hs := h.sen.below (hc'.below h.low (fun k e => h.ge (Or.inl e)))
  have hr := h.rk.keep hc' (n _ (Or.inl rfl)) (fun k e => n k (Or.inr (Or.inr (Or.inr e))))
  have h0 := hc'.blk h.q0 (n _ (Or.inr (Or.inl rfl)))
  have h1 := hc'.blk h.q1 (n _ (Or.inr (Or.inr (Or.inl rfl))))
  cases i
  · refine ⟨hs, hb, hr, hl, hc.blk h.l1 ?_, h0, h1, h.nl, h.nq, h.lo⟩
    rintro (e | e | e)
    · exact h.l1.ne_t h.bk.blk (by decide) e
    · exact h.l1.ne_m h.bk.map e
    · exact h.nl e.symm
  · refine ⟨hs, hb, hr, hc.blk h.l0 ?_, hl, h0, h1, h.nl, h.nq, h.lo⟩
    rintro (e | e | e)
    · exact h.l0.ne_t h.bk.blk (by decide) e
    · exact h.l0.ne_m h.bk.map e
    · exact h.nl e
theorem Core.refStep (h : Core S L a cc cr v w) (i : Bool) {b' : BS} {s' : LS} (hp : RPost L a.rb (a.q i) v b' s' w w') : ∃ v', Core S L a cc (cr.put i b' s') v' w' ∧ (∀ j, v'.ownBlock = some j → v.ownBlock = some j ∨ w.heap.size ≤ j) ∧ Chg (a.core v) w w' := by
  obtain ⟨⟨v', hr, hv⟩, hq, hc⟩ := hp
  have hc' : Chg (a.refr v) w w' := hc.mono (fun j _ e => by
    rcases e with e | e | e
    · exact Or.inl e
    · cases i
      · exact Or.inr (Or.inl e)
      · exact Or.inr (Or.inr (Or.inl e))
    · exact Or.inr (Or.inr (Or.inr e)))
  refine ⟨v', ?_, hv, hc'.mono (fun j _ e => Or.inr e)⟩
  have n := fun k (hk : a.code k) (e : a.refr v k) => h.sides hk e
  have hs := h.sen.below (hc'.below h.low (fun k e => h.ge (Or.inr e)))
  have hb := h.bk.keep hc' (n _ (Or.inl rfl)) (n _ (Or.inr (Or.inl rfl)))
  have h0 := hc'.blk h.l0 (n _ (Or.inr (Or.inr (Or.inl rfl))))
  have h1 := hc'.blk h.l1 (n _ (Or.inr (Or.inr (Or.inr rfl))))
  cases i
  · refine ⟨hs, hb, hr, h0, h1, hq, hc.blk h.q1 ?_, h.nl, h.nq, h.lo⟩
    rintro (e | e | e)
    · exact h.q1.ne_t h.rk.blk (by decide) e
    · exact h.nq e.symm
    · obtain ⟨cur, hr⟩ := ownsRow_type h.rk.row e
      exact Blk.ne_t hr h.q1 (by decide) rfl
  · refine ⟨hs, hb, hr, h0, h1, hc.blk h.q0 ?_, hq, h.nl, h.nq, h.lo⟩
    rintro (e | e | e)
    · exact h.q0.ne_t h.rk.blk (by decide) e
    · exact h.nq e
    · obtain ⟨cur, hr⟩ := ownsRow_type h.rk.row e
      exact Blk.ne_t hr h.q0 (by decide) rfl
end
/-- Two values' rows lie apart. -/
def Dj (u v : Value) : Prop := ∀ k, u.ownBlock = some k → v.ownBlock ≠ some k
theorem Dj.symm {u v : Value} (h : Dj u v) : Dj v u := fun k h1 h2 => h k h2 h1
def ZS.dats (z : ZS) : List Dat := z.ks ++ (z.ls ++ (z.ws ++ z.fl))
def ZS.vals (z : ZS) : List Value := z.vl :: z.vm :: z.vf :: z.vw :: z.dats.map Dat.d
def ZS.has (z : ZS) (k : Nat) : Prop := ∃ u ∈ z.vals, u.ownBlock = some k
structure Shelf (L : Nat) (z : ZS) (w : World) : Prop where
  lists : Tail w L 48 z.vl z.ks.length (z.ks.map Dat.d)
  marks : Tail w L 3 z.vm z.ms.length (z.ms.map I)
  left : Tail w L 48 z.vf z.ls.length (z.ls.map Dat.d)
  were : Tail w L 48 z.vw z.ws.length (z.ws.map Dat.d)
  dat : ∀ x ∈ z.dats, w.ownsRow L 3 1 x.d x.zs.length (x.zs.map I)
  dj : z.vals.Pairwise Dj
section
variable {L : Nat} {z z' : ZS} {w w' : World} {A : Nat → Prop}
theorem Shelf.typ (h : Shelf L z w) {k : Nat} (hk : z.has k) : L ≤ k ∧ k < w.heap.size ∧ ∃ C T, Blk w k C T ∧ (T = 3 ∨ T = 48) := by
  obtain ⟨u, hu, e⟩ := hk
  have key : ∀ {T n xs}, Tail w L T u n xs → (T = 3 ∨ T = 48) → L ≤ k ∧ k < w.heap.size ∧ ∃ C T, Blk w k C T ∧ (T = 3 ∨ T = 48) := fun {T n xs} ht hT => by
    obtain ⟨h1, cur, h2⟩ := tail_blk ht e
    exact ⟨h1, Blk.lt h2, cur, T, h2, hT⟩
  simp only [ZS.vals, List.mem_cons, List.mem_map] at hu
  rcases hu with rfl | rfl | rfl | rfl | ⟨x, hx, rfl⟩
  · exact key h.lists (Or.inr rfl)
  · exact key h.marks (Or.inl rfl)
  · exact key h.left (Or.inr rfl)
  · exact key h.were (Or.inr rfl)
  · exact key (tail_own (h.dat x hx)) (Or.inl rfl)
theorem Shelf.keep (h : Shelf L z w) (hk : ∀ k, z.has k → w'.heap[k]? = w.heap[k]?) : Shelf L z w' := by
  have s : ∀ u ∈ z.vals, ∀ g, u.ownBlock = some g → w'.heap[g]? = w.heap[g]? := fun u hu g hg => hk g ⟨u, hu, hg⟩
  exact ⟨tail_same h.lists (s _ (by simp [ZS.vals])), tail_same h.marks (s _ (by simp [ZS.vals])), tail_same h.left (s _ (by simp [ZS.vals])), tail_same h.were (s _ (by simp [ZS.vals])), fun x hx => ownsRow_same (h.dat x hx) (s _ (by simp only [ZS.vals, List.mem_cons, List.mem_map]; exact Or.inr (Or.inr (Or.inr (Or.inr ⟨x, hx, rfl⟩))))), h.dj⟩
theorem Shelf.chg (h : Shelf L z w) (hc : Chg A w w') (hA : ∀ k, z.has k → ¬ A k) : Shelf L z w' := h.keep fun k hk => hc.block k (h.typ hk).2.1 (hA k hk)
theorem dj_perm {l l' : List Value} (h : l.Perm l') : l.Pairwise Dj ↔ l'.Pairwise Dj := h.pairwise_iff (fun h => h.symm)
/-- One value is put in the place of another: the rest lies apart from it. -/
theorem dj_swap {l l' R : List Value} {u u' : Value} {H : Nat} (hp : l.Perm (u :: R)) (hp' : l'.Perm (u' :: R)) (h : l.Pairwise Dj) (hu : ∀ k, u'.ownBlock = some k → u.ownBlock = some k ∨ H ≤ k) (hlt : ∀ x ∈ l, ∀ k, x.ownBlock = some k → k < H) : l'.Pairwise Dj ∧ (∀ x ∈ R, Dj u x) := by
  have h1 := (dj_perm hp).1 h
  rw [List.pairwise_cons] at h1
  refine ⟨(dj_perm hp').2 (List.pairwise_cons.2 ⟨fun x hx k hk e => ?_, h1.2⟩), h1.1⟩
  rcases hu k hk with h2 | h2
  · exact h1.1 x hx k h2 e
  · have := hlt x (hp.mem_iff.2 (by simp [hx])) k e
    omega
end
def PA.has (a : PA) (p : PS) (k : Nat) : Prop := k = a.pb ∨ a.core p.v k ∨ p.z.has k
structure PInv (S : Sens) (L : Nat) (a : PA) (p : PS) (cr : CS) (w : World) : Prop where
  core : Core S L a p.c cr p.v w
  sh : Shelf L p.z w
  box : Blk w a.pb (pairC a p) 61
  lo : L ≤ a.pb
structure PStp (a : PA) (p p' : PS) (w w' : World) : Prop where
  chg : Chg (a.has p) w w'
  new : ∀ k, a.has p' k → a.has p k ∨ w.heap.size ≤ k
section
variable {S : Sens} {L : Nat} {a : PA} {p p' p'' : PS} {cr cr' : CS} {w w' w'' : World} {A : Nat → Prop}
theorem PStp.refl (a : PA) (p : PS) (w : World) : PStp a p p w w := ⟨Chg.refl _ _, fun _ h => Or.inl h⟩
theorem PStp.trans (h : PStp a p p' w w') (k : PStp a p' p'' w' w'') : PStp a p p'' w w'' := by
  refine ⟨h.chg.trans k.chg (fun j hj e => ?_), fun j e => ?_⟩
  · rcases h.new j e with h1 | h1
    · exact h1
    · omega
  · rcases k.new j e with h1 | h1
    · exact h.new j h1
    · exact Or.inr (Nat.le_trans h.chg.size h1)
theorem PStp.ofBelow (h : Below w.heap.size w w') : PStp a p p w w' := ⟨Chg.ofBelow _ h, fun _ h => Or.inl h⟩
theorem PInv.lt (h : PInv S L a p cr w) {k : Nat} (hk : a.has p k) : k < w.heap.size := by
  rcases hk with rfl | hk | hk
  · exact h.box.lt
  · exact h.core.lt hk
  · exact (h.sh.typ hk).2.1
theorem PInv.below (h : PInv S L a p cr w) (hb : Below w.heap.size w w') : PInv S L a p cr w' := ⟨h.core.below hb, h.sh.keep (fun k hk => hb.block k (h.sh.typ hk).2.1), h.box.below hb h.box.lt, h.lo⟩
theorem PInv.drewN (h : PInv S L a p cr w) (q : Nat) : PInv S L a p cr (w.drewN q) := h.below (below_drewN q (Below.refl _ _))
theorem PInv.cell (h : PInv S L a p cr w) (j : Nat) : w.cell? ⟨a.pb, j, none⟩ = (pairC a p)[j]? := h.box.cell j
/-- No block of the shelf nor the box is one of the core. -/
theorem PInv.apart (h : PInv S L a p cr w) {k : Nat} (hk : a.core p.v k) : k ≠ a.pb ∧ ¬ p.z.has k := by
  refine ⟨fun e => ?_, fun e => ?_⟩
  · subst e
    exact (h.core.typ hk h.box).2.2 rfl
  · obtain ⟨_, _, C, T, hB, hT⟩ := h.sh.typ e
    have ht := h.core.typ hk hB
    rcases hT with e2 | e2
    · exact ht.1 e2
    · exact ht.2.1 e2
theorem PInv.coreStep {c' : CS} {v' : Value} (h : PInv S L a p cr w) (hc : Chg (a.core p.v) w w') (hC : Core S L a c' cr' v' w') (hv : ∀ j, v'.ownBlock = some j → p.v.ownBlock = some j ∨ w.heap.size ≤ j) : PInv S L a { p with c := c', v := v' } cr' w' ∧ PStp a p { p with c := c', v := v' } w w' := by
  refine ⟨⟨hC, h.sh.chg hc (fun k hk e => (h.apart e).2 hk), hc.blk h.box (fun e => (h.apart e).1 rfl), h.lo⟩, hc.mono (fun j _ e => Or.inr (Or.inl e)), ?_⟩
  rintro k (e | (e | (e | e | e | e)) | e)
  · exact Or.inl (Or.inl e)
  · exact Or.inl (Or.inr (Or.inl (Or.inl e)))
  · exact Or.inl (Or.inr (Or.inl (Or.inr (Or.inl e))))
  · exact Or.inl (Or.inr (Or.inl (Or.inr (Or.inr (Or.inl e)))))
  · exact Or.inl (Or.inr (Or.inl (Or.inr (Or.inr (Or.inr (Or.inl e))))))
  · rcases hv k e with h1 | h1
    · exact Or.inl (Or.inr (Or.inl (Or.inr (Or.inr (Or.inr (Or.inr h1))))))
    · exact Or.inr h1
  · exact Or.inl (Or.inr (Or.inr e))
/-- A step of the program's side. -/
theorem PInv.codeStep (h : PInv S L a p cr w) (i : Bool) (hc : Chg (fun k => k = a.hb ∨ k = a.mb ∨ k = a.l i) w w') {b' : BS} {s' : LS} (hb : Bk a.hb a.mb b' w') (hl : Blk w' (a.l i) s'.cs 71) : PInv S L a { p with c := p.c.put i b' s' } cr w' ∧ PStp a p { p with c := p.c.put i b' s' } w w' := by
  have hC := h.core.codeStep i hc hb hl
  have hc' : Chg (a.core p.v) w w' := hc.mono (fun j _ e => Or.inl (by
    rcases e with e | e | e
    · exact Or.inl e
    · exact Or.inr (Or.inl e)
    · cases i
      · exact Or.inr (Or.inr (Or.inl e))
      · exact Or.inr (Or.inr (Or.inr e))))
  exact h.coreStep hc' hC (fun j e => Or.inl e)
/-- A step of the reference's side. -/
theorem PInv.refStep (h : PInv S L a p cr w) (i : Bool) {b' : BS} {s' : LS} (hp : RPost L a.rb (a.q i) p.v b' s' w w') : ∃ v', PInv S L a { p with v := v' } (cr.put i b' s') w' ∧ PStp a p { p with v := v' } w w' := by
  obtain ⟨v', hC, hv, hc⟩ := h.core.refStep i hp
  exact ⟨v', h.coreStep hc hC hv⟩
end
end Go.Proofs.YtkdndfdofhnagaaDoor
