import Derived.Test.YtjojhhkbebddmaaShP
namespace Go.Proofs.Ytjojhhkbebddmaa
open Go.RowKit Go.PlainAid
set_option linter.unusedVariables false
set_option linter.unusedSimpArgs false
/-- A part of memory, with what is known of it. -/
structure Ent (L : Nat) where
  bl : Nat → Prop
  P : World → Prop
  fr : ∀ w w' : World, (∀ g, bl g → w'.heap[g]? = w.heap[g]?) → P w → P w'
  lo : ∀ w : World, P w → ∀ g, bl g → L ≤ g ∧ g < w.heap.size
def Ent.Dj {L : Nat} (e e' : Ent L) : Prop := ∀ k, e.bl k → ¬ e'.bl k
theorem Ent.Dj.symm {L : Nat} {e e' : Ent L} (h : e.Dj e') : e'.Dj e := fun k h1 h2 => h k h2 h1
def has {L : Nat} (es : List (Ent L)) (k : Nat) : Prop := ∃ e ∈ es, e.bl k
structure Held {L : Nat} (es : List (Ent L)) (w : World) : Prop where
  all : ∀ e ∈ es, e.P w
  dj : es.Pairwise Ent.Dj
section
variable {L : Nat} {es es' R : List (Ent L)} {e e' : Ent L} {w w' : World} {A : Nat → Prop}
theorem Held.typ (h : Held es w) {k : Nat} (hk : has es k) : L ≤ k ∧ k < w.heap.size := by
  obtain ⟨e, he, hv⟩ := hk
  exact e.lo w (h.all e he) k hv
theorem Held.keep (h : Held es w) (hk : ∀ k, has es k → w'.heap[k]? = w.heap[k]?) : Held es w' := ⟨fun e he => e.fr w w' (fun g hg => hk g ⟨e, he, hg⟩) (h.all e he), h.dj⟩
theorem Held.chg (h : Held es w) (hc : Chg A w w') (hA : ∀ k, has es k → ¬ A k) : Held es w' := h.keep fun k hk => hc.block k (h.typ hk).2 (hA k hk)
theorem Held.more (h : Held es w) (hb : Below w.heap.size w w') : Held es w' := h.keep fun k hk => hb.block k (h.typ hk).2
theorem Held.perm (h : Held es w) (hp : es.Perm es') : Held es' w := ⟨fun e he => h.all e (hp.mem_iff.2 he), (hp.pairwise_iff (fun h => h.symm)).1 h.dj⟩
theorem has_perm (hp : es.Perm es') {k : Nat} : has es k ↔ has es' k := ⟨fun ⟨e, he, hv⟩ => ⟨e, hp.mem_iff.1 he, hv⟩, fun ⟨e, he, hv⟩ => ⟨e, hp.mem_iff.2 he, hv⟩⟩
theorem Held.drop (h : Held (e :: R) w) : Held R w := ⟨fun x hx => h.all x (List.mem_cons_of_mem _ hx), (List.pairwise_cons.1 h.dj).2⟩
theorem Held.apart (h : Held (e :: R) w) {k : Nat} (hk : e.bl k) : ¬ has R k := fun ⟨x, hx, hv⟩ => (List.pairwise_cons.1 h.dj).1 x hx k hk hv
theorem Held.add (h : Held R w) (hP : e.P w) (hn : ∀ k, e.bl k → ¬ has R k) : Held (e :: R) w := by
  refine ⟨fun x hx => ?_, List.pairwise_cons.2 ⟨fun x hx k h1 h2 => hn k h1 ⟨x, hx, h2⟩, h.dj⟩⟩
  rcases List.mem_cons.1 hx with rfl | hx
  · exact hP
  · exact h.all x hx
theorem Held.swap (h : Held (e :: R) w) (hc : Chg (fun k => e.bl k) w w') (hP : e'.P w') (hu : ∀ k, e'.bl k → e.bl k ∨ w.heap.size ≤ k) : Held (e' :: R) w' := by
  have hR := h.drop
  refine (hR.chg hc (fun k hk e => h.apart e hk)).add hP fun k hk => ?_
  rcases hu k hk with h1 | h1
  · exact h.apart h1
  · intro h2
    have := (hR.typ h2).2
    omega
theorem has_cons {k : Nat} : has (e :: R) k ↔ e.bl k ∨ has R k := by
  constructor
  · rintro ⟨x, hx, hv⟩
    rcases List.mem_cons.1 hx with rfl | hx
    · exact Or.inl hv
    · exact Or.inr ⟨x, hx, hv⟩
  · rintro (h | ⟨x, hx, hv⟩)
    · exact ⟨e, List.mem_cons_self .., h⟩
    · exact ⟨x, List.mem_cons_of_mem _ hx, hv⟩
end
/-- What is held within a call that began at w0 with the blocks own0. -/
structure AS {L : Nat} (own0 : Nat → Prop) (w0 : World) (es : List (Ent L)) (w : World) : Prop where
  h : Held es w
  chg : Chg own0 w0 w
  new : ∀ k, has es k → own0 k ∨ w0.heap.size ≤ k
section
variable {L : Nat} {own0 : Nat → Prop} {w0 : World} {es es' R : List (Ent L)} {e e' : Ent L} {w w' : World} {A : Nat → Prop}
theorem AS.perm (h : AS own0 w0 es w) (hp : es.Perm es') : AS own0 w0 es' w := ⟨h.h.perm hp, h.chg, fun k hk => h.new k ((has_perm hp).2 hk)⟩
theorem AS.more (h : AS own0 w0 es w) (hb : Below w.heap.size w w') : AS own0 w0 es w' := ⟨h.h.more hb, h.chg.trans (Chg.ofBelow (fun _ => False) hb) (fun _ _ e => e.elim), h.new⟩
theorem AS.swap (h : AS own0 w0 (e :: R) w) (hc : Chg (fun k => e.bl k) w w') (hP : e'.P w') (hu : ∀ k, e'.bl k → e.bl k ∨ w.heap.size ≤ k) : AS own0 w0 (e' :: R) w' := by
  refine ⟨h.h.swap hc hP hu, h.chg.trans hc (fun j hj hb => ?_), fun k hk => ?_⟩
  · rcases h.new j (has_cons.2 (Or.inl hb)) with h1 | h1
    · exact h1
    · omega
  · rcases has_cons.1 hk with h1 | h1
    · rcases hu k h1 with h2 | h2
      · exact h.new k (has_cons.2 (Or.inl h2))
      · exact Or.inr (Nat.le_trans h.chg.size h2)
    · exact h.new k (has_cons.2 (Or.inr h1))
theorem AS.drop (h : AS own0 w0 (e :: R) w) : AS own0 w0 R w := ⟨h.h.drop, h.chg, fun k hk => h.new k (has_cons.2 (Or.inr hk))⟩
/-- Something new, that lies above where another world ended. -/
theorem AS.fresh (h : AS own0 w0 R w) (hb : Below w.heap.size w w') (hP : e.P w') (hn : ∀ k, e.bl k → w.heap.size ≤ k) : AS own0 w0 (e :: R) w' := by
  have h1 := h.more hb
  refine ⟨h1.h.add hP (fun k hk hh => ?_), h1.chg, fun k hk => ?_⟩
  · have := (h.h.typ hh).2
    have := hn k hk
    omega
  · rcases has_cons.1 hk with h2 | h2
    · exact Or.inr (Nat.le_trans h.chg.size (hn k h2))
    · exact h.new k h2
theorem AS.head (h : AS own0 w0 (e :: R) w) : e.P w := h.h.all e (List.mem_cons_self ..)
theorem AS.get (h : AS own0 w0 es w) (he : e ∈ es) : e.P w := h.h.all e he
end
def rowE (L : Nat) (T : TypeId) (sz : Nat) (v : Value) (n : Nat) (xs : List Value) : Ent L where
  bl := fun k => v.ownBlock = some k
  P := fun w => w.ownsRow L T sz v n xs
  fr := fun w w' h hP => ownsRow_same hP h
  lo := fun w hP g hg => ownsRow_lt hP hg
def boxE (L pb : Nat) (C : Array Value) (T : TypeId) : Ent L where
  bl := fun k => k = pb
  P := fun w => Blk w pb C T ∧ L ≤ pb
  fr := fun w w' h hP => ⟨(h pb rfl).trans hP.1, hP.2⟩
  lo := fun w hP g hg => by subst hg; exact ⟨hP.2, hP.1.lt⟩
section
variable {L : Nat} {es pre post R : List (Ent L)} {e e' : Ent L} {w w' : World}
theorem Held.at (h : Held (pre ++ e :: post) w) (hc : Chg (fun k => e.bl k) w w') (hP : e'.P w') (hu : ∀ k, e'.bl k → e.bl k ∨ w.heap.size ≤ k) : Held (pre ++ e' :: post) w' :=
  ((h.perm List.perm_middle).swap hc hP hu).perm List.perm_middle.symm
theorem Held.get (h : Held es w) (he : e ∈ es) : e.P w := h.all e he
theorem Held.fresh (h : Held R w) (hb : Below w.heap.size w w') (hP : e.P w') (hn : ∀ k, e.bl k → w.heap.size ≤ k) : Held (e :: R) w' :=
  (h.more hb).add hP (fun k hk hh => by
    have := (h.typ hh).2
    have := hn k hk
    omega)
theorem Held.below (h : Held (pre ++ e :: post) w) (hc : Chg (fun k => e.bl k) w w') (hL : L ≤ w.heap.size) : Below L w w' := hc.below hL (fun k hk => ((h.all e (List.mem_append_right _ (List.mem_cons_self ..))) |> fun hp => (e.lo w hp k hk).1))
end
end Go.Proofs.Ytjojhhkbebddmaa
