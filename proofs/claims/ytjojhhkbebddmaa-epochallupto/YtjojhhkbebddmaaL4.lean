import Derived.Test.YtjojhhkbebddmaaL3
import Derived.Test.YtjojhhkbebddmaaL2
import Derived.Test.YtjojhhkbebddmaaShW
namespace Go.Proofs.Ytjojhhkbebddmaa
open Go.RowKit Go.PlainAid
set_option linter.unusedVariables false
set_option linter.unusedSimpArgs false
/-- A shelf, by what it does. -/
structure Keeper (σ : Type) (L kb : Nat) where
  Inv : σ → World → Prop
  bl : σ → Nat → Prop
  cnt : σ → Nat
  lt : ∀ {s w k}, Inv s w → bl s k → L ≤ k ∧ k < w.heap.size
  low : ∀ {s w}, Inv s w → L ≤ w.heap.size
  frame : ∀ {s w w2} {B : Nat → Prop}, Inv s w → Chg B w w2 → (∀ k, bl s k → ¬ B k) → Inv s w2
  putA : ∀ {s w l} {al : List Ac}, Inv s w → w.ownsRow L 56 6 l al.length (flatA al) → (∀ g, l.ownBlock = some g → ¬ bl s g) → al.length ≤ 1000000 → cnt s ≤ 1000000000000 →
    Calls Try.prog 54 #[.pointer (some ⟨kb, 0, none⟩), l] w fun r w' => r = .returned (.tuple #[]) ∧ ∃ s', Inv s' w' ∧ cnt s' ≤ cnt s + 18 ∧ Chg (fun k => bl s k ∨ l.ownBlock = some k) w w' ∧ ∀ k, bl s' k → bl s k ∨ l.ownBlock = some k ∨ w.heap.size ≤ k
  putE : ∀ {s w l} {es : List Ep}, Inv s w → w.ownsRow L 49 2 l es.length (flatE es) → (∀ g, l.ownBlock = some g → ¬ bl s g) → es.length ≤ 1000000 → cnt s ≤ 1000000000000 →
    Calls Try.prog 79 #[.pointer (some ⟨kb, 0, none⟩), l] w fun r w' => r = .returned (.tuple #[]) ∧ ∃ s', Inv s' w' ∧ cnt s' ≤ cnt s + 18 ∧ Chg (fun k => bl s k ∨ l.ownBlock = some k) w w' ∧ ∀ k, bl s' k → bl s k ∨ l.ownBlock = some k ∨ w.heap.size ≤ k
  whole : ∀ {s w}, Inv s w → cnt s ≤ 50000000000 → Calls Try.prog 28 #[.pointer (some ⟨kb, 0, none⟩)] w fun r w' => r = .returned (.bool true) ∧ Chg (bl s) w w'
/-- The shelf that writes over at once. -/
def early (L kb : Nat) : Keeper ES L kb where
  Inv s w := KE L kb s w
  bl s := KB kb s
  cnt s := s.e.length + s.r.length
  lt h hk := h.lt hk
  low h := Nat.le_trans h.lk (Nat.le_of_lt h.blk.lt)
  frame h hc hB := h.frame hc hB
  putA h hl hap hn hc := putA_any _ h hl hap hn (by omega)
  putE h hl hap hn hc := putE_any _ h hl hap hn (by omega)
  whole h hc := (whole_early _ h).mono fun r w' ⟨h1, q, h2⟩ => ⟨h1, by rw [h2]; exact (Chg.refl _ _).drewN q⟩
/-- The parts that are held. -/
def mE (L mb cb : Nat) (x : EV) : Ent L where
  bl := mown mb cb
  P := fun w => MM L mb cb x [] w
  fr := fun w w' h hP => by
    obtain ⟨s, r, h1⟩ := hP.c
    exact ⟨(h mb (.inl rfl)).trans hP.b, ⟨s, r, (h cb (.inr rfl)).trans h1⟩, hP.lo⟩
  lo := fun w hP g hg => hP.lt hg
def rE (L : Nat) (g : RG) (r : RV) : Ent L where
  bl := rown g
  P := fun w => RM L g r w
  fr := fun w w' h hP => ⟨(h g.rb (.inl rfl)).trans hP.b, ownsRow_same hP.k (fun q e => h q (.inr (.inl e))), ownsRow_same hP.o (fun q e => h q (.inr (.inr (.inl e)))), ownsRow_same hP.t (fun q e => h q (.inr (.inr (.inr e)))), hP.dj, hP.lo⟩
  lo := fun w hP k hk => hP.lt hk
/-- A shelf; what it holds is framed by what the keeper says. -/
structure KFr {σ : Type} {L kb : Nat} (K : Keeper σ L kb) : Prop where
  fr : ∀ (s : σ) (w w' : World), (∀ g, K.bl s g → w'.heap[g]? = w.heap[g]?) → K.Inv s w → K.Inv s w'
def kE {σ : Type} {L kb : Nat} (K : Keeper σ L kb) (hK : KFr K) (s : σ) : Ent L where
  bl := K.bl s
  P := fun w => K.Inv s w
  fr := fun w w' h hP => hK.fr s w w' h hP
  lo := fun w hP g hg => K.lt hP hg
theorem KF.fr {F : Fam} {L : Nat} {vI vM : Value} {es ms : List Lst} {w w2 : World} (h : KF F L vI vM es ms w) (hs : ∀ k, KFB vI vM es k → w2.heap[k]? = w.heap[k]?) : KF F L vI vM es ms w2 :=
  ⟨ownsRow_same h.xi (fun g e => hs g (.inl e)), ownsRow_same h.xm (fun g e => hs g (.inr (.inl e))), fun x hx => ownsRow_same (h.en x hx) (fun g e => hs g (.inr (.inr ⟨x, hx, e⟩)))⟩
theorem early_fr (L kb : Nat) : KFr (early L kb) := ⟨fun s w w' h (hP : KE L kb s w) => show KE L kb s w' from ⟨(h kb (.inl rfl)).trans hP.blk, hP.b.fr (fun k hk => h k (.inr (.inl hk))), hP.v.fr (fun k hk => h k (.inr (.inr hk))), hP.mm, hP.mb, hP.mv, hP.lk⟩⟩
section
variable {L : Nat} {own0 : Nat → Prop} {w0 : World} {es es' pre post R : List (Ent L)} {e e' e1 e2 : Ent L} {w w' : World} {A : Nat → Prop}
theorem AS.at (h : AS own0 w0 (pre ++ e :: post) w) (hc : Chg (fun k => e.bl k) w w') (hP : e'.P w') (hu : ∀ k, e'.bl k → e.bl k ∨ w.heap.size ≤ k) : AS own0 w0 (pre ++ e' :: post) w' :=
  ((h.perm List.perm_middle).swap hc hP hu).perm List.perm_middle.symm
/-- Two parts become one. -/
theorem AS.merge (h : AS own0 w0 (e1 :: e2 :: R) w) (hc : Chg (fun k => e1.bl k ∨ e2.bl k) w w') (hP : e'.P w') (hu : ∀ k, e'.bl k → e1.bl k ∨ e2.bl k ∨ w.heap.size ≤ k) : AS own0 w0 (e' :: R) w' := by
  have hR := h.h.drop.drop
  have hap : ∀ k, e1.bl k ∨ e2.bl k → ¬ has R k := fun k hk hh => by
    rcases hk with q | q
    · exact h.h.apart q (has_cons.2 (.inr hh))
    · exact h.h.drop.apart q hh
  refine ⟨(hR.chg hc (fun k hk e => hap k e hk)).add hP fun k hk hh => ?_, h.chg.trans hc (fun j hj hb => ?_), fun k hk => ?_⟩
  · rcases hu k hk with q | q | q
    · exact hap k (.inl q) hh
    · exact hap k (.inr q) hh
    · have := (hR.typ hh).2; omega
  · rcases h.new j (by rcases hb with q | q; exact has_cons.2 (.inl q); exact has_cons.2 (.inr (has_cons.2 (.inl q)))) with q | q
    · exact q
    · omega
  · rcases has_cons.1 hk with q | q
    · rcases hu k q with q | q | q
      · exact h.new k (has_cons.2 (.inl q))
      · exact h.new k (has_cons.2 (.inr (has_cons.2 (.inl q))))
      · exact .inr (Nat.le_trans h.chg.size q)
    · exact h.new k (has_cons.2 (.inr (has_cons.2 (.inr q))))
/-- A row that came with a step, whose blocks lie above where the step began. -/
theorem AS.row {T sz n : Nat} {v : Value} {xs : List Value} {b0 : Nat} (h : AS own0 w0 es w) (hl : ∀ k, has es k → k < b0 ∨ ∃ c t, w.heap[k]? = some (.cells c t (0, 0)) ∧ t ≠ T) (hb : w0.heap.size ≤ b0) (hL : L ≤ b0) (hr : w.ownsRow b0 T sz v n xs) : AS own0 w0 (rowE L T sz v n xs :: es) w := by
  refine ⟨h.h.add (ownsRow_mono hr hL) fun k hk hh => ?_, h.chg, fun k hk => ?_⟩
  · have hk' : v.ownBlock = some k := hk
    rcases hl k hh with q | ⟨c, t, q1, q2⟩
    · have := (ownsRow_lt hr hk').1; omega
    · obtain ⟨c2, q3⟩ := ownsRow_type hr hk'
      rw [q3] at q1
      simp only [Option.some.injEq, Obj.cells.injEq] at q1
      exact q2 q1.2.1.symm
  · rcases has_cons.1 hk with q | q
    · have := (ownsRow_lt hr (show v.ownBlock = some k from q)).1
      exact .inr (by omega)
    · exact h.new k q
end
end Go.Proofs.Ytjojhhkbebddmaa
