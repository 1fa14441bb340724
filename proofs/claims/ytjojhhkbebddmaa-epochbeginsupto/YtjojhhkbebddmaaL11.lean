import Derived.Test.YtjojhhkbebddmaaL10
namespace Go.Proofs.Ytjojhhkbebddmaa
open Go.RowKit Go.PlainAid
set_option linter.unusedVariables false
set_option linter.unusedSimpArgs false
/-- Shelves of one kind, wherever they lie. -/
structure KFam (σ : Type) (L : Nat) (lt : Bool) where
  K : ∀ kb : Nat, Keeper σ L kb
  fr : ∀ kb, KFr (K kb)
  s0 : σ
  inv0 : ∀ (kb : Nat) (W : World), Blk W kb #[.bool lt, .slice none 0 0, .slice none 0 0, .slice none 0 0, .slice none 0 0, .slice none 0 0, .slice none 0 0] 76 → L ≤ kb → (K kb).Inv s0 W
  bl0 : ∀ (kb k : Nat), (K kb).bl s0 k → k = kb
  cnt0 : ∀ kb, (K kb).cnt s0 = 0
def earlyF (L : Nat) : KFam ES L false where
  K := early L
  fr := early_fr L
  s0 := ⟨.slice none 0 0, .slice none 0 0, .slice none 0 0, .slice none 0 0, [], []⟩
  inv0 kb W hB hl := show KE L kb _ W from ⟨hB, ⟨World.ownsRow_nil _ _ _ _, World.ownsRow_nil _ _ _ _, fun e he => (by cases he)⟩, ⟨World.ownsRow_nil _ _ _ _, World.ownsRow_nil _ _ _ _, fun e he => (by cases he)⟩, fun g e => (by cases e), fun e he => (by cases he), fun e he => (by cases he), hl⟩
  bl0 kb k hk := by
    have hk' : KB kb ⟨.slice none 0 0, .slice none 0 0, .slice none 0 0, .slice none 0 0, [], []⟩ k := hk
    rcases hk' with q | q | q
    · exact q
    · rcases q with q | q | ⟨x, hx, q⟩
      · cases q
      · cases q
      · cases hx
    · rcases q with q | q | ⟨x, hx, q⟩
      · cases q
      · cases q
      · cases hx
  cnt0 kb := rfl
/-- The parts of the whole walk. -/
def LS {σ : Type} {L : Nat} {lt : Bool} (F : KFam σ L lt) (kb ab : Nat) (s : σ) (A B : Sd) : List (Ent L) :=
  kE (F.K kb) (F.fr kb) s :: (A.L L ++ (B.L L ++ [boxE L ab #[.pointer (some ⟨A.pb, 0, none⟩), .pointer (some ⟨B.pb, 0, none⟩)] 70]))
section
variable {σ : Type} {L : Nat} {lt : Bool} {F : KFam σ L lt} {kb ab : Nat} {s : σ} {A B : Sd} {own0 : Nat → Prop} {w0 w : World}
theorem LS.arr (h : AS own0 w0 (LS F kb ab s A B) w) : Blk w ab #[.pointer (some ⟨A.pb, 0, none⟩), .pointer (some ⟨B.pb, 0, none⟩)] 70 := (h.get (e := boxE L ab #[.pointer (some ⟨A.pb, 0, none⟩), .pointer (some ⟨B.pb, 0, none⟩)] 70) (by simp [LS])).1
theorem LS.sw (h : AS own0 w0 (LS F kb ab s A B) w) : AS own0 w0 (kE (F.K kb) (F.fr kb) s :: (B.L L ++ (A.L L ++ [boxE L ab #[.pointer (some ⟨A.pb, 0, none⟩), .pointer (some ⟨B.pb, 0, none⟩)] 70]))) w := by
  refine h.perm (List.Perm.cons _ ?_)
  rw [← List.append_assoc, ← List.append_assoc]
  exact List.Perm.append_right _ List.perm_append_comm
theorem LS.un (h : AS own0 w0 (kE (F.K kb) (F.fr kb) s :: (B.L L ++ (A.L L ++ [boxE L ab #[.pointer (some ⟨A.pb, 0, none⟩), .pointer (some ⟨B.pb, 0, none⟩)] 70]))) w) : AS own0 w0 (LS F kb ab s A B) w := by
  refine h.perm (List.Perm.cons _ ?_)
  rw [← List.append_assoc, ← List.append_assoc]
  exact List.Perm.append_right _ List.perm_append_comm
end
/-- A side's round: what is known of it ahead, and what it does. -/
theorem side_cells {L : Nat} {own0 : Nat → Prop} {w0 w : World} {e : Ent L} {A : Sd} {Q : List (Ent L)} (h : AS own0 w0 (e :: (A.L L ++ Q)) w) : (∃ p, A = .no p ∧ w.cell? ⟨p, 0, none⟩ = some (.pointer none)) ∨ ∃ p mb cb x g r, A = .yes p mb cb x g r ∧ w.cell? ⟨p, 0, none⟩ = some (.pointer (some ⟨mb, 0, none⟩)) ∧ w.cell? ⟨p, 1, none⟩ = some (.pointer (some ⟨g.rb, 0, none⟩)) := by
  cases A with
  | no p =>
    refine .inl ⟨p, rfl, ?_⟩
    exact (h.get (e := boxE L p #[.pointer none, .pointer none] 69) (by simp [Sd.L])).1.cell 0
  | yes p mb cb x g r =>
    have hb := (h.get (e := boxE L p #[.pointer (some ⟨mb, 0, none⟩), .pointer (some ⟨g.rb, 0, none⟩)] 69) (by simp [Sd.L])).1
    exact .inr ⟨p, mb, cb, x, g, r, rfl, hb.cell 0, hb.cell 1⟩
theorem side_play {σ : Type} {L : Nat} {lt : Bool} {F : KFam σ L lt} {kb p mb cb : Nat} {s : σ} {x : EV} {g : RG} {r : RV} {Q : List (Ent L)} {own0 : Nat → Prop} {w0 : World} {n : Nat} (c : Cl) (w : World) (h : AS own0 w0 (kE (F.K kb) (F.fr kb) s :: ((Sd.yes p mb cb x g r).L L ++ Q)) w) (hok : (Sd.yes p mb cb x g r).ok n) (hn : n ≤ 900000000) (hc : (F.K kb).cnt s ≤ 900000000000) : Calls Try.prog 27 #[.pointer (some ⟨p, 0, none⟩), .agg c.cells, .pointer (some ⟨kb, 0, none⟩)] w fun e w' => e = .returned (.bool true) ∧ ∃ (s' : σ) (A' : Sd), A'.pb = p ∧ A'.ok (n + 4) ∧ AS own0 w0 (kE (F.K kb) (F.fr kb) s' :: (A'.L L ++ Q)) w' ∧ (F.K kb).cnt s' ≤ (F.K kb).cnt s + 36 := by
  obtain ⟨h1, h2, h3⟩ := hok
  refine (played_any (K := F.K kb) (hK := F.fr kb) c w h h1 h2 (by omega) (by omega)).mono ?_
  rintro e w' ⟨rfl, s', x', g', r', h4, h5, h6, h7, h8⟩
  exact ⟨rfl, s', .yes p mb cb x' g' r', rfl, ⟨h6, h7, by omega⟩, h4, h5⟩
end Go.Proofs.Ytjojhhkbebddmaa
