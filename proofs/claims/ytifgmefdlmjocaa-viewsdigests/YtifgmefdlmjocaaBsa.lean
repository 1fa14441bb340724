import Derived.Test.YtifgmefdlmjocaaBs0
import Derived.Test.YtifgmefdlmjocaaApa
namespace Go.Proofs.Ytifgmefdlmjocaa
open Go.RowKit Go.PlainAid Go.MapKept
set_option linter.unusedVariables false
theorem BS.apart {L0 N M kb : Nat} {ps : List PX} {ds ks : Value} {us vs : List UU} {w : World} (h : BS L0 N M kb ps ds ks us vs w) (hM : M ≤ 1000) :
    Calls Try.prog 34 #[.pointer (some ⟨kb, 0, none⟩)] w fun e w' => e = .returned (.bool true) ∧ Below L0 w w' := by
  have hm1 : ∀ u ∈ us, u.mo = .slice none 0 0 := fun u hu => by obtain ⟨_, _, _, _, e⟩ := h.hu u hu; exact e
  have hm2 : ∀ u ∈ vs, u.mo = .slice none 0 0 := fun u hu => by obtain ⟨_, _, _, _, e⟩ := h.hv u hu; exact e
  obtain ⟨a1, a2⟩ := held_kPs (mkf := mR) (Y := []) (h.rr.sub (List.sublist_append_right _ _)) hm2 h.ksr (by decide) ⟨fun e he => (by cases he), List.Pairwise.nil⟩ (fun k ⟨e, he, _⟩ => by cases he)
  have a3 : ∀ k, has (kPs L0 44 2 109 mR ks 0 0 vs []) k → (∃ cu, Blk w k cu 44) ∨ (∃ cu, Blk w k cu 109) := fun k hk => by
    rcases a2 k hk with h1 | h1 | ⟨e, he, _⟩
    · exact Or.inl h1
    · exact Or.inr h1
    · cases he
  have b1 : Held (boxP L0 kb #[ds, ks] 90 :: kPs L0 44 2 109 mR ks 0 0 vs []) w := a1.add ⟨h.kbx, h.kbl⟩ (fun k hk hh => by
    have hk : k = kb := hk
    subst hk
    rcases a3 _ hh with ⟨cu, hcu⟩ | ⟨cu, hcu⟩
    · exact h.kbx.ne_t hcu (by decide) rfl
    · exact h.kbx.ne_t hcu (by decide) rfl)
  obtain ⟨c1, c2⟩ := held_kPs (mkf := mV) (Y := boxP L0 kb #[ds, ks] 90 :: kPs L0 44 2 109 mR ks 0 0 vs []) (h.rv.sub (List.sublist_append_right _ _)) hm1 h.dsr (by decide) b1 (fun k hk => by
    rcases has_cons.1 hk with hk | hk
    · have hk : k = kb := hk
      subst hk
      exact ⟨_, _, h.kbx, by decide, by decide⟩
    · rcases a3 _ hk with ⟨cu, hcu⟩ | ⟨cu, hcu⟩
      · exact ⟨_, _, hcu, by decide, by decide⟩
      · exact ⟨_, _, hcu, by decide, by decide⟩)
  refine (apart_any w c1 h.hu h.hv (Nat.le_trans h.ul hM) (Nat.le_trans h.vl hM)).mono ?_
  rintro e w' ⟨rfl, hc⟩
  exact ⟨rfl, hc.below h.lo (fun k hk => (c1.typ hk).1)⟩
end Go.Proofs.Ytifgmefdlmjocaa
