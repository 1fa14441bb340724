import Derived.Test.YtgajmiibkakobaaMp
import Derived.Deep.Cut
namespace Go.Proofs.Ytgajmiibkakobaa
open Go.RowKit Go.PlainAid Go.MapKept
set_option linter.unusedVariables false
set_option linter.unusedSimpArgs false
theorem putM_mem {K V : Type} [DecidableEq K] {k : K} {v : V} {x : K × V} : ∀ {L : List (K × V)}, x ∈ Gm.putM k v L → x = (k, v) ∨ x ∈ L ∧ x.1 ≠ k ∨ (x ∈ L ∧ x.1 = k ∧ ¬ L.Pairwise (fun p q => p.1 ≠ q.1))
  | [], h => by simp [Gm.putM] at h; exact Or.inl h
  | y :: t, h => by
    by_cases e : k = y.1
    · simp only [Gm.putM, if_pos e, List.mem_cons] at h
      rcases h with h | h
      · exact Or.inl h
      · by_cases e2 : x.1 = k
        · refine Or.inr (Or.inr ⟨List.mem_cons_of_mem _ h, e2, fun hp => ?_⟩)
          exact (List.pairwise_cons.1 hp).1 x h (by rw [e2, e])
        · exact Or.inr (Or.inl ⟨List.mem_cons_of_mem _ h, e2⟩)
    · simp only [Gm.putM, if_neg e, List.mem_cons] at h
      rcases h with h | h
      · subst h
        exact Or.inr (Or.inl ⟨List.mem_cons_self .., fun e2 => e e2.symm⟩)
      · rcases putM_mem h with h | ⟨h, h2⟩ | ⟨h, h2, h3⟩
        · exact Or.inl h
        · exact Or.inr (Or.inl ⟨List.mem_cons_of_mem _ h, h2⟩)
        · exact Or.inr (Or.inr ⟨List.mem_cons_of_mem _ h, h2, fun hp => h3 (List.pairwise_cons.1 hp).2⟩)
theorem putM_in {K V : Type} [DecidableEq K] {k : K} {v : V} {x : K × V} {L : List (K × V)} (hk : L.Pairwise (fun p q => p.1 ≠ q.1)) (h : x ∈ Gm.putM k v L) : x = (k, v) ∨ x ∈ L ∧ x.1 ≠ k := by
  rcases putM_mem h with h | h | h
  · exact Or.inl h
  · exact Or.inr h
  · exact absurd hk h.2.2
theorem putM_kd {K V : Type} [DecidableEq K] {k : K} {v : V} : ∀ {L : List (K × V)}, L.Pairwise (fun p q => p.1 ≠ q.1) → (Gm.putM k v L).Pairwise (fun p q => p.1 ≠ q.1)
  | [], _ => by simp [Gm.putM]
  | y :: t, h => by
    have h1 := List.pairwise_cons.1 h
    by_cases e : k = y.1
    · simp only [Gm.putM, if_pos e]
      exact List.pairwise_cons.2 ⟨fun q hq => by rw [show ((k, v) : K × V).1 = y.1 from e]; exact h1.1 q hq, h1.2⟩
    · simp only [Gm.putM, if_neg e]
      refine List.pairwise_cons.2 ⟨fun q hq => ?_, putM_kd h1.2⟩
      rcases putM_in h1.2 hq with rfl | ⟨h2, _⟩
      · exact fun e2 => e e2.symm
      · exact h1.1 q h2
theorem putM_dj {n : List UInt8} {c : Ct} : ∀ {L : List (List UInt8 × Ct)}, L.Pairwise (fun p q => p.1 ≠ q.1) → L.Pairwise (fun p q => p.2.hb ≠ q.2.hb) → (∀ p ∈ L, p.1 ≠ n → p.2.hb ≠ c.hb) → (Gm.putM n c L).Pairwise (fun p q => p.2.hb ≠ q.2.hb)
  | [], _, _, _ => by simp [Gm.putM]
  | y :: t, hk, h, hn => by
    have h1 := List.pairwise_cons.1 h
    have k1 := List.pairwise_cons.1 hk
    by_cases e : n = y.1
    · simp only [Gm.putM, if_pos e]
      exact List.pairwise_cons.2 ⟨fun q hq e2 => hn q (List.mem_cons_of_mem _ hq) (fun e3 => k1.1 q hq (by rw [e3, e])) e2.symm, h1.2⟩
    · simp only [Gm.putM, if_neg e]
      refine List.pairwise_cons.2 ⟨fun q hq => ?_, putM_dj k1.2 h1.2 (fun p hp => hn p (List.mem_cons_of_mem _ hp))⟩
      rcases putM_in k1.2 hq with rfl | ⟨h2, _⟩
      · exact hn y (List.mem_cons_self ..) (fun e2 => e e2.symm)
      · exact h1.1 q h2
/-- Where a map's blocks lie: below L0. -/
def AM.lo (ab mb L0 : Nat) (L : List (List UInt8 × Ct)) : Prop := ab < L0 ∧ mb < L0 ∧ ∀ p ∈ L, ∀ hb, p.2.hb = some hb → hb < L0
theorem AM.lows {ab mb : Nat} {L : List (List UInt8 × Ct)} {w : World} (h : AM ab mb L w) : AM.lo ab mb w.heap.size L := ⟨h.box.lt, h.map.lt, fun p hp hb e => by
  obtain ⟨_, _, x, c, d, _⟩ := h.ct p hp
  rw [c] at e
  cases e
  exact d.lt⟩
/-- The counter n is put, its map of holds having changed alone. -/
theorem AM.put {ab mb L0 hb' : Nat} {L : List (List UInt8 × Ct)} {w V V2 : World} {n : List UInt8} {lim val held : Int} {H : List (Int × Int)} {hb0 : Option Nat} (h : AM ab mb L w) (hlo : AM.lo ab mb L0 L) (hL : L0 ≤ w.heap.size) (hok : (Ct.mk n lim val held (some hb') H).Ok)
    (hc : Chg (fun k => hb0 = some k ∨ L0 ≤ k) w V) (hI : HI V hb' H) (hh : hb0 = some hb' ∨ hb0 = none ∧ L0 ≤ hb') (h0 : ∀ k, hb0 = some k → ∃ c, (n, c) ∈ L ∧ c.hb = some k)
    (hm : Gm.HMap MC V2 mb (Gm.putM n ⟨n, lim, val, held, some hb', H⟩ L)) (hc2 : Chg (fun k => k = mb) V V2) : AM ab mb (Gm.putM n ⟨n, lim, val, held, some hb', H⟩ L) V2 := by
  have hmbhb : ∀ k, hb0 = some k → k ≠ mb := fun k hk => by
    obtain ⟨c, hc, hcb⟩ := h0 k hk
    obtain ⟨_, _, x, c1, _, e1⟩ := h.ct _ hc
    have : x = k := by simp only at c1; rw [hcb] at c1; exact (Option.some.inj c1).symm
    exact this ▸ e1
  have hne : hb' ≠ mb := by
    rcases hh with hh | ⟨_, hh⟩
    · exact hmbhb hb' hh
    · have := hlo.2.1; omega
  have hoth : ∀ p ∈ L, p.1 ≠ n → ∀ x, p.2.hb = some x → hb0 ≠ some x := fun p hp hpn x hx e => by
    obtain ⟨c, hcm, hcb⟩ := h0 x e
    have key : ∀ {L : List (List UInt8 × Ct)}, L.Pairwise (fun p q => p.2.hb ≠ q.2.hb) → p ∈ L → (n, c) ∈ L → p.2.hb = c.hb → p = (n, c) := fun {L} => by
      induction L with
      | nil => intro _ h; cases h
      | cons y t ih =>
        intro hd h1 h2 e
        have hd1 := List.pairwise_cons.1 hd
        rcases List.mem_cons.1 h1 with r1 | r1
        · rcases List.mem_cons.1 h2 with r2 | r2
          · rw [r1, r2]
          · exact absurd (by rw [← r1]; exact e) (hd1.1 _ r2)
        · rcases List.mem_cons.1 h2 with r2 | r2
          · exact absurd (by rw [← r2]; exact e.symm) (hd1.1 _ r1)
          · exact ih hd1.2 r1 r2 e
    have := key h.dj hp hcm (by rw [hx, hcb])
    exact hpn (by rw [this])
  refine ⟨hc2.blk (hc.blk h.box ?_) (h.map.ne_b h.box), hm, fun p hp => ?_, putM_dj h.kd h.dj (fun p hp hpn e => ?_), putM_kd h.kd⟩
  · rintro (e | e)
    · obtain ⟨c, hcm, hcb⟩ := h0 _ e
      obtain ⟨_, _, x, c1, d1, _⟩ := h.ct _ hcm
      have : x = ab := by simp only at c1; rw [hcb] at c1; exact (Option.some.inj c1).symm
      exact d1.ne_b h.box this.symm
    · have := hlo.1; omega
  · rcases putM_in h.kd hp with rfl | ⟨hp, hpn⟩
    · exact ⟨rfl, hok, hb', rfl, hI.same (hc2.block _ hI.lt hne), hne⟩
    · obtain ⟨a, b, x, c1, d1, e1⟩ := h.ct p hp
      have hx := hlo.2.2 p hp x c1
      have d2 : HI V x p.2.H := d1.same (hc.block _ d1.lt (fun e => e.elim (hoth p hp hpn x c1) (fun e => by omega)))
      exact ⟨a, b, x, c1, d2.same (hc2.block _ d2.lt e1), e1⟩
  · obtain ⟨a, b, x, c1, d1, e1⟩ := h.ct p hp
    have hx := hlo.2.2 p hp x c1
    rw [c1] at e
    have e2 : x = hb' := Option.some.inj e
    rcases hh with hh | ⟨_, hh⟩
    · exact hoth p hp hpn x c1 (by rw [hh, e2])
    · omega
end Go.Proofs.Ytgajmiibkakobaa
