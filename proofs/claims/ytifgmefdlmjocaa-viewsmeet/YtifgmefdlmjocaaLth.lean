import Derived.Test.YtifgmefdlmjocaaTk0
namespace Go.Proofs.Ytifgmefdlmjocaa
set_option linter.unusedVariables false
set_option linter.unusedSimpArgs false
theorem mem_putE {e x : Ent} : ∀ {L : List Ent}, x ∈ putE e L → x = e ∨ x ∈ L
  | [], h => by simp [putE] at h; exact Or.inl h
  | y :: t, h => by
    unfold putE at h
    split at h
    · rcases List.mem_cons.1 h with h | h
      · exact Or.inl h
      · exact Or.inr (List.mem_cons_of_mem _ h)
    · rcases List.mem_cons.1 h with h | h
      · exact Or.inr (h ▸ List.mem_cons_self)
      · rcases mem_putE h with h | h
        · exact Or.inl h
        · exact Or.inr (List.mem_cons_of_mem _ h)
theorem putE_mem (e : Ent) : ∀ L : List Ent, e ∈ putE e L
  | [] => by simp [putE]
  | y :: t => by
    unfold putE
    split
    · simp
    · exact List.mem_cons_of_mem _ (putE_mem e t)
theorem putE_old {e x : Ent} : ∀ {L : List Ent}, x ∈ L → x ∈ putE e L ∨ (x.r = e.r ∧ x.n = e.n)
  | y :: t, h => by
    unfold putE
    split
    · rename_i hk
      rcases List.mem_cons.1 h with h | h
      · subst h
        have := isK_iff.1 hk
        exact Or.inr ⟨this.1.symm, this.2.symm⟩
      · exact Or.inl (List.mem_cons_of_mem _ h)
    · rcases List.mem_cons.1 h with h | h
      · exact Or.inl (h ▸ List.mem_cons_self)
      · rcases putE_old h with h | h
        · exact Or.inl (List.mem_cons_of_mem _ h)
        · exact Or.inr h
/-- Names are apart. -/
def NDn (L : List Ent) : Prop := L.Pairwise fun a b => a.n ≠ b.n
theorem NDn.put {e : Ent} : ∀ {L : List Ent}, NDn L → (∀ x ∈ L, x.r = e.r) → NDn (putE e L)
  | [], _, _ => by simp [NDn, putE]
  | y :: t, h, hr => by
    unfold NDn at h
    rw [List.pairwise_cons] at h
    unfold NDn putE
    split
    · rename_i hk
      rw [List.pairwise_cons]
      exact ⟨fun b hb => by rw [(isK_iff.1 hk).2]; exact h.1 b hb, h.2⟩
    · rename_i hk
      rw [List.pairwise_cons]
      refine ⟨fun b hb => ?_, NDn.put h.2 (fun x hx => hr x (List.mem_cons_of_mem _ hx))⟩
      rcases mem_putE hb with rfl | hb
      · intro e1
        exact hk (isK_iff.2 ⟨(hr y List.mem_cons_self).symm, e1.symm⟩)
      · exact h.1 b hb
theorem look_of {e : Ent} : ∀ {L : List Ent}, NDn L → e ∈ L → look e.r e.n L = some e
  | y :: t, h, he => by
    unfold NDn at h
    rw [List.pairwise_cons] at h
    unfold look
    rw [List.find?_cons]
    cases hk : isK e.r e.n y with
    | true =>
      simp only
      rcases List.mem_cons.1 he with rfl | he
      · rfl
      · exact absurd (isK_iff.1 hk).2.symm (h.1 e he)
    | false =>
      simp only
      rcases List.mem_cons.1 he with rfl | he
      · exact absurd (isK_iff.2 ⟨rfl, rfl⟩) (by rw [hk]; simp)
      · exact look_of (L := t) h.2 he
/-- What has been said so far: by replica 0, of the four names. -/
structure LI (k : Nat) (L : List Ent) : Prop where
  r : ∀ e ∈ L, e.r = 0
  nm : ∀ e ∈ L, ∃ j, j < 4 ∧ e.n = nm4 j
  v : ∀ e ∈ L, 1 ≤ e.v ∧ e.v ≤ k
  ok : ∀ e ∈ L, e.right = true
  nd : NDn L
theorem cnt_one (c : List UInt8) : ∀ {L : List Ent}, NDn L → L.countP (fun e => e.n == c) ≤ 1
  | [], _ => by simp
  | y :: t, h => by
    unfold NDn at h
    rw [List.pairwise_cons] at h
    rw [List.countP_cons]
    by_cases hy : y.n = c
    · have : t.countP (fun e => e.n == c) = 0 := by
        rw [List.countP_eq_zero]
        intro b hb
        have := h.1 b hb
        rw [hy] at this
        simpa using fun e => this e.symm
      rw [this]
      simp [hy]
    · have := cnt_one c (L := t) h.2
      simp [hy]
      exact this
theorem len_four : ∀ (L : List Ent), (∀ e ∈ L, ∃ j, j < 4 ∧ e.n = nm4 j) → L.length ≤ L.countP (fun e => e.n == nm4 0) + L.countP (fun e => e.n == nm4 1) + L.countP (fun e => e.n == nm4 2) + L.countP (fun e => e.n == nm4 3)
  | [], _ => by simp
  | y :: t, h => by
    have ih := len_four t (fun e he => h e (List.mem_cons_of_mem _ he))
    obtain ⟨j, hj, hy⟩ := h y List.mem_cons_self
    simp only [List.countP_cons, List.length_cons, hy]
    have h4 : j = 0 ∨ j = 1 ∨ j = 2 ∨ j = 3 := by omega
    rcases h4 with rfl | rfl | rfl | rfl <;> simp <;> omega
theorem LI.len {k : Nat} {L : List Ent} (h : LI k L) : L.length ≤ 4 := by
  have := len_four L h.nm
  have a := cnt_one (nm4 0) h.nd
  have b := cnt_one (nm4 1) h.nd
  have c := cnt_one (nm4 2) h.nd
  have d := cnt_one (nm4 3) h.nd
  omega
theorem said_right {j : Nat} (hj : j < 4) {v d u h : Int} (hv : 1 ≤ v) (hd : 0 ≤ d ∧ d < 31) (hu : 0 ≤ u ∧ u < 31) (hh : 0 ≤ h ∧ h < 31) : Ent.right ⟨0, nm4 j, 100, 0, v, d, u, h⟩ = true := by
  have hn : nameB (nm4 j) = true := by
    have h4 : j = 0 ∨ j = 1 ∨ j = 2 ∨ j = 3 := by omega
    rcases h4 with rfl | rfl | rfl | rfl <;> decide
  have f1 : ¬ (d < 0 ∨ 100 < d) := by omega
  have f2 : ¬ (u < 0 ∨ 100 - d < u) := by omega
  have f3 : ¬ (h < 0 ∨ 100 - d - u < h) := by omega
  simp [Ent.right, hn, hv, fitsL, f1, f2, f3]
theorem LI.code {k : Nat} {L : List Ent} (h : LI k L) {j : Nat} (hj : j < 4) {d u hh : Int} (hd : 0 ≤ d ∧ d < 31) (hu : 0 ≤ u ∧ u < 31) (hhh : 0 ≤ hh ∧ hh < 31) : tellCode 0 L ⟨0, nm4 j, 100, 0, 1, d, u, hh⟩ = 0 := by
  have hr := said_right hj (v := 1) (by decide) hd hu hhh
  have hc := cntR_le 0 L
  have hl := h.len
  unfold tellCode
  rw [if_neg (by rw [hr]; simp)]
  split
  · rfl
  · rw [if_neg (by omega)]
theorem LI.next {k : Nat} {L : List Ent} (h : LI k L) {j : Nat} (hj : j < 4) {d u hh : Int} (hd : 0 ≤ d ∧ d < 31) (hu : 0 ≤ u ∧ u < 31) (hhh : 0 ≤ hh ∧ hh < 31) :
    LI (k + 1) (tellNext 0 L ⟨0, nm4 j, 100, 0, 1, d, u, hh⟩) ∧ ∀ e ∈ L, ∃ e' ∈ tellNext 0 L ⟨0, nm4 j, 100, 0, 1, d, u, hh⟩, e'.n = e.n ∧ e.v ≤ e'.v := by
  have hr := said_right hj (v := 1) (by decide) hd hu hhh
  have up : LI (k + 1) L := ⟨h.r, h.nm, fun e he => ⟨(h.v e he).1, by have := (h.v e he).2; omega⟩, h.ok, h.nd⟩
  have key : ∀ v : Int, 1 ≤ v → v ≤ (k : Int) + 1 → (∀ e ∈ L, e.n = nm4 j → e.v ≤ v) → LI (k + 1) (putE ⟨0, nm4 j, 100, 0, v, d, u, hh⟩ L) ∧ ∀ e ∈ L, ∃ e' ∈ putE ⟨0, nm4 j, 100, 0, v, d, u, hh⟩ L, e'.n = e.n ∧ e.v ≤ e'.v := fun v v1 v2 hold => by
    refine ⟨⟨fun e he => ?_, fun e he => ?_, fun e he => ?_, fun e he => ?_, h.nd.put (fun x hx => h.r x hx)⟩, fun e he => ?_⟩
    · rcases mem_putE he with rfl | he
      · rfl
      · exact h.r e he
    · rcases mem_putE he with rfl | he
      · exact ⟨j, hj, rfl⟩
      · exact h.nm e he
    · rcases mem_putE he with rfl | he
      · exact ⟨v1, by show v ≤ _; omega⟩
      · exact up.v e he
    · rcases mem_putE he with rfl | he
      · exact said_right hj v1 hd hu hhh
      · exact h.ok e he
    · rcases putE_old (e := ⟨0, nm4 j, 100, 0, v, d, u, hh⟩) he with h1 | ⟨_, h1⟩
      · exact ⟨e, h1, rfl, Int.le_refl _⟩
      · exact ⟨_, putE_mem _ L, h1.symm, hold e he h1⟩
  unfold tellNext
  rw [if_neg (by rw [hr]; simp)]
  split
  · rename_i hs
    split
    · exact ⟨up, fun e he => ⟨e, he, rfl, Int.le_refl _⟩⟩
    · obtain ⟨l0, hl0⟩ := Option.isSome_iff_exists.1 hs
      have hm := List.mem_of_find?_eq_some hl0
      have hlD : lookD 0 (nm4 j) L = l0 := by unfold lookD; rw [hl0]; rfl
      have hk := isK_iff.1 (List.find?_some hl0)
      have hv := h.v l0 hm
      simp only [hlD]
      refine key (l0.v + 1) (by omega) (by omega) (fun e he hen => ?_)
      have := look_of h.nd he
      rw [h.r e he, hen] at this
      have e2 : look 0 (nm4 j) L = some l0 := hl0
      rw [e2] at this
      cases this
      omega
  · rename_i hs
    split
    · exact ⟨up, fun e he => ⟨e, he, rfl, Int.le_refl _⟩⟩
    · refine key 1 (by decide) (by omega) (fun e he hen => ?_)
      have := look_of h.nd he
      rw [h.r e he, hen] at this
      exact absurd (by rw [this]; rfl) hs
end Go.Proofs.Ytifgmefdlmjocaa
