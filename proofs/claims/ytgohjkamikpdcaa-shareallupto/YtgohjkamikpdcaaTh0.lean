import Derived.PlainAid
namespace Go.Proofs.Ytgohjkamikpdcaa
set_option linter.unusedVariables false
set_option linter.unusedSimpArgs false
/-! The theory of dealing out. -/
/-- The number at a place. -/
def at0 (l : List Int) (i : Nat) : Int := l.getD i 0
theorem at0_lt {l : List Int} {i : Nat} (h : i < l.length) : at0 l i = l[i] := by simp [at0, List.getD, h]
theorem at0_set {l : List Int} {i j : Nat} {v : Int} (h : i < l.length) : at0 (l.set i v) j = if j = i then v else at0 l j := by
  unfold at0
  simp only [List.getD_eq_getElem?_getD, List.getElem?_set]
  by_cases e : i = j
  · subst e; simp [h]
  · have e' : ¬ j = i := fun h => e h.symm
    simp [e, e']
theorem at0_map {l : List Int} (f : Int → Int) {i : Nat} (h : i < l.length) : at0 (l.map f) i = f (at0 l i) := by simp [at0, List.getD, h]
theorem ext_at0 {a b : List Int} (hl : a.length = b.length) (h : ∀ i, i < a.length → at0 a i = at0 b i) : a = b := by
  apply List.ext_getElem hl
  intro i h1 h2
  have := h i h1
  rwa [at0_lt h1, at0_lt h2] at this
/-- i gets what is left ahead of j. -/
def before (rs : List Int) (i j : Nat) : Prop := at0 rs j < at0 rs i ∨ (at0 rs i = at0 rs j ∧ i < j)
instance (rs : List Int) (i j : Nat) : Decidable (before rs i j) := by unfold before; infer_instance
theorem before_irrefl (rs : List Int) (i : Nat) : ¬ before rs i i := by unfold before; omega
theorem before_trans {rs : List Int} {i j k : Nat} (h1 : before rs i j) (h2 : before rs j k) : before rs i k := by unfold before at *; omega
theorem before_tot {rs : List Int} {i j : Nat} (h : i ≠ j) : before rs i j ∨ before rs j i := by unfold before; omega
/-- The places in the order in which they get what is left. -/
def ordF (n : Nat) (rs : List Int) : List (Fin n) := (List.finRange n).mergeSort fun x y => !decide (before rs y.val x.val)
def ord (rs : List Int) : List Nat := (ordF rs.length rs).map Fin.val
theorem ordF_perm (n : Nat) (rs : List Int) : (ordF n rs).Perm (List.finRange n) := List.mergeSort_perm _ _
theorem ord_perm (rs : List Int) : (ord rs).Perm (List.range rs.length) := by
  have h := (ordF_perm rs.length rs).map Fin.val
  have e : (List.finRange rs.length).map Fin.val = List.range rs.length := by
    apply List.ext_getElem
    · simp
    · intro i h1 h2; simp
  rwa [e] at h
theorem ord_length (rs : List Int) : (ord rs).length = rs.length := by have := (ord_perm rs).length_eq; simpa using this
theorem ord_mem {rs : List Int} {i : Nat} : i ∈ ord rs ↔ i < rs.length := by rw [(ord_perm rs).mem_iff]; simp
theorem ord_nodup (rs : List Int) : (ord rs).Nodup := (ord_perm rs).nodup_iff.mpr List.nodup_range
theorem ord_sorted (rs : List Int) : (ord rs).Pairwise (before rs) := by
  have h : (ordF rs.length rs).Pairwise fun x y => (!decide (before rs y.val x.val)) = true := by
    apply List.pairwise_mergeSort
    · intro a b c h1 h2
      simp only [Bool.not_eq_true', decide_eq_false_iff_not] at *
      unfold before at *; omega
    · intro a b
      simp only [Bool.or_eq_true, Bool.not_eq_true', decide_eq_false_iff_not]
      unfold before; omega
  have hn := ord_nodup rs
  unfold ord at *
  rw [List.pairwise_map]
  have hn' : (ordF rs.length rs).Pairwise fun x y => x.val ≠ y.val := by
    have := hn
    unfold List.Nodup at this
    rwa [List.pairwise_map] at this
  refine (h.and hn').imp ?_
  intro a b ⟨h1, h2⟩
  simp only [Bool.not_eq_true', decide_eq_false_iff_not] at h1
  rcases before_tot (rs := rs) h2 with h | h
  · exact h
  · exact absurd h h1
/-- One more at each of these places. -/
def bump (ps : List Int) (o : List Nat) : List Int := o.foldl (fun ps i => ps.set i (at0 ps i + 1)) ps
theorem bump_length (ps : List Int) (o : List Nat) : (bump ps o).length = ps.length := by
  unfold bump
  induction o generalizing ps with
  | nil => rfl
  | cons a o ih => simp only [List.foldl_cons]; rw [ih]; simp
theorem bump_snoc (ps : List Int) (o : List Nat) (a : Nat) : bump ps (o ++ [a]) = (bump ps o).set a (at0 (bump ps o) a + 1) := by
  unfold bump; rw [List.foldl_append]; rfl
theorem bump_at (ps : List Int) (o : List Nat) (hn : o.Nodup) (ho : ∀ a ∈ o, a < ps.length) (i : Nat) : at0 (bump ps o) i = at0 ps i + if i ∈ o then 1 else 0 := by
  induction o generalizing ps with
  | nil => simp [bump]
  | cons a o ih =>
    have e : bump ps (a :: o) = bump (ps.set a (at0 ps a + 1)) o := rfl
    rw [List.nodup_cons] at hn
    have ha := ho a (by simp)
    rw [e, ih _ hn.2 (fun b hb => by simp; exact ho b (by simp [hb])), at0_set ha]
    by_cases h1 : i = a
    · subst h1; simp [hn.1]
    · simp [h1]
/-- -1 at each of these places. -/
def mark (rs : List Int) (o : List Nat) : List Int := o.foldl (fun rs i => rs.set i (-1)) rs
theorem mark_length (ps : List Int) (o : List Nat) : (mark ps o).length = ps.length := by
  unfold mark
  induction o generalizing ps with
  | nil => rfl
  | cons a o ih => simp only [List.foldl_cons]; rw [ih]; simp
theorem mark_snoc (ps : List Int) (o : List Nat) (a : Nat) : mark ps (o ++ [a]) = (mark ps o).set a (-1) := by
  unfold mark; rw [List.foldl_append]; rfl
theorem mark_at (ps : List Int) (o : List Nat) (ho : ∀ a ∈ o, a < ps.length) (i : Nat) : at0 (mark ps o) i = if i ∈ o then -1 else at0 ps i := by
  induction o generalizing ps with
  | nil => simp [mark]
  | cons a o ih =>
    have e : mark ps (a :: o) = mark (ps.set a (-1)) o := rfl
    have ha := ho a (by simp)
    rw [e, ih _ (fun b hb => by simp; exact ho b (by simp [hb])), at0_set ha]
    by_cases h1 : i = a
    · subst h1; simp
    · simp [h1]
/-- The first of the greatest among the first k places. -/
structure Best (rs : List Int) (k b : Nat) : Prop where
  lt : b < rs.length
  in_ : b < k ∨ b = 0
  le : ∀ j, j < k → at0 rs j ≤ at0 rs b
  fst : ∀ j, j < b → at0 rs j < at0 rs b
theorem Best.zero {rs : List Int} (h : 0 < rs.length) : Best rs 0 0 := ⟨h, .inr rfl, fun _ h => absurd h (by omega), fun _ h => absurd h (by omega)⟩
theorem Best.yes {rs : List Int} {k b : Nat} (B : Best rs k b) (hk : k < rs.length) (h : at0 rs b < at0 rs k) : Best rs (k + 1) k :=
  ⟨hk, .inl (by omega), fun j hj => by
    by_cases e : j = k
    · subst e; omega
    · have := B.le j (by omega); omega, fun j hj => by have := B.le j hj; omega⟩
theorem Best.no {rs : List Int} {k b : Nat} (B : Best rs k b) (hk : k < rs.length) (h : ¬ at0 rs b < at0 rs k) : Best rs (k + 1) b :=
  ⟨B.lt, by have := B.in_; omega, fun j hj => by
    by_cases e : j = k
    · subst e; omega
    · exact B.le j (by omega), B.fst⟩
theorem take_snoc {α : Type} (l : List α) (k : Nat) (h : k < l.length) : l.take (k + 1) = l.take k ++ [l[k]] := by simp
/-- What the reference finds is the next one in order. -/
theorem best_is {rs : List Int} (h0 : ∀ i, i < rs.length → 0 ≤ at0 rs i) (k : Nat) (hk : k < (ord rs).length) (b : Nat) (B : Best (mark rs ((ord rs).take k)) rs.length b) : b = (ord rs)[k] := by
  have hm : ∀ i, at0 (mark rs ((ord rs).take k)) i = if i ∈ (ord rs).take k then -1 else at0 rs i := fun i => mark_at _ _ (fun a ha => ord_mem.mp (List.mem_of_mem_take ha)) i
  have hS := ord_sorted rs
  have hN := ord_nodup rs
  have hc : (ord rs)[k] ∈ ord rs := List.getElem_mem hk
  have hcl := ord_mem.mp hc
  have hbl : b < rs.length := by have := B.lt; rwa [mark_length] at this
  -- what is not among the first k and not the next comes behind it
  have hin : ∀ i, i < rs.length → i ∉ (ord rs).take k → i ≠ (ord rs)[k] → before rs ((ord rs)[k]) i := by
    intro i hi hni hne
    have := ord_mem.mpr hi
    obtain ⟨j, hj, rfl⟩ := List.getElem_of_mem this
    have hjk : ¬ j < k := fun h => hni (by rw [List.mem_take_iff_getElem]; exact ⟨j, by omega, rfl⟩)
    have hjk2 : j ≠ k := fun h => hne (by subst h; rfl)
    exact List.pairwise_iff_getElem.mp hS k j hk hj (by omega)
  have hcn : (ord rs)[k] ∉ (ord rs).take k := by
    rw [List.mem_take_iff_getElem]
    rintro ⟨j, hj, e⟩
    exact List.pairwise_iff_getElem.mp hN j k (by omega) hk (by omega) e
  have hcv := hm ((ord rs)[k])
  rw [if_neg hcn] at hcv
  have hle := B.le _ hcl
  have hc0 := h0 _ hcl
  have hbn : b ∉ (ord rs).take k := fun h => by
    have := hm b
    rw [if_pos h] at this
    omega
  have hbv := hm b
  rw [if_neg hbn] at hbv
  apply Classical.byContradiction
  intro hne
  have hb := hin b hbl hbn hne
  unfold before at hb
  rcases hb with h | ⟨h, h'⟩
  · omega
  · have := B.fst _ h'; omega
end Go.Proofs.Ytgohjkamikpdcaa
