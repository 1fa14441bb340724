import Derived.Test.YtdblbjcdnkiepaaPt0
namespace Go.Proofs.Ytdblbjcdnkiepaa
open Go.RowKit Go.PlainAid Go.MapKept
set_option linter.unusedVariables false
set_option linter.unusedSimpArgs false
/-- An answer in the book: the list, what it should be, what it has grown to; how long, which cells. -/
structure UU where
  l : Value
  w : Value
  mo : Value
  n : Nat
  xs : List Value
def flatU (us : List UU) : List Value := us.flatMap fun u => [u.l, u.w, u.mo]
theorem flatU_len : ∀ us : List UU, (flatU us).length = us.length * 3
  | [] => rfl
  | u :: t => by
    have := flatU_len t
    unfold flatU at *
    simp only [List.flatMap_cons, List.length_append, this, List.length_cons, List.length_nil]
    omega
theorem flatU_get : ∀ (us : List UU) (i j : Nat) (u : UU), us[i]? = some u → j < 3 → (flatU us)[i * 3 + j]? = [u.l, u.w, u.mo][j]?
  | [], i, j, u, h, _ => by simp at h
  | x :: t, 0, j, u, h, hj => by
    simp at h
    subst h
    show ([x.l, x.w, x.mo] ++ flatU t)[0 * 3 + j]? = _
    rw [Nat.zero_mul, Nat.zero_add, List.getElem?_append_left (by simpa using hj)]
  | x :: t, i + 1, j, u, h, hj => by
    have ih := flatU_get t i j u (by simpa using h) hj
    show ([x.l, x.w, x.mo] ++ flatU t)[(i + 1) * 3 + j]? = _
    rw [List.getElem?_append_right (by simp; omega), ← ih]
    congr 1
    simp
    omega
theorem flatU_mo : ∀ (us : List UU) (i : Nat) (u : UU) (x : Value), us[i]? = some u → (flatU us).set (i * 3 + 2) x = flatU (us.set i { u with mo := x })
  | [], i, u, x, h => by simp at h
  | y :: t, 0, u, x, h => by
    simp at h
    subst h
    rfl
  | y :: t, i + 1, u, x, h => by
    have ih := flatU_mo t i u x (by simpa using h)
    show ([y.l, y.w, y.mo] ++ flatU t).set ((i + 1) * 3 + 2) x = _
    rw [List.set_append_right _ _ (by simp; omega), List.set_cons_succ]
    show _ = [y.l, y.w, y.mo] ++ flatU (t.set i { u with mo := x })
    rw [← ih]
    congr 2
    simp
    omega
def uPt (L T sz : Nat) (mkf : Int → Nat → List Value) (a b i : Nat) (u : UU) : Pt L := unitP L T sz u.l u.n (if i < a then mkf (-1000 - (i : Int)) u.n else u.xs) u.mo (if i < b then u.n + 100 else 0) (if i < b then mkf (-1000 - (i : Int)) (u.n + 100) else [])
def wPt (L T sz : Nat) (u : UU) : Pt L := rowP L T sz u.w u.n u.xs
def uPs (L T sz : Nat) (mkf : Int → Nat → List Value) (a b : Nat) : Nat → List UU → List (Pt L)
  | _, [] => []
  | i, u :: t => uPt L T sz mkf a b i u :: uPs L T sz mkf a b (i + 1) t
section
variable {L T sz a b a' b' : Nat} {mkf : Int → Nat → List Value}
theorem uPs_split (u : UU) (B : List UU) : ∀ (A : List UU) (i : Nat), uPs L T sz mkf a b i (A ++ u :: B) = uPs L T sz mkf a b i A ++ uPt L T sz mkf a b (i + A.length) u :: uPs L T sz mkf a b (i + A.length + 1) B
  | [], i => rfl
  | x :: t, i => by
    have ih := uPs_split u B t (i + 1)
    show uPt L T sz mkf a b i x :: uPs L T sz mkf a b (i + 1) (t ++ u :: B) = _
    rw [ih, show i + 1 + t.length = i + (x :: t).length from by simp; omega]
    rfl
theorem uPs_congr : ∀ (A : List UU) (i : Nat), (∀ j, i ≤ j → j < i + A.length → ((j < a) = (j < a')) ∧ ((j < b) = (j < b'))) → uPs L T sz mkf a b i A = uPs L T sz mkf a' b' i A
  | [], i, h => rfl
  | x :: t, i, h => by
    have ih := uPs_congr t (i + 1) (fun j h1 h2 => h j (by omega) (by simp at *; omega))
    have h0 := h i (Nat.le_refl _) (by simp)
    show uPt L T sz mkf a b i x :: _ = uPt L T sz mkf a' b' i x :: _
    rw [ih]
    congr 1
    unfold uPt
    simp only [h0.1, h0.2]
end
def boxP (L pb : Nat) (C : Array Value) (T : TypeId) : Pt L where
  bl := fun k => k = pb
  P := fun w => Blk w pb C T ∧ L ≤ pb
  fr := fun w w' h hP => ⟨(h pb rfl).trans hP.1, hP.2⟩
  lo := fun w hP g hg => by subst hg; exact ⟨hP.2, hP.1.lt⟩
/-- The book's lists of one kind, and all else. -/
def kPs (L T sz RT : Nat) (mkf : Int → Nat → List Value) (sv : Value) (a b : Nat) (us : List UU) (Y : List (Pt L)) : List (Pt L) := uPs L T sz mkf a b 0 us ++ (rowP L RT 3 sv us.length (flatU us) :: (us.map (wPt L T sz) ++ Y))
theorem kPs_swap {L T sz RT T' sz' RT' a b a' b' : Nat} {mkf mkf' : Int → Nat → List Value} {sv sv' : Value} {us us' : List UU} {e : Pt L} :
    (kPs L T sz RT mkf sv a b us (e :: kPs L T' sz' RT' mkf' sv' a' b' us' [])).Perm (kPs L T' sz' RT' mkf' sv' a' b' us' (e :: kPs L T sz RT mkf sv a b us [])) := by
  have h1 : ∀ {T sz RT a b : Nat} {mkf : Int → Nat → List Value} {sv : Value} {us : List UU} (Y : List (Pt L)), kPs L T sz RT mkf sv a b us Y = kPs L T sz RT mkf sv a b us [] ++ Y := fun Y => by simp [kPs]
  rw [h1 (e :: _), h1 (us := us') (e :: _)]
  refine (List.perm_middle).trans (List.Perm.trans ?_ List.perm_middle.symm)
  exact List.Perm.cons _ List.perm_append_comm
section
variable {L T sz RT a b : Nat} {mkf : Int → Nat → List Value} {sv : Value} {us : List UU} {Y : List (Pt L)} {own0 : Nat → Prop} {w0 w w' : World}
theorem split_at {α : Type} {l : List α} {i : Nat} {x : α} (h : l[i]? = some x) : l = l.take i ++ x :: l.drop (i + 1) := by
  obtain ⟨hl, rfl⟩ := List.getElem?_eq_some_iff.1 h
  rw [← List.drop_eq_getElem_cons hl, List.take_append_drop]
theorem uPs_mem {i : Nat} {u : UU} (h : us[i]? = some u) : uPt L T sz mkf a b i u ∈ uPs L T sz mkf a b 0 us := by
  have hl : i < us.length := (List.getElem?_eq_some_iff.1 h).1
  rw [split_at h, uPs_split, List.length_take, Nat.zero_add, Nat.min_eq_left (by omega)]
  simp
theorem kPs_unit {i : Nat} {u : UU} (h : AS own0 w0 (kPs L T sz RT mkf sv a b us Y) w) (hu : us[i]? = some u) : (uPt L T sz mkf a b i u).P w := h.get (List.mem_append.2 (Or.inl (uPs_mem hu)))
theorem kPs_row (h : AS own0 w0 (kPs L T sz RT mkf sv a b us Y) w) : w.ownsRow L RT 3 sv us.length (flatU us) := h.get (e := rowP L RT 3 sv us.length (flatU us)) (List.mem_append.2 (Or.inr (List.mem_cons_self ..)))
theorem kPs_w {u : UU} (h : AS own0 w0 (kPs L T sz RT mkf sv a b us Y) w) (hu : u ∈ us) : w.ownsRow L T sz u.w u.n u.xs := h.get (e := wPt L T sz u) (List.mem_append.2 (Or.inr (List.mem_cons_of_mem _ (List.mem_append.2 (Or.inl (List.mem_map.2 ⟨u, hu, rfl⟩))))))
theorem kPs_y {e : Pt L} (h : AS own0 w0 (kPs L T sz RT mkf sv a b us Y) w) (he : e ∈ Y) : e.P w := h.get (List.mem_append.2 (Or.inr (List.mem_cons_of_mem _ (List.mem_append.2 (Or.inr he)))))
/-- The rest, when the unit i is looked at. -/
def kRest (L T sz RT : Nat) (mkf : Int → Nat → List Value) (sv : Value) (a b i : Nat) (us : List UU) (Y : List (Pt L)) : List (Pt L) := uPs L T sz mkf a b 0 (us.take i) ++ (uPs L T sz mkf a b (i + 1) (us.drop (i + 1)) ++ (rowP L RT 3 sv us.length (flatU us) :: (us.map (wPt L T sz) ++ Y)))
theorem kPs_focus {i : Nat} {u : UU} (hu : us[i]? = some u) : (kPs L T sz RT mkf sv a b us Y).Perm (uPt L T sz mkf a b i u :: kRest L T sz RT mkf sv a b i us Y) := by
  have hl : i < us.length := (List.getElem?_eq_some_iff.1 hu).1
  have e1 : uPs L T sz mkf a b 0 us = uPs L T sz mkf a b 0 (us.take i) ++ uPt L T sz mkf a b i u :: uPs L T sz mkf a b (i + 1) (us.drop (i + 1)) := by
    conv => lhs; rw [split_at hu]
    rw [uPs_split, List.length_take, Nat.zero_add, Nat.min_eq_left (by omega)]
  unfold kPs kRest
  rw [e1, List.append_assoc, List.cons_append]
  exact List.perm_middle
/-- One unit more is marked. -/
theorem kRest_mark {i : Nat} (hi : i ≤ us.length) : kRest L T sz RT mkf sv i b i us Y = kRest L T sz RT mkf sv (i + 1) b i us Y := by
  unfold kRest
  rw [uPs_congr (a := i) (a' := i + 1) (b := b) (b' := b) (us.take i) 0 (fun j _ h2 => by rw [List.length_take] at h2; exact ⟨by simp; omega, rfl⟩), uPs_congr (a := i) (a' := i + 1) (b := b) (b' := b) (us.drop (i + 1)) (i + 1) (fun j h1 _ => ⟨by simp; omega, rfl⟩)]
end
end Go.Proofs.Ytdblbjcdnkiepaa
