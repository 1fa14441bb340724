import Derived.Test.YtifgmefdlmjocaaVwd
import Derived.Deep.Cut
namespace Go.Proofs.Ytifgmefdlmjocaa
open Go.RowKit Go.PlainAid Go.MapKept
set_option linter.unusedVariables false
/-- A part of memory, with what is known of it. -/
structure Pt (L : Nat) where
  bl : Nat → Prop
  P : World → Prop
  fr : ∀ w w' : World, (∀ g, bl g → w'.heap[g]? = w.heap[g]?) → P w → P w'
  lo : ∀ w : World, P w → ∀ g, bl g → L ≤ g ∧ g < w.heap.size
def Pt.Dj {L : Nat} (e e' : Pt L) : Prop := ∀ k, e.bl k → ¬ e'.bl k
theorem Pt.Dj.symm {L : Nat} {e e' : Pt L} (h : e.Dj e') : e'.Dj e := fun k h1 h2 => h k h2 h1
def has {L : Nat} (es : List (Pt L)) (k : Nat) : Prop := ∃ e ∈ es, e.bl k
structure Held {L : Nat} (es : List (Pt L)) (w : World) : Prop where
  all : ∀ e ∈ es, e.P w
  dj : es.Pairwise Pt.Dj
section
variable {L : Nat} {es es' R : List (Pt L)} {e e' : Pt L} {w w' : World} {A : Nat → Prop}
theorem Held.typ (h : Held es w) {k : Nat} (hk : has es k) : L ≤ k ∧ k < w.heap.size := by
  obtain ⟨e, he, hv⟩ := hk
  exact e.lo w (h.all e he) k hv
theorem Held.keep (h : Held es w) (hk : ∀ k, has es k → w'.heap[k]? = w.heap[k]?) : Held es w' := ⟨fun e he => e.fr w w' (fun g hg => hk g ⟨e, he, hg⟩) (h.all e he), h.dj⟩
theorem Held.chg (h : Held es w) (hc : Chg A w w') (hA : ∀ k, has es k → ¬ A k) : Held es w' := h.keep fun k hk => hc.block k (h.typ hk).2 (hA k hk)
theorem Held.more (h : Held es w) (hb : Below w.heap.size w w') : Held es w' := h.keep fun k hk => hb.block k (h.typ hk).2
theorem Held.perm (h : Held es w) (hp : es.Perm es') : Held es' w := ⟨fun e he => h.all e (hp.mem_iff.2 he), (hp.pairwise_iff (fun h => h.symm)).1 h.dj⟩
theorem has_perm (hp : es.Perm es') {k : Nat} : has es k ↔ has es' k := ⟨fun ⟨e, he, hv⟩ => ⟨e, hp.mem_iff.1 he, hv⟩, fun ⟨e, he, hv⟩ => ⟨e, hp.mem_iff.2 he, hv⟩⟩
theorem Held.drop (h : Held (e :: R) w) : Held R w := ⟨fun x hx => h.all x (List.mem_cons_of_mem _ hx), (List.pairwise_cons.1 h.dj).2⟩
theorem Held.apart (h : Held (e :: R) w) {k : Nat} (hk : e.bl k) : ¬ has R k := fun ⟨x, hx, hv⟩ => (List.pairwise_cons.1 h.dj).1 x hx k hk hv
theorem Held.add (h : Held R w) (hP : e.P w) (hn : ∀ k, e.bl k → ¬ has R k) : Held (e :: R) w := by
  refine ⟨fun x hx => ?_, List.pairwise_cons.2 ⟨fun x hx k h1 h2 => hn k h1 ⟨x, hx, h2⟩, h.dj⟩⟩
  rcases List.mem_cons.1 hx with rfl | hx
  · exact hP
  · exact h.all x hx
theorem Held.swap (h : Held (e :: R) w) (hc : Chg (fun k => e.bl k) w w') (hP : e'.P w') (hu : ∀ k, e'.bl k → e.bl k ∨ w.heap.size ≤ k) : Held (e' :: R) w' := by
  have hR := h.drop
  refine (hR.chg hc (fun k hk e => h.apart e hk)).add hP fun k hk => ?_
  rcases hu k hk with h1 | h1
  · exact h.apart h1
  · intro h2
    have := (hR.typ h2).2
    omega
theorem has_cons {k : Nat} : has (e :: R) k ↔ e.bl k ∨ has R k := by
  constructor
  · rintro ⟨x, hx, hv⟩
    rcases List.mem_cons.1 hx with rfl | hx
    · exact Or.inl hv
    · exact Or.inr ⟨x, hx, hv⟩
  · rintro (h | ⟨x, hx, hv⟩)
    · exact ⟨e, List.mem_cons_self .., h⟩
    · exact ⟨x, List.mem_cons_of_mem _ hx, hv⟩
end
/-- What is held within a call that began at w0 with the blocks own0. -/
structure AS {L : Nat} (own0 : Nat → Prop) (w0 : World) (es : List (Pt L)) (w : World) : Prop where
  h : Held es w
  chg : Chg own0 w0 w
  new : ∀ k, has es k → own0 k ∨ w0.heap.size ≤ k
section
variable {L : Nat} {own0 : Nat → Prop} {w0 : World} {es es' R : List (Pt L)} {e e' : Pt L} {w w' : World} {A : Nat → Prop}
theorem AS.perm (h : AS own0 w0 es w) (hp : es.Perm es') : AS own0 w0 es' w := ⟨h.h.perm hp, h.chg, fun k hk => h.new k ((has_perm hp).2 hk)⟩
theorem AS.more (h : AS own0 w0 es w) (hb : Below w.heap.size w w') : AS own0 w0 es w' := ⟨h.h.more hb, h.chg.trans (Chg.ofBelow (fun _ => False) hb) (fun _ _ e => e.elim), h.new⟩
theorem AS.swap (h : AS own0 w0 (e :: R) w) (hc : Chg (fun k => e.bl k) w w') (hP : e'.P w') (hu : ∀ k, e'.bl k → e.bl k ∨ w.heap.size ≤ k) : AS own0 w0 (e' :: R) w' := by
  refine ⟨h.h.swap hc hP hu, h.chg.trans hc (fun j hj hb => ?_), fun k hk => ?_⟩
  · rcases h.new j (has_cons.2 (Or.inl hb)) with h1 | h1
    · exact h1
    · omega
  · rcases has_cons.1 hk with h1 | h1
    · rcases hu k h1 with h2 | h2
      · exact h.new k (has_cons.2 (Or.inl h2))
      · exact Or.inr (Nat.le_trans h.chg.size h2)
    · exact h.new k (has_cons.2 (Or.inr h1))
theorem AS.drop (h : AS own0 w0 (e :: R) w) : AS own0 w0 R w := ⟨h.h.drop, h.chg, fun k hk => h.new k (has_cons.2 (Or.inr hk))⟩
/-- Something new, that lies above where another world ended. -/
theorem AS.fresh (h : AS own0 w0 R w) (hb : Below w.heap.size w w') (hP : e.P w') (hn : ∀ k, e.bl k → w.heap.size ≤ k) : AS own0 w0 (e :: R) w' := by
  have h1 := h.more hb
  refine ⟨h1.h.add hP (fun k hk hh => ?_), h1.chg, fun k hk => ?_⟩
  · have := (h.h.typ hh).2
    have := hn k hk
    omega
  · rcases has_cons.1 hk with h2 | h2
    · exact Or.inr (Nat.le_trans h.chg.size (hn k h2))
    · exact h.new k h2
theorem AS.head (h : AS own0 w0 (e :: R) w) : e.P w := h.h.all e (List.mem_cons_self ..)
theorem AS.get (h : AS own0 w0 es w) (he : e ∈ es) : e.P w := h.h.all e he
end
/-- A list and what has grown behind it: rows of one type, in one block or in two. -/
def unitP (L : Nat) (T : TypeId) (sz : Nat) (l : Value) (n : Nat) (xs : List Value) (mo : Value) (m : Nat) (ys : List Value) : Pt L where
  bl := fun k => l.ownBlock = some k ∨ mo.ownBlock = some k
  P := fun w => w.ownsRow L T sz l n xs ∧ w.ownsRow L T sz mo m ys
  fr := fun w w' h hP => ⟨ownsRow_same hP.1 (fun g hg => h g (Or.inl hg)), ownsRow_same hP.2 (fun g hg => h g (Or.inr hg))⟩
  lo := fun w hP g hg => hg.elim (fun hg => ownsRow_lt hP.1 hg) (fun hg => ownsRow_lt hP.2 hg)
def rowP (L : Nat) (T : TypeId) (sz : Nat) (v : Value) (n : Nat) (xs : List Value) : Pt L where
  bl := fun k => v.ownBlock = some k
  P := fun w => w.ownsRow L T sz v n xs
  fr := fun w w' h hP => ownsRow_same hP h
  lo := fun w hP g hg => ownsRow_lt hP hg
theorem Held.focus {L : Nat} {A B : List (Pt L)} {u : Pt L} {w : World} (h : Held (A ++ u :: B) w) : Held (u :: (A ++ B)) w := h.perm List.perm_middle
theorem Held.unfocus {L : Nat} {A B : List (Pt L)} {u : Pt L} {w : World} (h : Held (u :: (A ++ B)) w) : Held (A ++ u :: B) w := h.perm List.perm_middle.symm
end Go.Proofs.Ytifgmefdlmjocaa
namespace Go.Proofs.Ytifgmefdlmjocaa
open Go.RowKit Go.PlainAid Go.MapKept
set_option linter.unusedVariables false
set_option linter.unusedSimpArgs false
/-- An answer in the book: the list, what it should be, what it has grown to; how long, which cells. -/
structure UU where
  l : Value
  w : Value
  mo : Value
  n : Nat
  xs : List Value
def flatU (us : List UU) : List Value := us.flatMap fun u => [u.l, u.w, u.mo]
theorem flatU_len : ∀ us : List UU, (flatU us).length = us.length * 3
  | [] => rfl
  | u :: t => by
    have := flatU_len t
    unfold flatU at *
    simp only [List.flatMap_cons, List.length_append, this, List.length_cons, List.length_nil]
    omega
theorem flatU_get : ∀ (us : List UU) (i j : Nat) (u : UU), us[i]? = some u → j < 3 → (flatU us)[i * 3 + j]? = [u.l, u.w, u.mo][j]?
  | [], i, j, u, h, _ => by simp at h
  | x :: t, 0, j, u, h, hj => by
    simp at h
    subst h
    show ([x.l, x.w, x.mo] ++ flatU t)[0 * 3 + j]? = _
    rw [Nat.zero_mul, Nat.zero_add, List.getElem?_append_left (by simpa using hj)]
  | x :: t, i + 1, j, u, h, hj => by
    have ih := flatU_get t i j u (by simpa using h) hj
    show ([x.l, x.w, x.mo] ++ flatU t)[(i + 1) * 3 + j]? = _
    rw [List.getElem?_append_right (by simp; omega), ← ih]
    congr 1
    simp
    omega
theorem flatU_mo : ∀ (us : List UU) (i : Nat) (u : UU) (x : Value), us[i]? = some u → (flatU us).set (i * 3 + 2) x = flatU (us.set i { u with mo := x })
  | [], i, u, x, h => by simp at h
  | y :: t, 0, u, x, h => by
    simp at h
    subst h
    rfl
  | y :: t, i + 1, u, x, h => by
    have ih := flatU_mo t i u x (by simpa using h)
    show ([y.l, y.w, y.mo] ++ flatU t).set ((i + 1) * 3 + 2) x = _
    rw [List.set_append_right _ _ (by simp; omega), List.set_cons_succ]
    show _ = [y.l, y.w, y.mo] ++ flatU (t.set i { u with mo := x })
    rw [← ih]
    congr 2
    simp
    omega
def uPt (L T sz : Nat) (mkf : Int → Nat → List Value) (a b i : Nat) (u : UU) : Pt L := unitP L T sz u.l u.n (if i < a then mkf (-1000 - (i : Int)) u.n else u.xs) u.mo (if i < b then u.n + 100 else 0) (if i < b then mkf (-1000 - (i : Int)) (u.n + 100) else [])
def wPt (L T sz : Nat) (u : UU) : Pt L := rowP L T sz u.w u.n u.xs
def uPs (L T sz : Nat) (mkf : Int → Nat → List Value) (a b : Nat) : Nat → List UU → List (Pt L)
  | _, [] => []
  | i, u :: t => uPt L T sz mkf a b i u :: uPs L T sz mkf a b (i + 1) t
section
variable {L T sz a b a' b' : Nat} {mkf : Int → Nat → List Value}
theorem uPs_split (u : UU) (B : List UU) : ∀ (A : List UU) (i : Nat), uPs L T sz mkf a b i (A ++ u :: B) = uPs L T sz mkf a b i A ++ uPt L T sz mkf a b (i + A.length) u :: uPs L T sz mkf a b (i + A.length + 1) B
  | [], i => rfl
  | x :: t, i => by
    have ih := uPs_split u B t (i + 1)
    show uPt L T sz mkf a b i x :: uPs L T sz mkf a b (i + 1) (t ++ u :: B) = _
    rw [ih, show i + 1 + t.length = i + (x :: t).length from by simp; omega]
    rfl
theorem uPs_congr : ∀ (A : List UU) (i : Nat), (∀ j, i ≤ j → j < i + A.length → ((j < a) = (j < a')) ∧ ((j < b) = (j < b'))) → uPs L T sz mkf a b i A = uPs L T sz mkf a' b' i A
  | [], i, h => rfl
  | x :: t, i, h => by
    have ih := uPs_congr t (i + 1) (fun j h1 h2 => h j (by omega) (by simp at *; omega))
    have h0 := h i (Nat.le_refl _) (by simp)
    show uPt L T sz mkf a b i x :: _ = uPt L T sz mkf a' b' i x :: _
    rw [ih]
    congr 1
    unfold uPt
    simp only [h0.1, h0.2]
end
def boxP (L pb : Nat) (C : Array Value) (T : TypeId) : Pt L where
  bl := fun k => k = pb
  P := fun w => Blk w pb C T ∧ L ≤ pb
  fr := fun w w' h hP => ⟨(h pb rfl).trans hP.1, hP.2⟩
  lo := fun w hP g hg => by subst hg; exact ⟨hP.2, hP.1.lt⟩
/-- The book's lists of one kind, and all else. -/
def kPs (L T sz RT : Nat) (mkf : Int → Nat → List Value) (sv : Value) (a b : Nat) (us : List UU) (Y : List (Pt L)) : List (Pt L) := uPs L T sz mkf a b 0 us ++ (rowP L RT 3 sv us.length (flatU us) :: (us.map (wPt L T sz) ++ Y))
theorem kPs_swap {L T sz RT T' sz' RT' a b a' b' : Nat} {mkf mkf' : Int → Nat → List Value} {sv sv' : Value} {us us' : List UU} {e : Pt L} :
    (kPs L T sz RT mkf sv a b us (e :: kPs L T' sz' RT' mkf' sv' a' b' us' [])).Perm (kPs L T' sz' RT' mkf' sv' a' b' us' (e :: kPs L T sz RT mkf sv a b us [])) := by
  have h1 : ∀ {T sz RT a b : Nat} {mkf : Int → Nat → List Value} {sv : Value} {us : List UU} (Y : List (Pt L)), kPs L T sz RT mkf sv a b us Y = kPs L T sz RT mkf sv a b us [] ++ Y := fun Y => by simp [kPs]
  rw [h1 (e :: _), h1 (us := us') (e :: _)]
  refine (List.perm_middle).trans (List.Perm.trans ?_ List.perm_middle.symm)
  exact List.Perm.cons _ List.perm_append_comm
section
variable {L T sz RT a b : Nat} {mkf : Int → Nat → List Value} {sv : Value} {us : List UU} {Y : List (Pt L)} {own0 : Nat → Prop} {w0 w w' : World}
theorem split_at {α : Type} {l : List α} {i : Nat} {x : α} (h : l[i]? = some x) : l = l.take i ++ x :: l.drop (i + 1) := by
  obtain ⟨hl, rfl⟩ := List.getElem?_eq_some_iff.1 h
  rw [← List.drop_eq_getElem_cons hl, List.take_append_drop]
theorem uPs_mem {i : Nat} {u : UU} (h : us[i]? = some u) : uPt L T sz mkf a b i u ∈ uPs L T sz mkf a b 0 us := by
  have hl : i < us.length := (List.getElem?_eq_some_iff.1 h).1
  rw [split_at h, uPs_split, List.length_take, Nat.zero_add, Nat.min_eq_left (by omega)]
  simp
theorem kPs_unit {i : Nat} {u : UU} (h : AS own0 w0 (kPs L T sz RT mkf sv a b us Y) w) (hu : us[i]? = some u) : (uPt L T sz mkf a b i u).P w := h.get (List.mem_append.2 (Or.inl (uPs_mem hu)))
theorem kPs_row (h : AS own0 w0 (kPs L T sz RT mkf sv a b us Y) w) : w.ownsRow L RT 3 sv us.length (flatU us) := h.get (e := rowP L RT 3 sv us.length (flatU us)) (List.mem_append.2 (Or.inr (List.mem_cons_self ..)))
theorem kPs_w {u : UU} (h : AS own0 w0 (kPs L T sz RT mkf sv a b us Y) w) (hu : u ∈ us) : w.ownsRow L T sz u.w u.n u.xs := h.get (e := wPt L T sz u) (List.mem_append.2 (Or.inr (List.mem_cons_of_mem _ (List.mem_append.2 (Or.inl (List.mem_map.2 ⟨u, hu, rfl⟩))))))
theorem kPs_y {e : Pt L} (h : AS own0 w0 (kPs L T sz RT mkf sv a b us Y) w) (he : e ∈ Y) : e.P w := h.get (List.mem_append.2 (Or.inr (List.mem_cons_of_mem _ (List.mem_append.2 (Or.inr he)))))
/-- The rest, when the unit i is looked at. -/
def kRest (L T sz RT : Nat) (mkf : Int → Nat → List Value) (sv : Value) (a b i : Nat) (us : List UU) (Y : List (Pt L)) : List (Pt L) := uPs L T sz mkf a b 0 (us.take i) ++ (uPs L T sz mkf a b (i + 1) (us.drop (i + 1)) ++ (rowP L RT 3 sv us.length (flatU us) :: (us.map (wPt L T sz) ++ Y)))
theorem kPs_focus {i : Nat} {u : UU} (hu : us[i]? = some u) : (kPs L T sz RT mkf sv a b us Y).Perm (uPt L T sz mkf a b i u :: kRest L T sz RT mkf sv a b i us Y) := by
  have hl : i < us.length := (List.getElem?_eq_some_iff.1 hu).1
  have e1 : uPs L T sz mkf a b 0 us = uPs L T sz mkf a b 0 (us.take i) ++ uPt L T sz mkf a b i u :: uPs L T sz mkf a b (i + 1) (us.drop (i + 1)) := by
    conv => lhs; rw [split_at hu]
    rw [uPs_split, List.length_take, Nat.zero_add, Nat.min_eq_left (by omega)]
  unfold kPs kRest
  rw [e1, List.append_assoc, List.cons_append]
  exact List.perm_middle
/-- One unit more is marked. -/
theorem kRest_mark {i : Nat} (hi : i ≤ us.length) : kRest L T sz RT mkf sv i b i us Y = kRest L T sz RT mkf sv (i + 1) b i us Y := by
  unfold kRest
  rw [uPs_congr (a := i) (a' := i + 1) (b := b) (b' := b) (us.take i) 0 (fun j _ h2 => by rw [List.length_take] at h2; exact ⟨by simp; omega, rfl⟩), uPs_congr (a := i) (a' := i + 1) (b := b) (b' := b) (us.drop (i + 1)) (i + 1) (fun j h1 _ => ⟨by simp; omega, rfl⟩)]
end
end Go.Proofs.Ytifgmefdlmjocaa
namespace Go.Proofs.Ytifgmefdlmjocaa
open Go.RowKit Go.PlainAid Go.MapKept
set_option linter.unusedVariables false
set_option linter.unusedSimpArgs false
def mV (m : Int) (n : Nat) : List Value := flatV (vmk m n)
def mR (m : Int) (n : Nat) : List Value := flatR (rmk m n)
theorem vmk_succ (m : Int) (q : Nat) : vmk m (q + 1) = vmk m q ++ [⟨0, [], q, 0, m, 0, 0, 0⟩] := by simp [vmk, List.range_succ]
theorem rmk_succ (m : Int) (q : Nat) : rmk m (q + 1) = rmk m q ++ [(m, (q : Int))] := by simp [rmk, List.range_succ]
theorem vmk_set {m : Int} {q : Nat} {D : List Ent} (h : q < D.length) : (vmk m q ++ D.drop q).set q ⟨0, [], q, 0, m, 0, 0, 0⟩ = vmk m (q + 1) ++ D.drop (q + 1) := by
  rw [List.set_append_right _ _ (by rw [vmk_len]; exact Nat.le_refl _), vmk_len, Nat.sub_self, List.drop_eq_getElem_cons h, List.set_cons_zero, vmk_succ, List.append_assoc]
  rfl
theorem rmk_set {m : Int} {q : Nat} {D : List (Int × Int)} (h : q < D.length) : (rmk m q ++ D.drop q).set q (m, (q : Int)) = rmk m (q + 1) ++ D.drop (q + 1) := by
  rw [List.set_append_right _ _ (by rw [rmk_len]; exact Nat.le_refl _), rmk_len, Nat.sub_self, List.drop_eq_getElem_cons h, List.set_cons_zero, rmk_succ, List.append_assoc]
  rfl
section
variable {L T sz RT a b : Nat} {mkf : Int → Nat → List Value} {sv : Value} {us : List UU} {Y : List (Pt L)} {own0 : Nat → Prop} {w0 w w' : World} {e : Pt L} {i : Nat}
theorem kR_row (h : AS own0 w0 (e :: kRest L T sz RT mkf sv a b i us Y) w) : w.ownsRow L RT 3 sv us.length (flatU us) := h.get (e := rowP L RT 3 sv us.length (flatU us)) (List.mem_cons_of_mem _ (List.mem_append.2 (Or.inr (List.mem_append.2 (Or.inr (List.mem_cons_self ..))))))
theorem kR_y {e' : Pt L} (h : AS own0 w0 (e :: kRest L T sz RT mkf sv a b i us Y) w) (he : e' ∈ Y) : e'.P w := h.get (List.mem_cons_of_mem _ (List.mem_append.2 (Or.inr (List.mem_append.2 (Or.inr (List.mem_cons_of_mem _ (List.mem_append.2 (Or.inr he))))))))
theorem kRest_grow (hi : i ≤ us.length) : kRest L T sz RT mkf sv a i i us Y = kRest L T sz RT mkf sv a (i + 1) i us Y := by
  unfold kRest
  rw [uPs_congr (a := a) (a' := a) (b := i) (b' := i + 1) (us.take i) 0 (fun j _ h2 => by rw [List.length_take] at h2; exact ⟨rfl, by simp; omega⟩), uPs_congr (a := a) (a' := a) (b := i) (b' := i + 1) (us.drop (i + 1)) (i + 1) (fun j h1 _ => ⟨rfl, by simp; omega⟩)]
theorem kR_setmo {g cap : Nat} {u : UU} (x : Value) (h : AS own0 w0 (e :: kRest L T sz RT mkf (.slice (some ⟨g, 0, none⟩) us.length cap) a b i us Y) w) (hu : us[i]? = some u) : AS own0 w0 (e :: kRest L T sz RT mkf (.slice (some ⟨g, 0, none⟩) us.length cap) a b i (us.set i { u with mo := x }) Y) (w.setCell ⟨g, i * 3 + 2, none⟩ x) := by
  have hl : i < us.length := (List.getElem?_eq_some_iff.1 hu).1
  have hro := kR_row h
  obtain ⟨o1, _⟩ := World.ownsRow.stored hro (i * 3 + 2) x
  rw [flatU_mo us i u x hu] at o1
  have e1 : (us.set i { u with mo := x }).take i = us.take i := List.take_set_of_le (Nat.le_refl _)
  have e2 : (us.set i { u with mo := x }).drop (i + 1) = us.drop (i + 1) := List.drop_set_of_lt (Nat.lt_succ_self _)
  have e3 : (us.set i { u with mo := x }).map (wPt L T sz) = us.map (wPt L T sz) := by
    rw [List.map_set]
    have : wPt L T sz { u with mo := x } = wPt L T sz u := rfl
    rw [this]
    refine List.ext_getElem? fun j => ?_
    rw [List.getElem?_set]
    split
    · rename_i hij
      subst hij
      have h7 := (List.getElem?_eq_some_iff.1 hu).2
      simp only [List.length_map, hl, if_true, List.getElem?_map, List.getElem?_eq_getElem hl, Option.map_some, h7]
    · rfl
  unfold kRest at h ⊢
  rw [e1, e2, e3]
  have key : ∀ (r : Pt L) (A B Z : List (Pt L)), (e :: (A ++ (B ++ (r :: Z)))).Perm (r :: (e :: (A ++ (B ++ Z)))) := fun r A B Z => by
    have h1 : (B ++ (r :: Z)).Perm (r :: (B ++ Z)) := List.perm_middle
    have h2 : (A ++ (B ++ (r :: Z))).Perm (r :: (A ++ (B ++ Z))) := (List.Perm.append_left A h1).trans List.perm_middle
    exact (h2.cons e).trans (List.Perm.swap _ _ _)
  refine AS.perm ((h.perm (key _ _ _ _)).swap (e' := rowP L RT 3 (.slice (some ⟨g, 0, none⟩) us.length cap) (us.set i { u with mo := x }).length (flatU (us.set i { u with mo := x }))) ((setCell_chg w g (i * 3 + 2) x).mono (fun j _ hj => by rw [hj]; rfl)) (by rw [List.length_set]; exact o1) (fun k hk => Or.inl hk)) (key _ _ _ _).symm
theorem unit_app {l x : Value} {n m : Nat} {c ys : List Value} {R : List (Pt L)} (h : AS own0 w0 (unitP L T sz l n c x m ys :: R) w) (hnm : n ≤ m) (t : TypeId) (z : Value) (bytes : Nat) (ht : Try.prog.underlying t = some (.slice T)) (hinfo : (Try.prog.info? T).map (fun i => (i.zero, i.size, i.bytes)) = some (some z, sz, bytes)) (hzz : z.cells.size = sz) (hs0 : 1 ≤ sz) (hb0 : 0 < bytes) (C : Array Value) (hC : C.size = sz) (hone : ∀ u ∈ C.toList, u.oneCell' = true) (hby2 : (m + 1) * bytes ≤ 140737488355328) (hL : L ≤ w.heap.size) :
    ∃ x' w', (∀ ty, (Builtin.append_ #[t, t] ty #[x, .slice (some ⟨w.heap.size, 0, none⟩) 1 1]).run Try.prog (w.alloc (.cells C T)) = .ok x' w') ∧ AS own0 w0 (unitP L T sz l n c x' (m + 1) (ys ++ C.toList) :: R) w' := by
  obtain ⟨r1, r2⟩ := h.head
  obtain ⟨x', w', h1, h2, h3, h4⟩ := app_any t T z sz bytes ht hinfo hzz hs0 hb0 (r2.alloc (.cells C T)) ⟨w.heap.size, 0, none⟩ 1 1 C.toList (by simp [hC]) (fun j u hu => by
    have hB : Blk (w.alloc (.cells C T)) w.heap.size C T := heap_alloc_new w _
    rw [addr_add, Nat.zero_add, hB.cell j]
    simpa using hu) hone hby2 (by rw [World.size_alloc]; omega) t
  have hg := h3.ofAlloc
  refine ⟨x', w', fun ty => h1, h.swap (hg.chg.mono (fun j _ hj => Or.inr hj)) ⟨?_, h2⟩ (fun k hk => ?_)⟩
  · by_cases hsame : l.ownBlock = x.ownBlock
    · exact h4 _ _ _ _ hnm hsame (r1.alloc _)
    · exact ownsRow_same r1 (fun g hg' => hg.chg.block g (ownsRow_lt r1 hg').2 (fun e => hsame (hg'.trans e.symm)))
  · rcases hk with hk | hk
    · exact Or.inl (Or.inl hk)
    · rcases hg.at' k hk with h5 | h5
      · exact Or.inl (Or.inr h5)
      · exact Or.inr h5
end
theorem info106s : (Try.prog.info? 106).map (·.size) = some 3 := by kernel_rfl
theorem info109s : (Try.prog.info? 109).map (·.size) = some 3 := by kernel_rfl
theorem row_three {w : World} {L RT n cap : Nat} {ao : Option Addr} {us : List UU} (h : w.ownsRow L RT 3 (.slice ao n cap) n (flatU us)) {i : Nat} {u : UU} (hu : us[i]? = some u) : ∃ g, ao = some ⟨g, 0, none⟩ ∧ w.cell? ⟨g, i * 3, none⟩ = some u.l ∧ w.cell? ⟨g, i * 3 + 1, none⟩ = some u.w ∧ w.cell? ⟨g, i * 3 + 2, none⟩ = some u.mo := by
  obtain ⟨_, _, e, _, _, hc⟩ := own_read h
  cases e
  have hl := h.1
  rw [flatU_len] at hl
  have hi := (List.getElem?_eq_some_iff.1 hu).1
  obtain ⟨g, e, _, _, h4⟩ := hc (by omega)
  exact ⟨g, e, h4 _ _ (flatU_get us i 0 u hu (by decide)), h4 _ _ (flatU_get us i 1 u hu (by decide)), h4 _ _ (flatU_get us i 2 u hu (by decide))⟩
end Go.Proofs.Ytifgmefdlmjocaa
namespace Go.Proofs.Ytifgmefdlmjocaa
open Go.RowKit Go.PlainAid Go.MapKept
set_option linter.unusedVariables false
set_option linter.unusedSimpArgs false
section
variable {L : Nat} {own0 : Nat → Prop} {w0 w : World} {R : List (Pt L)}
theorem unit_markV {lg n lc q : Nat} {m : Int} {D : List Ent} (h : AS own0 w0 (unitP L 46 7 (.slice (some ⟨lg, 0, none⟩) n lc) n (flatV (vmk m q ++ D.drop q)) (.slice none 0 0) 0 [] :: R) w) (hD : D.length = n) (hq : q < n) :
    (∀ t, t < 7 → ∃ v, w.cell? ⟨lg, q * 7 + t, none⟩ = some v) ∧ (∀ t, w.frozen? ⟨lg, t, none⟩ = false) ∧ AS own0 w0 (unitP L 46 7 (.slice (some ⟨lg, 0, none⟩) n lc) n (flatV (vmk m (q + 1) ++ D.drop (q + 1))) (.slice none 0 0) 0 [] :: R) (((((((w.setCell ⟨lg, q * 7, none⟩ (.string ⟨([] : List UInt8).toArray⟩)).setCell ⟨lg, q * 7 + 1, none⟩ (.int .i64 (q : Int))).setCell ⟨lg, q * 7 + 2, none⟩ (.int .i64 0)).setCell ⟨lg, q * 7 + 3, none⟩ (.int .i64 m)).setCell ⟨lg, q * 7 + 4, none⟩ (.int .i64 0)).setCell ⟨lg, q * 7 + 5, none⟩ (.int .i64 0)).setCell ⟨lg, q * 7 + 6, none⟩ (.int .i64 0)) := by
  obtain ⟨hx, hm⟩ := h.head
  have hdl : (vmk m q ++ D.drop q).length = n := by rw [List.length_append, vmk_len, List.length_drop]; omega
  obtain ⟨o0, g0⟩ := World.ownsRow.stored hx (q * 7) (.string ⟨([] : List UInt8).toArray⟩)
  obtain ⟨o1, g1⟩ := World.ownsRow.stored o0 (q * 7 + 1) (.int .i64 (q : Int))
  obtain ⟨o2, g2⟩ := World.ownsRow.stored o1 (q * 7 + 2) (.int .i64 0)
  obtain ⟨o3, g3⟩ := World.ownsRow.stored o2 (q * 7 + 3) (.int .i64 m)
  obtain ⟨o4, g4⟩ := World.ownsRow.stored o3 (q * 7 + 4) (.int .i64 0)
  obtain ⟨o5, g5⟩ := World.ownsRow.stored o4 (q * 7 + 5) (.int .i64 0)
  obtain ⟨o6, g6⟩ := World.ownsRow.stored o5 (q * 7 + 6) (.int .i64 0)
  rw [flatV_set (vmk m q ++ D.drop q) q ⟨0, [], (q : Int), 0, m, 0, 0, 0⟩ (by rw [hdl]; exact hq), vmk_set (by omega)] at o6
  refine ⟨fun t ht => ?_, fun t => World.ownsRow.frozenAt hx t, ?_⟩
  · have e0 := World.ownsRow.cellAt hx (q * 7 + t) (by omega)
    exact ⟨_, e0.trans (List.getElem?_eq_getElem (by rw [flatV_length, hdl]; omega))⟩
  · have hcc := (((((((setCell_chg w lg (q * 7) (.string ⟨([] : List UInt8).toArray⟩)).trans (setCell_chg _ lg (q * 7 + 1) (.int .i64 (q : Int))) (fun _ _ e => e)).trans (setCell_chg _ lg (q * 7 + 2) (.int .i64 0)) (fun _ _ e => e)).trans (setCell_chg _ lg (q * 7 + 3) (.int .i64 m)) (fun _ _ e => e)).trans (setCell_chg _ lg (q * 7 + 4) (.int .i64 0)) (fun _ _ e => e)).trans (setCell_chg _ lg (q * 7 + 5) (.int .i64 0)) (fun _ _ e => e)).trans (setCell_chg _ lg (q * 7 + 6) (.int .i64 0)) (fun _ _ e => e))
    exact h.swap (hcc.mono (fun j _ e => Or.inl (by rw [e]; rfl))) ⟨o6, ownsRow_same hm (fun gg hgg => by cases hgg)⟩ (fun kk hkk => Or.inl hkk)
theorem unit_markR {lg n lc q : Nat} {m : Int} {D : List (Int × Int)} (h : AS own0 w0 (unitP L 44 2 (.slice (some ⟨lg, 0, none⟩) n lc) n (flatR (rmk m q ++ D.drop q)) (.slice none 0 0) 0 [] :: R) w) (hD : D.length = n) (hq : q < n) :
    (∀ t, t < 2 → ∃ v, w.cell? ⟨lg, q * 2 + t, none⟩ = some v) ∧ (∀ t, w.frozen? ⟨lg, t, none⟩ = false) ∧ AS own0 w0 (unitP L 44 2 (.slice (some ⟨lg, 0, none⟩) n lc) n (flatR (rmk m (q + 1) ++ D.drop (q + 1))) (.slice none 0 0) 0 [] :: R) ((w.setCell ⟨lg, q * 2, none⟩ (.int .i64 m)).setCell ⟨lg, q * 2 + 1, none⟩ (.int .i64 (q : Int))) := by
  obtain ⟨hx, hm⟩ := h.head
  have hdl : (rmk m q ++ D.drop q).length = n := by rw [List.length_append, rmk_len, List.length_drop]; omega
  obtain ⟨o0, g0⟩ := World.ownsRow.stored hx (q * 2) (.int .i64 m)
  obtain ⟨o1, g1⟩ := World.ownsRow.stored o0 (q * 2 + 1) (.int .i64 (q : Int))
  rw [flatR_set (by rw [hdl]; exact hq), rmk_set (by omega)] at o1
  refine ⟨fun t ht => ?_, fun t => World.ownsRow.frozenAt hx t, ?_⟩
  · have e0 := World.ownsRow.cellAt hx (q * 2 + t) (by omega)
    exact ⟨_, e0.trans (List.getElem?_eq_getElem (by rw [flatR_length, hdl]; omega))⟩
  · have hcc := ((setCell_chg w lg (q * 2) (.int .i64 m)).trans (setCell_chg _ lg (q * 2 + 1) (.int .i64 (q : Int))) (fun _ _ e => e))
    exact h.swap (hcc.mono (fun j _ e => Or.inl (by rw [e]; rfl))) ⟨o1, ownsRow_same hm (fun gg hgg => by cases hgg)⟩ (fun kk hkk => Or.inl hkk)
end
end Go.Proofs.Ytifgmefdlmjocaa
namespace Go.Proofs.Ytifgmefdlmjocaa
open Go.RowKit Go.PlainAid Go.MapKept
set_option linter.unusedVariables false
set_option linter.unusedSimpArgs false
section
variable {L T sz RT A b k g cap n : Nat} {mkf : Int → Nat → List Value} {us : List UU} {Y : List (Pt L)} {own0 : Nat → Prop} {w0 w : World} {e : Pt L} {u : UU} {x : Value}
theorem kR_setmo2 (z : Value) (h : AS own0 w0 (e :: kRest L T sz RT mkf (.slice (some ⟨g, 0, none⟩) n cap) A b k us Y) w) (hn : us.length = n) (hu : us[k]? = some u) : AS own0 w0 (e :: kRest L T sz RT mkf (.slice (some ⟨g, 0, none⟩) n cap) A b k (us.set k { u with mo := z }) Y) (w.setCell ⟨g, k * 3 + 2, none⟩ z) := by
  subst hn
  exact kR_setmo z h hu
theorem kR_row2 {sv : Value} (h : AS own0 w0 (e :: kRest L T sz RT mkf sv A b k us Y) w) (hn : us.length = n) : w.ownsRow L RT 3 sv n (flatU us) := by
  subst hn
  exact kR_row h
theorem kPs_row2 {sv : Value} (h : AS own0 w0 (kPs L T sz RT mkf sv A b us Y) w) (hn : us.length = n) : w.ownsRow L RT 3 sv n (flatU us) := by
  subst hn
  exact kPs_row h
theorem set_self (hk : us[k]? = some u) : (us.set k { u with mo := x })[k]? = some { u with mo := x } := by
  have := (List.getElem?_eq_some_iff.1 hk).1
  simp [this]
theorem grow_start (h : AS own0 w0 (kPs L T sz RT mkf (.slice (some ⟨g, 0, none⟩) n cap) A k us Y) w) (hn : us.length = n) (hu : us[k]? = some u) (hk : k < A) :
    AS own0 w0 (unitP L T sz u.l u.n (mkf (-1000 - (k : Int)) u.n) u.l u.n (mkf (-1000 - (k : Int)) u.n) :: kRest L T sz RT mkf (.slice (some ⟨g, 0, none⟩) n cap) A k k (us.set k { u with mo := u.l }) Y) (w.setCell ⟨g, k * 3 + 2, none⟩ u.l) := by
  have h0 := h.perm (kPs_focus hu)
  unfold uPt at h0
  rw [if_pos hk] at h0
  refine kR_setmo2 u.l (h0.swap (e' := unitP L T sz u.l u.n (mkf (-1000 - (k : Int)) u.n) u.l u.n (mkf (-1000 - (k : Int)) u.n)) (Chg.refl _ _) ⟨h0.head.1, h0.head.1⟩ (fun j hj => ?_)) hn hu
  rcases hj with hj | hj <;> exact Or.inl (Or.inl hj)
theorem grow_end (h : AS own0 w0 (unitP L T sz u.l u.n (mkf (-1000 - (k : Int)) u.n) x (u.n + 100) (mkf (-1000 - (k : Int)) (u.n + 100)) :: kRest L T sz RT mkf (.slice (some ⟨g, 0, none⟩) n cap) A k k (us.set k { u with mo := x }) Y) w) (hu : us[k]? = some u) (hk : k < A) :
    AS own0 w0 (kPs L T sz RT mkf (.slice (some ⟨g, 0, none⟩) n cap) A (k + 1) (us.set k { u with mo := x }) Y) w := by
  have hl := (List.getElem?_eq_some_iff.1 hu).1
  rw [kRest_grow (by rw [List.length_set]; omega)] at h
  refine AS.perm ?_ (kPs_focus (set_self (x := x) hu)).symm
  unfold uPt
  rw [if_pos hk, if_pos (Nat.lt_succ_self k), if_pos (Nat.lt_succ_self k)]
  exact h
theorem grow_app {l : Value} {n1 m : Nat} {c ys : List Value} (h : AS own0 w0 (unitP L T sz l n1 c x m ys :: kRest L T sz RT mkf (.slice (some ⟨g, 0, none⟩) n cap) A b k (us.set k { u with mo := x }) Y) w) (hn : us.length = n) (hu : us[k]? = some u) (hnm : n1 ≤ m) (t : TypeId) (z : Value) (bytes : Nat) (ht : Try.prog.underlying t = some (.slice T)) (hinfo : (Try.prog.info? T).map (fun i => (i.zero, i.size, i.bytes)) = some (some z, sz, bytes)) (hzz : z.cells.size = sz) (hs0 : 1 ≤ sz) (hb0 : 0 < bytes) (C : Array Value) (hC : C.size = sz) (hone : ∀ u ∈ C.toList, u.oneCell' = true) (hby2 : (m + 1) * bytes ≤ 140737488355328) :
    ∃ x' w', (∀ ty, (Builtin.append_ #[t, t] ty #[x, .slice (some ⟨w.heap.size, 0, none⟩) 1 1]).run Try.prog (w.alloc (.cells C T)) = .ok x' w') ∧ w'.cell? ⟨g, k * 3 + 2, none⟩ = some x ∧ w'.frozen? ⟨g, k * 3 + 2, none⟩ = false ∧ AS own0 w0 (unitP L T sz l n1 c x' (m + 1) (ys ++ C.toList) :: kRest L T sz RT mkf (.slice (some ⟨g, 0, none⟩) n cap) A b k (us.set k { u with mo := x' }) Y) (w'.setCell ⟨g, k * 3 + 2, none⟩ x') := by
  have hl := (List.getElem?_eq_some_iff.1 hu).1
  have hn' : (us.set k { u with mo := x }).length = n := by rw [List.length_set]; exact hn
  have hlt := ownsRow_lt (kR_row2 h hn') (g := g) rfl
  obtain ⟨x', w', h1, h2⟩ := unit_app h hnm t z bytes ht hinfo hzz hs0 hb0 C hC hone hby2 (by omega)
  have hr := kR_row2 h2 hn'
  obtain ⟨g9, e9, _, _, h9⟩ := row_three hr (set_self (x := x) hu)
  cases e9
  have h3 := kR_setmo2 x' h2 hn' (set_self (x := x) hu)
  rw [List.set_set] at h3
  exact ⟨x', w', h1, h9, World.ownsRow.frozenAt hr _, h3⟩
end
theorem mV_succ (m : Int) (q : Nat) : mV m q ++ #[(.string ⟨#[]⟩ : Value), .int .i64 (q : Int), .int .i64 0, .int .i64 m, .int .i64 0, .int .i64 0, .int .i64 0].toList = mV m (q + 1) := by
  unfold mV
  rw [vmk_succ, flatV_append]
  congr 1
theorem mR_succ (m : Int) (q : Nat) : mR m q ++ #[(.int .i64 m : Value), .int .i64 (q : Int)].toList = mR m (q + 1) := by
  unfold mR
  rw [rmk_succ, show ∀ a b, flatR (a ++ [b]) = flatR a ++ flatR [b] from fun a b => by simp [flatR]]
  congr 1
end Go.Proofs.Ytifgmefdlmjocaa
