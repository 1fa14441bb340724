import Derived.Test.YtkdndfdofhnagaaDoorKeepB
namespace Go.Proofs.YtkdndfdofhnagaaDoor
open Go.RowKit Go.PlainAid
set_option linter.unusedVariables false
set_option linter.unusedSimpArgs false
def setLs (z : ZS) (l : List Dat) : ZS := { z with ls := l }
section
variable {L : Nat} {z : ZS} {w w' : World}
theorem permL {A B : List Dat} {x : Dat} (h : z.ls = A ++ x :: B) : z.vals.Perm (x.d :: z.vl :: z.vm :: z.vf :: z.vw :: (z.ks ++ ((A ++ B) ++ (z.ws ++ z.fl))).map Dat.d) := by
  unfold ZS.vals ZS.dats
  rw [h]
  have e1 : (z.ks ++ ((A ++ x :: B) ++ (z.ws ++ z.fl))).Perm (x :: (z.ks ++ ((A ++ B) ++ (z.ws ++ z.fl)))) := by
    have h1 : (A ++ x :: B ++ (z.ws ++ z.fl)).Perm (x :: (A ++ B ++ (z.ws ++ z.fl))) := (List.perm_middle (l₁ := A) (a := x) (l₂ := B)).append_right _
    exact (List.Perm.append_left _ h1).trans List.perm_middle
  exact (List.Perm.cons _ (List.Perm.cons _ (List.Perm.cons _ (List.Perm.cons _ (e1.map Dat.d))))).trans (List.perm_middle (l₁ := [z.vl, z.vm, z.vf, z.vw]) (a := x.d))
/-- One of the answers left alone is written. -/
theorem Shelf.releft {A B : List Dat} {x x' : Dat} (h : Shelf L z w) (hls : z.ls = A ++ x :: B) (hd : x'.d = x.d) (ho : w'.ownsRow L 3 1 x'.d x'.zs.length (x'.zs.map I)) (hc : Chg (fun k => x.d.ownBlock = some k) w w') : Shelf L (setLs z (A ++ x' :: B)) w' := by
  have hp' : (setLs z (A ++ x' :: B)).vals.Perm (x'.d :: z.vl :: z.vm :: z.vf :: z.vw :: (z.ks ++ ((A ++ B) ++ (z.ws ++ z.fl))).map Dat.d) := permL rfl
  obtain ⟨h1, h2, h3⟩ := h.swap (permL hls) hp' hc (fun k e => Or.inl (hd ▸ e))
  have hm : (A ++ x' :: B).map Dat.d = z.ls.map Dat.d := by rw [hls]; simp [hd]
  refine ⟨tail_same h.lists (h2 z.vl (by simp)), tail_same h.marks (h2 z.vm (by simp)), ?_, tail_same h.were (h2 z.vw (by simp)), fun y hy => ?_, h1⟩
  · have := tail_same h.left (h2 z.vf (by simp))
    show Tail w' L 48 z.vf (A ++ x' :: B).length ((A ++ x' :: B).map Dat.d)
    rw [hm]
    rw [hls] at this ⊢
    simpa using this
  · have old : y ∈ z.ks ++ ((A ++ B) ++ (z.ws ++ z.fl)) → w'.ownsRow L 3 1 y.d y.zs.length (y.zs.map I) := fun hm => ownsRow_same (h.dat y (by
      simp only [ZS.dats, hls, List.mem_append, List.mem_cons] at hm ⊢
      rcases hm with hm | (hm | hm) | hm | hm
      · exact Or.inl hm
      · exact Or.inr (Or.inl (Or.inl hm))
      · exact Or.inr (Or.inl (Or.inr (Or.inr hm)))
      · exact Or.inr (Or.inr (Or.inl hm))
      · exact Or.inr (Or.inr (Or.inr hm)))) (h2 y.d (by
      simp only [List.mem_cons, List.mem_map]
      exact Or.inr (Or.inr (Or.inr (Or.inr ⟨y, hm, rfl⟩)))))
    simp only [ZS.dats, setLs, List.mem_append, List.mem_cons] at hy
    rcases hy with hy | (hy | hy | hy) | hy | hy
    · exact old (by simp [hy])
    · exact old (by simp [hy])
    · rw [hy]; exact ho
    · exact old (by simp [hy])
    · exact old (by simp [hy])
    · exact old (by simp [hy])
end
/-- The answers left alone, the first i written full with marks of their own. -/
def inked (ls : List Dat) (i : Nat) : List Dat := ls.mapIdx fun j x => if j < i then ⟨x.d, x.zs.map fun _ => -1 - (j : Int)⟩ else x
theorem inked_len (ls : List Dat) (i : Nat) : (inked ls i).length = ls.length := by simp [inked]
theorem inked_get (ls : List Dat) (i j : Nat) : (inked ls i)[j]? = (ls[j]?).map fun x => if j < i then ⟨x.d, x.zs.map fun _ => -1 - (j : Int)⟩ else x := by simp [inked]
theorem inked_0 (ls : List Dat) : inked ls 0 = ls := by
  apply List.ext_getElem?
  intro j
  rw [inked_get]
  cases ls[j]? <;> simp
theorem inked_d (ls : List Dat) (i : Nat) : (inked ls i).map Dat.d = ls.map Dat.d := by
  apply List.ext_getElem?
  intro j
  rw [List.getElem?_map, List.getElem?_map, inked_get]
  cases ls[j]? with
  | none => rfl
  | some x => by_cases h : j < i <;> simp [h]
theorem split_at {α : Type} {l : List α} {i : Nat} {x : α} (h : l[i]? = some x) : l = l.take i ++ x :: l.drop (i + 1) := by
  obtain ⟨hl, rfl⟩ := List.getElem?_eq_some_iff.1 h
  rw [← List.drop_eq_getElem_cons hl, List.take_append_drop]
/-- The i-th is under the pen: k of its cells are written. -/
theorem inked_step {ls : List Dat} {i : Nat} {x : Dat} (h : ls[i]? = some x) : (inked ls i).take i ++ (⟨x.d, x.zs.map fun _ => -1 - (i : Int)⟩ : Dat) :: (inked ls i).drop (i + 1) = inked ls (i + 1) := by
  apply List.ext_getElem?
  intro j
  have hil : i < ls.length := (List.getElem?_eq_some_iff.1 h).1
  have ht : ((inked ls i).take i).length = i := by rw [List.length_take, inked_len]; omega
  rw [inked_get]
  by_cases h1 : j < i
  · rw [List.getElem?_append_left (by omega), List.getElem?_take, if_pos h1, inked_get]
    cases ls[j]? with
    | none => rfl
    | some y => simp [h1, show j < i + 1 by omega]
  · rw [List.getElem?_append_right (by omega), ht]
    by_cases h2 : j = i
    · subst h2
      rw [Nat.sub_self, h]
      simp
    · rw [show j - i = (j - (i + 1)) + 1 by omega, List.getElem?_cons_succ, List.getElem?_drop, show i + 1 + (j - (i + 1)) = j by omega, inked_get]
      cases ls[j]? with
      | none => rfl
      | some y => simp [show ¬ j < i by omega, show ¬ j < i + 1 by omega]
theorem inked_at {ls : List Dat} {i : Nat} {x : Dat} (h : ls[i]? = some x) : (inked ls i)[i]? = some x := by rw [inked_get, h]; simp
theorem inked_all {ls : List Dat} {i n : Nat} {x : Dat} (h : ls[i]? = some x) (hn : i < n) : (inked ls n)[i]? = some ⟨x.d, x.zs.map fun _ => -1 - (i : Int)⟩ := by rw [inked_get, h]; simp [hn]
/-- The shelf while the i-th answer is written: k of its cells. -/
def penned (z : ZS) (i : Nat) (x : Dat) (k : Nat) : ZS := setLs z ((inked z.ls i).take i ++ upto x (-1 - (i : Int)) k :: (inked z.ls i).drop (i + 1))
theorem penned_0 {z : ZS} {i : Nat} {x : Dat} (h : z.ls[i]? = some x) : penned z i x 0 = setLs z (inked z.ls i) := by
  unfold penned
  rw [upto_0, ← split_at (inked_at h)]
theorem penned_all {z : ZS} {i : Nat} {x : Dat} (h : z.ls[i]? = some x) : penned z i x x.zs.length = setLs z (inked z.ls (i + 1)) := by
  unfold penned
  rw [upto_all x _ (Nat.le_refl _), inked_step h]
/-- One cell of the i-th is written. -/
theorem Shelf.pen {L : Nat} {z : ZS} {w : World} {i k g cap : Nat} {x : Dat} (h : Shelf L (penned z i x k) w) (hk : k < x.zs.length) (hd : x.d = .slice (some ⟨g, 0, none⟩) x.zs.length cap) :
    Shelf L (penned z i x (k + 1)) (w.setCell ⟨g, k, none⟩ (.int .i64 (-1 - (i : Int)))) ∧ w.frozen? ⟨g, k, none⟩ = false ∧ ∃ u0, w.cell? ⟨g, k, none⟩ = some u0 := by
  have hmem : upto x (-1 - (i : Int)) k ∈ (penned z i x k).dats := by simp [penned, setLs, ZS.dats]
  have ho : w.ownsRow L 3 1 x.d (upto x (-1 - (i : Int)) k).zs.length ((upto x (-1 - (i : Int)) k).zs.map I) := h.dat _ hmem
  rw [hd, upto_len] at ho
  obtain ⟨h1, h2, h3⟩ := own_set ho hk (I (-1 - (i : Int)))
  refine ⟨?_, h2, h3⟩
  have hs := Stq.set g k (I (-1 - (i : Int))) w
  have hc : Chg (fun j => x.d.ownBlock = some j) w (w.setCell ⟨g, k, none⟩ (I (-1 - (i : Int)))) := (Chg.ofStq hs).mono (fun j _ e => by rw [hd, e]; rfl)
  have e := upto_step x (-1 - (i : Int)) hk
  refine h.releft (x := upto x (-1 - (i : Int)) k) (x' := upto x (-1 - (i : Int)) (k + 1)) rfl rfl ?_ hc
  show (w.setCell ⟨g, k, none⟩ (I (-1 - (i : Int)))).ownsRow L 3 1 x.d (upto x (-1 - (i : Int)) (k + 1)).zs.length ((upto x (-1 - (i : Int)) (k + 1)).zs.map I)
  rw [upto_len, ← e, hd]
  show (w.setCell ⟨g, k, none⟩ (I (-1 - (i : Int)))).ownsRow L 3 1 _ _ (((upto x (-1 - (i : Int)) k).zs.set k (-1 - (i : Int))).map I)
  rw [List.map_set]
  exact h1
end Go.Proofs.YtkdndfdofhnagaaDoor
