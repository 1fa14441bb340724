import Derived.Test.YtaiknlnjahjeiaaPl4
namespace Go.Proofs.Ytaiknlnjahjeiaa
open Go.RowKit Go.PlainAid Go.MapKept
set_option linter.unusedVariables false
set_option linter.unusedSimpArgs false
/-- The parts of a pair of its own. -/
def PR.own (L0 kb : Nat) (p : PR) : List (Ent L0) := [boxE L0 p.pb (p.cs kb) 76, amE L0 p.ab p.mb p.L, rmE L0 p.rb p.v p.M, lsE L0 p]
def optE (L0 kb : Nat) (q : Option PR) : List (Ent L0) := match q with
  | none => []
  | some p => p.own L0 kb
def ptrV (q : Option PR) : Value := match q with
  | none => .pointer none
  | some p => .pointer (some ⟨p.pb, 0, none⟩)
def arrV (qs : List (Option PR)) : Array Value := (qs.map ptrV).toArray
/-- All that run holds. -/
def RU (L0 lb kb : Nat) (qs : List (Option PR)) (S : List RC) (bv : Value) (ts : List TD) : List (Ent L0) :=
  boxE L0 lb (arrV qs) 71 :: roE L0 S :: boxE L0 kb #[bv] 87 :: rowE L0 100 3 bv ts.length (flatT ts) :: (ts.flatMap (TD.ents L0) ++ qs.flatMap (optE L0 kb))
def QOk (K : Nat) (qs : List (Option PR)) (S : List RC) : Prop := ∀ p, some p ∈ qs → p.Ok K S
section
variable {L0 lb kb K i s1 s2 : Nat} {qs : List (Option PR)} {S S' : List RC} {bv bv' : Value} {ts ts' : List TD} {p p' : PR} {w w' : World}
theorem perm_idx {α : Type} : ∀ {l : List α} {i : Nat} {a : α}, l[i]? = some a → l.Perm (a :: l.eraseIdx i)
  | [], i, a, h => by simp at h
  | x :: t, 0, a, h => by simp at h; subst h; exact List.Perm.refl _
  | x :: t, i + 1, a, h => by
    have ih := perm_idx (l := t) (i := i) (a := a) (by simpa using h)
    rw [List.eraseIdx_cons_succ]
    exact (List.Perm.cons x ih).trans (List.Perm.swap _ _ _)
theorem ru_perm (hi : qs[i]? = some (some p)) : (RU L0 lb kb qs S bv ts).Perm (stE L0 kb p S bv ts (boxE L0 lb (arrV qs) 71 :: (qs.eraseIdx i).flatMap (optE L0 kb))) := by
  have h1 : (qs.flatMap (optE L0 kb)).Perm (p.own L0 kb ++ (qs.eraseIdx i).flatMap (optE L0 kb)) := by
    have := (perm_idx hi).flatMap_right (optE L0 kb)
    simpa [optE] using this
  unfold RU stE
  have e : (boxE L0 p.pb (p.cs kb) 76 :: amE L0 p.ab p.mb p.L :: rmE L0 p.rb p.v p.M :: lsE L0 p :: roE L0 S :: boxE L0 kb #[bv] 87 :: rowE L0 100 3 bv ts.length (flatT ts) :: (ts.flatMap (TD.ents L0) ++ (boxE L0 lb (arrV qs) 71 :: (qs.eraseIdx i).flatMap (optE L0 kb)))) = p.own L0 kb ++ (roE L0 S :: boxE L0 kb #[bv] 87 :: rowE L0 100 3 bv ts.length (flatT ts) :: (ts.flatMap (TD.ents L0) ++ (boxE L0 lb (arrV qs) 71 :: (qs.eraseIdx i).flatMap (optE L0 kb)))) := rfl
  rw [e]
  have h2 : (boxE L0 lb (arrV qs) 71 :: roE L0 S :: boxE L0 kb #[bv] 87 :: rowE L0 100 3 bv ts.length (flatT ts) :: (ts.flatMap (TD.ents L0) ++ qs.flatMap (optE L0 kb))).Perm (boxE L0 lb (arrV qs) 71 :: roE L0 S :: boxE L0 kb #[bv] 87 :: rowE L0 100 3 bv ts.length (flatT ts) :: (ts.flatMap (TD.ents L0) ++ (p.own L0 kb ++ (qs.eraseIdx i).flatMap (optE L0 kb)))) := by
    refine List.Perm.cons _ (List.Perm.cons _ (List.Perm.cons _ (List.Perm.cons _ ?_)))
    exact List.Perm.append_left _ h1
  refine h2.trans ?_
  have e1 : (boxE L0 lb (arrV qs) 71 :: roE L0 S :: boxE L0 kb #[bv] 87 :: rowE L0 100 3 bv ts.length (flatT ts) :: (ts.flatMap (TD.ents L0) ++ (p.own L0 kb ++ (qs.eraseIdx i).flatMap (optE L0 kb)))) = ([boxE L0 lb (arrV qs) 71] ++ (roE L0 S :: boxE L0 kb #[bv] 87 :: rowE L0 100 3 bv ts.length (flatT ts) :: ts.flatMap (TD.ents L0))) ++ (p.own L0 kb ++ (qs.eraseIdx i).flatMap (optE L0 kb)) := by simp
  have e2 : p.own L0 kb ++ (roE L0 S :: boxE L0 kb #[bv] 87 :: rowE L0 100 3 bv ts.length (flatT ts) :: (ts.flatMap (TD.ents L0) ++ (boxE L0 lb (arrV qs) 71 :: (qs.eraseIdx i).flatMap (optE L0 kb)))) = p.own L0 kb ++ (((roE L0 S :: boxE L0 kb #[bv] 87 :: rowE L0 100 3 bv ts.length (flatT ts) :: ts.flatMap (TD.ents L0)) ++ [boxE L0 lb (arrV qs) 71]) ++ (qs.eraseIdx i).flatMap (optE L0 kb)) := by simp
  rw [e1, e2]
  have h3 : ([boxE L0 lb (arrV qs) 71] ++ (roE L0 S :: boxE L0 kb #[bv] 87 :: rowE L0 100 3 bv ts.length (flatT ts) :: ts.flatMap (TD.ents L0))).Perm ((roE L0 S :: boxE L0 kb #[bv] 87 :: rowE L0 100 3 bv ts.length (flatT ts) :: ts.flatMap (TD.ents L0)) ++ [boxE L0 lb (arrV qs) 71]) := List.perm_append_comm
  refine (List.Perm.append_right _ h3).trans ?_
  rw [← List.append_assoc (p.own L0 kb), ← List.append_assoc]
  exact List.Perm.append_right _ List.perm_append_comm
theorem set_erase {α : Type} (l : List α) (i : Nat) (a : α) : (l.set i a).eraseIdx i = l.eraseIdx i := by
  induction l generalizing i with
  | nil => simp
  | cons x t ih =>
    cases i with
    | zero => simp
    | succ i => simp [ih]
theorem arr_set (hi : qs[i]? = some (some p)) (hp : p'.pb = p.pb) : arrV (qs.set i (some p')) = arrV qs := by
  unfold arrV
  rw [List.map_set]
  congr 1
  apply List.ext_getElem?
  intro j
  rw [List.getElem?_set]
  by_cases e : i = j
  · subst e
    rw [if_pos rfl]
    have hlt := (List.getElem?_eq_some_iff.1 hi).1
    rw [if_pos (by simpa using hlt), List.getElem?_map, hi]
    simp [ptrV, hp]
  · rw [if_neg e]
theorem ru_st (h : Held (RU L0 lb kb qs S bv ts) w) (hi : qs[i]? = some (some p)) : Held (stE L0 kb p S bv ts (boxE L0 lb (arrV qs) 71 :: (qs.eraseIdx i).flatMap (optE L0 kb))) w := h.perm (ru_perm hi)
theorem st_ru (hi : qs[i]? = some (some p)) (hp : p'.pb = p.pb) (h : Held (stE L0 kb p' S' bv' ts' (boxE L0 lb (arrV qs) 71 :: (qs.eraseIdx i).flatMap (optE L0 kb))) w) : Held (RU L0 lb kb (qs.set i (some p')) S' bv' ts') w := by
  have hlt := (List.getElem?_eq_some_iff.1 hi).1
  have hi' : (qs.set i (some p'))[i]? = some (some p') := by rw [List.getElem?_set, if_pos rfl, if_pos hlt]
  have hpm := (ru_perm (L0 := L0) (kb := kb) (lb := lb) (S := S') (bv := bv') (ts := ts') hi').symm
  rw [arr_set hi hp, set_erase] at hpm
  exact h.perm hpm
theorem QOk.mono {K' : Nat} (h : QOk K qs S) (hk : K ≤ K') (hs : ∀ c ∈ S, c ∈ S') : QOk K' qs S' := fun p hp => (h p hp).mono hk hs
theorem QOk.set (h : QOk K qs S) (hp : p'.Ok K S) : QOk K (qs.set i (some p')) S := fun p hpm => by
  rcases List.mem_or_eq_of_mem_set hpm with h1 | h1
  · exact h p h1
  · cases h1
    exact hp
theorem ru_box (h : Held (RU L0 lb kb qs S bv ts) w) : Blk w lb (arrV qs) 71 ∧ L0 ≤ lb := h.all (boxE L0 lb (arrV qs) 71) (by simp [RU])
theorem arr_at {j : Nat} {q : Option PR} (hq : qs[j]? = some q) : (arrV qs)[j]? = some (ptrV q) := by
  unfold arrV
  simp [hq]
theorem sub_flat {α β : Type} (f : α → List β) {l l' : List α} (h : l'.Sublist l) : (l'.flatMap f).Sublist (l.flatMap f) := by
  induction h with
  | slnil => exact List.Sublist.slnil
  | cons a _ ih => exact ih.trans (List.sublist_append_right _ _)
  | cons_cons a _ ih => exact List.Sublist.append (List.Sublist.refl _) ih
/-- The new pair of a copy. -/
theorem ru_copy {pb ab2 mb2 tb j : Nat} {L2 : List (List UInt8 × Ct)} {tv : Value} {M : List RC} (h : Held (RU L0 lb kb qs S bv ts) w) (hL : L0 ≤ w.heap.size) (hj : j < qs.length) (hb : Below w.heap.size w w') (ha : AM ab2 mb2 L2 w' ∧ ∀ k, ownB ab2 mb2 L2 k → w.heap.size ≤ k ∧ k < s1) (hm : RMap s1 tb tv M w') (ht : s1 ≤ tb ∧ tb < s2) (hms : ∀ k, tv.ownBlock = some k → k < s2) (hp : Blk w' pb #[.pointer (some ⟨ab2, 0, none⟩), .pointer (some ⟨tb, 0, none⟩), .slice none 0 0, .pointer (some ⟨kb, 0, none⟩)] 76 ∧ s2 ≤ pb) (hs1 : w.heap.size ≤ s1) (hs2 : s1 ≤ s2) :
    Held (RU L0 lb kb (qs.set j (some ⟨pb, ab2, mb2, L2, tb, tv, M, .slice none 0 0, 0⟩)) S bv ts) (w'.setCell ⟨lb, j, none⟩ (.pointer (some ⟨pb, 0, none⟩))) ∧ Below L0 w (w'.setCell ⟨lb, j, none⟩ (.pointer (some ⟨pb, 0, none⟩))) ∧ w'.frozen? ⟨lb, j, none⟩ = false ∧ ∃ u, w'.cell? ⟨lb, j, none⟩ = some u := by
  obtain ⟨P2, hP2⟩ : ∃ P2 : PR, P2 = ⟨pb, ab2, mb2, L2, tb, tv, M, .slice none 0 0, 0⟩ := ⟨_, rfl⟩
  rw [← hP2]
  have hw' := h.more hb
  have hlb := ru_box hw'
  -- what is dropped
  have hs : (boxE L0 lb (arrV qs) 71 :: (roE L0 S :: boxE L0 kb #[bv] 87 :: rowE L0 100 3 bv ts.length (flatT ts) :: (ts.flatMap (TD.ents L0) ++ (qs.eraseIdx j).flatMap (optE L0 kb)))).Sublist (RU L0 lb kb qs S bv ts) := by
    unfold RU
    refine List.Sublist.cons_cons _ (List.Sublist.cons_cons _ (List.Sublist.cons_cons _ (List.Sublist.cons_cons _ ?_)))
    exact List.Sublist.append (List.Sublist.refl _) (sub_flat _ (List.eraseIdx_sublist _ _))
  have hd : Held (boxE L0 lb (arrV qs) 71 :: (roE L0 S :: boxE L0 kb #[bv] 87 :: rowE L0 100 3 bv ts.length (flatT ts) :: (ts.flatMap (TD.ents L0) ++ (qs.eraseIdx j).flatMap (optE L0 kb)))) w' := ⟨fun e he => hw'.all e (hs.subset he), hw'.dj.sublist hs⟩
  have hlow : ∀ k, has (boxE L0 lb (arrV qs) 71 :: (roE L0 S :: boxE L0 kb #[bv] 87 :: rowE L0 100 3 bv ts.length (flatT ts) :: (ts.flatMap (TD.ents L0) ++ (qs.eraseIdx j).flatMap (optE L0 kb)))) k → k < w.heap.size := fun k ⟨e, he, hek⟩ => (h.typ ⟨e, hs.subset he, hek⟩).2
  -- the new pair's parts
  have e1 := hd.add (e := lsE L0 P2) (show (lsE L0 P2).P w' from by rw [hP2]; exact World.ownsRow_nil _ _ _ _) (fun k hk _ => by rw [hP2] at hk; cases hk)
  have e2 := e1.add (e := rmE L0 P2.rb P2.v P2.M) (show (rmE L0 P2.rb P2.v P2.M).P w' from by rw [hP2]; exact ⟨⟨hm.box, ownsRow_mono hm.row (Nat.le_trans hL hs1)⟩, by show L0 ≤ tb; omega⟩) (fun k hk hh => by
    have hk1 : s1 ≤ k := by
      rw [hP2] at hk
      rcases hk with hk | hk
      · have : k = tb := hk
        omega
      · exact (ownsRow_lt hm.row hk).1
    rcases has_cons.1 hh with h1 | h1
    · rw [hP2] at h1; cases h1
    · have := hlow k h1
      omega)
  have e3 := e2.add (e := amE L0 P2.ab P2.mb P2.L) (show (amE L0 P2.ab P2.mb P2.L).P w' from by rw [hP2]; exact ⟨ha.1, fun k hk => by have := ha.2 k hk; omega⟩) (fun k hk hh => by
    have hk1 : w.heap.size ≤ k ∧ k < s1 := by rw [hP2] at hk; exact ha.2 k hk
    rcases has_cons.1 hh with h1 | h1
    · rw [hP2] at h1
      rcases h1 with h1 | h1
      · have : k = tb := h1
        omega
      · have := (ownsRow_lt hm.row h1).1
        omega
    · rcases has_cons.1 h1 with h2 | h2
      · rw [hP2] at h2; cases h2
      · have := hlow k h2
        omega)
  have e4 := e3.add (e := boxE L0 P2.pb (P2.cs kb) 76) (show (boxE L0 P2.pb (P2.cs kb) 76).P w' from by rw [hP2]; exact ⟨hp.1, by show L0 ≤ pb; omega⟩) (fun k hk hh => by
    have hk1 : s2 ≤ k := by rw [hP2] at hk; have : k = pb := hk; omega
    rcases has_cons.1 hh with h1 | h1
    · rw [hP2] at h1; have := ha.2 k h1; omega
    · rcases has_cons.1 h1 with h2 | h2
      · rw [hP2] at h2
        rcases h2 with h2 | h2
        · have : k = tb := h2
          omega
        · have := hms k h2
          omega
      · rcases has_cons.1 h2 with h3 | h3
        · rw [hP2] at h3; cases h3
        · have := hlow k h3
          omega)
  have hj3 : j < (arrV qs).size := by unfold arrV; simpa using hj
  have hc : Chg (fun k => (boxE L0 lb (arrV qs) 71).bl k) w' (w'.setCell ⟨lb, j, none⟩ (.pointer (some ⟨pb, 0, none⟩))) := setCell_chg _ _ _ _
  have e5 : Held ([boxE L0 P2.pb (P2.cs kb) 76, amE L0 P2.ab P2.mb P2.L, rmE L0 P2.rb P2.v P2.M, lsE L0 P2] ++ boxE L0 lb (arrV qs) 71 :: (roE L0 S :: boxE L0 kb #[bv] 87 :: rowE L0 100 3 bv ts.length (flatT ts) :: (ts.flatMap (TD.ents L0) ++ (qs.eraseIdx j).flatMap (optE L0 kb)))) w' := e4
  have e6 := e5.at (e' := boxE L0 lb (arrV (qs.set j (some P2))) 71) hc ⟨by
      have : arrV (qs.set j (some P2)) = (arrV qs).setIfInBounds j (.pointer (some ⟨pb, 0, none⟩)) := by
        unfold arrV
        rw [List.map_set]
        rw [show ptrV (some P2) = .pointer (some ⟨pb, 0, none⟩) from by rw [hP2]; rfl]
        simp
      rw [this]
      exact hlb.1.set j _, hlb.2⟩ (fun k hk => Or.inl hk)
  refine ⟨?_, (hb.mono hL).trans (hc.below (Nat.le_trans hL hb.size) (fun k hk => by have : k = lb := hk; rw [this]; exact hlb.2)), hlb.1.frozen j, ?_⟩
  · have hi' : (qs.set j (some P2))[j]? = some (some P2) := by rw [List.getElem?_set, if_pos rfl, if_pos hj]
    refine e6.perm ?_
    have hpm := (ru_perm (L0 := L0) (kb := kb) (lb := lb) (S := S) (bv := bv) (ts := ts) hi').symm
    rw [set_erase] at hpm
    refine List.Perm.trans ?_ hpm
    unfold stE
    refine List.Perm.cons _ (List.Perm.cons _ (List.Perm.cons _ (List.Perm.cons _ ?_)))
    have e7 : (roE L0 S :: boxE L0 kb #[bv] 87 :: rowE L0 100 3 bv ts.length (flatT ts) :: (ts.flatMap (TD.ents L0) ++ (boxE L0 lb (arrV (qs.set j (some P2))) 71 :: (qs.eraseIdx j).flatMap (optE L0 kb)))) = (roE L0 S :: boxE L0 kb #[bv] 87 :: rowE L0 100 3 bv ts.length (flatT ts) :: ts.flatMap (TD.ents L0)) ++ (boxE L0 lb (arrV (qs.set j (some P2))) 71 :: (qs.eraseIdx j).flatMap (optE L0 kb)) := by simp
    have e8 : (boxE L0 lb (arrV (qs.set j (some P2))) 71 :: (roE L0 S :: boxE L0 kb #[bv] 87 :: rowE L0 100 3 bv ts.length (flatT ts) :: (ts.flatMap (TD.ents L0) ++ (qs.eraseIdx j).flatMap (optE L0 kb)))) = boxE L0 lb (arrV (qs.set j (some P2))) 71 :: ((roE L0 S :: boxE L0 kb #[bv] 87 :: rowE L0 100 3 bv ts.length (flatT ts) :: ts.flatMap (TD.ents L0)) ++ (qs.eraseIdx j).flatMap (optE L0 kb)) := by simp
    rw [e7, e8]
    exact List.perm_middle.symm
  · rw [hlb.1.cell j]
    exact ⟨_, Array.getElem?_eq_getElem hj3⟩
end
end Go.Proofs.Ytaiknlnjahjeiaa
