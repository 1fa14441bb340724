import Derived.Test.YtaiknlnjahjeiaaMk
import Derived.Deep.Cut
import Derived.BigQuiet
namespace Go.Proofs.Ytaiknlnjahjeiaa
open Go.RowKit Go.PlainAid Go.MapKept
set_option linter.unusedVariables false
set_option linter.unusedSimpArgs false
/-- An answer in the book: what it holds, and what has grown out of it. -/
structure EL where
  l : Value
  w : Value
  more : Value
  cur : List (List UInt8)
  gr : Option (List (List UInt8))
def EL.row (d : EL) : List Value := [d.l, d.w, d.more]
def flatE (D : List EL) : List Value := D.flatMap EL.row
def EL.ent (L0 : Nat) (d : EL) : Ent L0 := match d.gr with
  | none => nmE L0 d.l d.cur
  | some ys => grE L0 d.l d.cur.length (flatS d.cur) d.more ys.length (flatS ys)
def BK (L0 kb : Nat) (bv : Value) (D : List EL) (w : World) : Prop := Held (boxE L0 kb #[bv] 87 :: rowE L0 100 3 bv D.length (flatE D) :: D.map (EL.ent L0)) w
section
variable {L0 kb : Nat} {bv : Value} {A D2 D : List EL} {d d' : EL} {w w' : World} {XX : List (List UInt8)}
theorem BK.more (h : BK L0 kb bv D w) (hb : Below w.heap.size w w') : BK L0 kb bv D w' := Held.more h hb
theorem BK.box (h : BK L0 kb bv D w) : Blk w kb #[bv] 87 ∧ L0 ≤ kb := h.all (boxE L0 kb #[bv] 87) (List.mem_cons_self ..)
theorem BK.row (h : BK L0 kb bv D w) : w.ownsRow L0 100 3 bv D.length (flatE D) := h.all (rowE L0 100 3 bv D.length (flatE D)) (List.mem_cons_of_mem _ (List.mem_cons_self ..))
theorem flatE_at {D : List EL} {i : Nat} {d : EL} (j : Nat) (h : D[i]? = some d) (hj : j < 3) : (flatE D)[i * 3 + j]? = d.row[j]? := flat_at EL.row 3 (fun _ => rfl) D i j d h hj
theorem BK.cells {bg bn bc i : Nat} (h : BK L0 kb (.slice (some ⟨bg, 0, none⟩) bn bc) D w) (hd : D[i]? = some d) : w.cell? ⟨bg, i * 3, none⟩ = some d.l ∧ w.cell? ⟨bg, i * 3 + 1, none⟩ = some d.w ∧ w.cell? ⟨bg, i * 3 + 2, none⟩ = some d.more := by
  have hr := h.row
  have hlt := (List.getElem?_eq_some_iff.1 hd).1
  obtain ⟨g, c, hg, _, _, _, hc⟩ := own_at' hr (by omega)
  cases hg
  exact ⟨hc (i * 3) _ (flatE_at 0 hd (by decide)), hc (i * 3 + 1) _ (flatE_at 1 hd (by decide)), hc (i * 3 + 2) _ (flatE_at 2 hd (by decide))⟩
theorem BK.at (h : BK L0 kb bv (A ++ d :: D2) w) : (EL.ent L0 d).P w := h.all _ (List.mem_cons_of_mem _ (List.mem_cons_of_mem _ (List.mem_map.2 ⟨d, List.mem_append_right _ (List.mem_cons_self ..), rfl⟩)))
theorem BK.split (h : BK L0 kb bv (A ++ d :: D2) w) : Held ((boxE L0 kb #[bv] 87 :: rowE L0 100 3 bv (A ++ d :: D2).length (flatE (A ++ d :: D2)) :: A.map (EL.ent L0)) ++ EL.ent L0 d :: D2.map (EL.ent L0)) w := by
  unfold BK at h
  rw [List.map_append, List.map_cons] at h
  exact h
theorem BK.join (hr : flatE (A ++ d' :: D2) = flatE (A ++ d :: D2)) (h : Held ((boxE L0 kb #[bv] 87 :: rowE L0 100 3 bv (A ++ d :: D2).length (flatE (A ++ d :: D2)) :: A.map (EL.ent L0)) ++ EL.ent L0 d' :: D2.map (EL.ent L0)) w) : BK L0 kb bv (A ++ d' :: D2) w := by
  unfold BK
  rw [List.map_append, List.map_cons, hr]
  have e : (A ++ d' :: D2).length = (A ++ d :: D2).length := by simp
  rw [e]
  exact h
theorem el_mark {g1 M c1 k : Nat} (h : BK L0 kb bv (A ++ { d with cur := XX } :: D2) w) (hL : L0 ≤ w.heap.size) (hd : d.l = .slice (some ⟨g1, 0, none⟩) M c1 ∧ d.gr = none ∧ M = XX.length) (hk : k < M) (m : List UInt8) :
    BK L0 kb bv (A ++ { d with cur := XX.set k m } :: D2) (w.setCell ⟨g1, k, none⟩ (.string ⟨m.toArray⟩)) ∧ Below L0 w (w.setCell ⟨g1, k, none⟩ (.string ⟨m.toArray⟩)) ∧ w.frozen? ⟨g1, k, none⟩ = false ∧ ∃ u, w.cell? ⟨g1, k, none⟩ = some u := by
  obtain ⟨h1, h2, h3⟩ := hd
  have he : ∀ X, EL.ent L0 { d with cur := X } = nmE L0 (.slice (some ⟨g1, 0, none⟩) M c1) X := fun X => by simp only [EL.ent, h2, h1]
  have hs := h.split
  rw [he] at hs
  have hp := hs.perm List.perm_middle
  obtain ⟨a1, a2, a3, a4⟩ := nm_set (lo := none) h3 hp hL hk m
  refine ⟨BK.join (d := { d with cur := XX }) (by simp [flatE, EL.row]) ?_, a2, a3, a4⟩
  rw [he]
  exact a1.perm List.perm_middle.symm
end
section
variable {L0 kb II : Nat} {A D2 : List EL} {d : EL} {w w' : World}
theorem flatE_app (a b : List EL) : flatE (a ++ b) = flatE a ++ flatE b := by simp [flatE]
theorem flatE_len (a : List EL) : (flatE a).length = a.length * 3 := flat_len EL.row 3 (fun _ => rfl) a
/-- The third cell of an answer's row is set. -/
theorem flatE_set (v : Value) (X : List (List UInt8)) (Y : Option (List (List UInt8))) : flatE (A ++ { d with more := v, cur := X, gr := Y } :: D2) = (flatE (A ++ d :: D2)).set (A.length * 3 + 2) v := by
  rw [flatE_app, flatE_app, List.set_append_right _ _ (by rw [flatE_len]; omega), flatE_len, show A.length * 3 + 2 - A.length * 3 = 2 from by omega]
  rfl
theorem BK.setMore {bg bn bc : Nat} {e' : Ent L0} {d2 : EL} (v : Value) (h : Held ((boxE L0 kb #[.slice (some ⟨bg, 0, none⟩) bn bc] 87 :: rowE L0 100 3 (.slice (some ⟨bg, 0, none⟩) bn bc) (A ++ d :: D2).length (flatE (A ++ d :: D2)) :: A.map (EL.ent L0)) ++ e' :: D2.map (EL.ent L0)) w) (hL : L0 ≤ w.heap.size) (he : EL.ent L0 d2 = e') (hbn : bn = (A ++ d :: D2).length) (hd2 : flatE (A ++ d2 :: D2) = (flatE (A ++ d :: D2)).set (A.length * 3 + 2) v) :
    BK L0 kb (.slice (some ⟨bg, 0, none⟩) bn bc) (A ++ d2 :: D2) (w.setCell ⟨bg, A.length * 3 + 2, none⟩ v) ∧ Below L0 w (w.setCell ⟨bg, A.length * 3 + 2, none⟩ v) ∧ w.frozen? ⟨bg, A.length * 3 + 2, none⟩ = false := by
  have hr : w.ownsRow L0 100 3 (.slice (some ⟨bg, 0, none⟩) bn bc) bn (flatE (A ++ d :: D2)) := by
    have h1 := h.all (rowE L0 100 3 (.slice (some ⟨bg, 0, none⟩) bn bc) (A ++ d :: D2).length (flatE (A ++ d :: D2))) (by simp)
    rw [← hbn] at h1
    exact h1
  obtain ⟨h1, h2, _⟩ := own_cell (v := v) hr (k := A.length * 3 + 2) (by rw [hbn]; simp; omega)
  have hc : Chg (fun k => (rowE L0 100 3 (.slice (some ⟨bg, 0, none⟩) bn bc) (A ++ d :: D2).length (flatE (A ++ d :: D2))).bl k) w (w.setCell ⟨bg, A.length * 3 + 2, none⟩ v) := (setCell_chg _ _ _ _).mono (fun k _ e => by rw [e]; rfl)
  have hs : Held ([boxE L0 kb #[.slice (some ⟨bg, 0, none⟩) bn bc] 87] ++ rowE L0 100 3 (.slice (some ⟨bg, 0, none⟩) bn bc) (A ++ d :: D2).length (flatE (A ++ d :: D2)) :: (A.map (EL.ent L0) ++ e' :: D2.map (EL.ent L0))) w := h
  have hP : (rowE L0 100 3 (.slice (some ⟨bg, 0, none⟩) bn bc) (A ++ d2 :: D2).length (flatE (A ++ d2 :: D2))).P (w.setCell ⟨bg, A.length * 3 + 2, none⟩ v) := by
    show World.ownsRow _ L0 100 3 _ (A ++ d2 :: D2).length _
    rw [hd2, show (A ++ d2 :: D2).length = bn from by rw [hbn]; simp]
    exact h1
  have h3 := hs.at hc hP (fun k hk => Or.inl hk)
  refine ⟨?_, hc.below hL (fun k hk => (ownsRow_lt hr hk).1), h2⟩
  unfold BK
  rw [List.map_append, List.map_cons, he]
  exact h3
theorem el_start {bg bn bc : Nat} {n lc : Nat} {lo : Option Addr} (h : BK L0 kb (.slice (some ⟨bg, 0, none⟩) bn bc) (A ++ d :: D2) w) (hL : L0 ≤ w.heap.size) (hbn : bn = (A ++ d :: D2).length) (hg : d.gr = none) :
    BK L0 kb (.slice (some ⟨bg, 0, none⟩) bn bc) (A ++ { d with more := d.l, gr := some d.cur } :: D2) (w.setCell ⟨bg, A.length * 3 + 2, none⟩ d.l) ∧ Below L0 w (w.setCell ⟨bg, A.length * 3 + 2, none⟩ d.l) ∧ w.frozen? ⟨bg, A.length * 3 + 2, none⟩ = false := by
  have hs := h.split
  have he : EL.ent L0 d = nmE L0 d.l d.cur := by simp only [EL.ent, hg]
  rw [he] at hs
  have h2 := (gr_start rfl (hs.perm List.perm_middle)).perm List.perm_middle.symm
  exact BK.setMore d.l h2 hL rfl hbn (flatE_set d.l d.cur (some d.cur))
theorem el_grow {bg bn bc xc m : Nat} {xo : Option Addr} {ys : List (List UInt8)} (h : BK L0 kb (.slice (some ⟨bg, 0, none⟩) bn bc) (A ++ d :: D2) w) (hL : L0 ≤ w.heap.size) (hd : A.length = II ∧ bn = (A ++ d :: D2).length ∧ d.more = .slice xo m xc ∧ d.gr = some ys ∧ m = ys.length) (hm : m ≤ 100000) (z : List UInt8) :
    ∃ x5 c5 w5, (∀ ty, (Builtin.append_ #[39, 39] ty #[.slice xo m xc, .slice (some ⟨w.heap.size, 0, none⟩) 1 1]).run Try.prog (w.alloc (.cells #[.string ⟨z.toArray⟩] 9)) = .ok (.slice x5 (m + 1) c5) w5) ∧ w5.cell? ⟨bg, II * 3 + 2, none⟩ = some (.slice xo m xc) ∧ w5.frozen? ⟨bg, II * 3 + 2, none⟩ = false ∧ BK L0 kb (.slice (some ⟨bg, 0, none⟩) bn bc) (A ++ { d with more := .slice x5 (m + 1) c5, gr := some (ys ++ [z]) } :: D2) (w5.setCell ⟨bg, II * 3 + 2, none⟩ (.slice x5 (m + 1) c5)) ∧ Below L0 w (w5.setCell ⟨bg, II * 3 + 2, none⟩ (.slice x5 (m + 1) c5)) := by
  obtain ⟨rfl, hbn, hmo, hg, hml⟩ := hd
  have hs := h.split
  have he : EL.ent L0 d = grE L0 d.l d.cur.length (flatS d.cur) (.slice xo m xc) m (flatS ys) := by simp only [EL.ent, hg, hmo, ← hml]
  rw [he] at hs
  obtain ⟨x5, w5, a1, a2, a3⟩ := gr_app (hs.perm List.perm_middle) hL hm z
  have a2' := a2.perm List.perm_middle.symm
  obtain ⟨x6, c5, hx5, _⟩ := own_slice ((a2.all _ (List.mem_cons_self ..)).2.1)
  subst hx5
  have hL5 : L0 ≤ w5.heap.size := Nat.le_trans hL a3.size
  obtain ⟨b1, b2, b3⟩ := BK.setMore (d2 := { d with more := .slice x6 (m + 1) c5, gr := some (ys ++ [z]) }) (.slice x6 (m + 1) c5) a2' hL5 (by simp only [EL.ent, flatS_append]; rw [List.length_append, ← hml]; rfl) hbn (flatE_set (.slice x6 (m + 1) c5) d.cur (some (ys ++ [z])))
  refine ⟨x6, c5, w5, a1, ?_, b3, b1, a3.trans b2⟩
  have hr5 : w5.ownsRow L0 100 3 (.slice (some ⟨bg, 0, none⟩) bn bc) bn (flatE (A ++ d :: D2)) := by
    have h1 := a2'.all (rowE L0 100 3 (.slice (some ⟨bg, 0, none⟩) bn bc) (A ++ d :: D2).length (flatE (A ++ d :: D2))) (by simp)
    rw [← hbn] at h1
    exact h1
  obtain ⟨g, c, hgg, _, _, _, hc⟩ := own_at' hr5 (by rw [hbn]; simp only [List.length_append, List.length_cons]; omega)
  cases hgg
  rw [← hmo]
  exact hc (A.length * 3 + 2) _ (flatE_at (D := A ++ d :: D2) (i := A.length) 2 (by simp) (by decide))
end
end Go.Proofs.Ytaiknlnjahjeiaa
