import Derived.Test.YtkdndfdofhnagaaDoorApart0
namespace Go.Proofs.YtkdndfdofhnagaaDoor
open Go.RowKit Go.PlainAid
set_option linter.unusedVariables false
set_option linter.unusedSimpArgs false
/-- The state within apart: the shelf z, and far with the answers fs grown. -/
structure FSt (L pb : Nat) (H : Nat → Prop) (z : ZS) (w0 w : World) (vf : Value) (fs : List Dat) : Prop where
  sh : Shelf L z w
  box : ∃ C, Blk w pb C 61 ∧ C[9]? = some z.vf ∧ C[10]? = some z.vw
  chg : Chg H w0 w
  sub : ∀ k, z.has k → H k
  old : ∀ k, H k → k < w0.heap.size
  low : L ≤ w0.heap.size
  far : Tail w L 48 vf fs.length (fs.map Dat.d)
  vn : ∀ k, vf.ownBlock = some k → w0.heap.size ≤ k
  row : ∀ f : Dat, f ∈ fs → w.ownsRow L 3 1 f.d f.zs.length (f.zs.map I)
  loc : ∀ (j : Nat) (f : Dat), fs[j]? = some f → ∃ x : Dat, z.ls[j]? = some x ∧ f.zs = x.zs ++ List.replicate 100 (-1000000 - (j : Int)) ∧ ∀ k, f.d.ownBlock = some k → x.d.ownBlock = some k ∨ w0.heap.size ≤ k
section
variable {L pb : Nat} {H : Nat → Prop} {z : ZS} {w0 w w' : World} {vf : Value} {fs : List Dat}
theorem FSt.c9 (h : FSt L pb H z w0 w vf fs) : w.cell? ⟨pb, 9, none⟩ = some z.vf := by obtain ⟨C, h1, h2, h3⟩ := h.box; rw [h1.cell 9]; exact h2
theorem FSt.c10 (h : FSt L pb H z w0 w vf fs) : w.cell? ⟨pb, 10, none⟩ = some z.vw := by obtain ⟨C, h1, h2, h3⟩ := h.box; rw [h1.cell 10]; exact h3
theorem FSt.lowW (h : FSt L pb H z w0 w vf fs) : L ≤ w.heap.size := Nat.le_trans h.low h.chg.size
theorem FSt.at_ {n i g off c : Nat} {x : Dat} (h : FSt L pb H z w0 w vf fs) (hv : z.vf = .slice (some ⟨g, off, none⟩) n c) (hi : z.ls[i]? = some x) : w.cell? ⟨g, off + i, none⟩ = some x.d := by
  obtain ⟨ao, cap, h1, _, h2⟩ := tail_form h.sh.left
  obtain ⟨g2, off2, h3, h4⟩ := h2 (by have := (List.getElem?_eq_some_iff.1 hi).1; omega)
  rw [hv, h3] at h1
  simp only [Value.slice.injEq, Option.some.injEq, Addr.mk.injEq] at h1
  obtain ⟨⟨rfl, rfl, _⟩, _, _⟩ := h1
  exact h4 i x.d (by rw [List.getElem?_map, hi]; rfl)
theorem FSt.mem (h : FSt L pb H z w0 w vf fs) {i : Nat} {x : Dat} (hi : z.ls[i]? = some x) : x ∈ z.dats ∧ x.d ∈ z.vals := by
  have hm : x ∈ z.dats := by unfold ZS.dats; exact List.mem_append.2 (Or.inr (List.mem_append.2 (Or.inl (List.mem_of_getElem? hi))))
  exact ⟨hm, by unfold ZS.vals; simp only [List.mem_cons, List.mem_map]; exact Or.inr (Or.inr (Or.inr (Or.inr ⟨x, hm, rfl⟩)))⟩
theorem FSt.dj {i j : Nat} {x y : Dat} (h : FSt L pb H z w0 w vf fs) (hi : z.ls[i]? = some x) (hj : z.ls[j]? = some y) (hlt : j < i) : Dj y.d x.d := by
  have h1 : (z.ls.map Dat.d).Sublist z.vals := by
    unfold ZS.vals ZS.dats
    refine List.Sublist.cons _ (List.Sublist.cons _ (List.Sublist.cons _ (List.Sublist.cons _ (List.Sublist.map _ ?_))))
    exact (List.sublist_append_left z.ls _).trans (List.sublist_append_right _ _)
  have h2 := List.pairwise_iff_getElem.1 (h.sh.dj.sublist h1)
  have li := (List.getElem?_eq_some_iff.1 hi)
  have lj := (List.getElem?_eq_some_iff.1 hj)
  have h3 := h2 j i (by rw [List.length_map]; exact lj.1) (by rw [List.length_map]; exact li.1) hlt
  rw [List.getElem_map, List.getElem_map, lj.2, li.2] at h3
  exact h3
theorem FSt.pbn (h : FSt L pb H z w0 w vf fs) : ¬ z.has pb := fun e => by
  obtain ⟨_, _, C, T, hB, hT⟩ := h.sh.typ e
  obtain ⟨D, h1, _⟩ := h.box
  have : ¬ (61 : TypeId) ≠ T := fun ne => h1.ne_t hB ne rfl
  rcases hT with rfl | rfl
  · exact this (by decide)
  · exact this (by decide)
end
theorem penned_vals (z : ZS) (i : Nat) (x : Dat) (k k' : Nat) : (penned z i x k).vals = (penned z i x k').vals := by simp [penned, setLs, ZS.vals, ZS.dats, upto]
theorem penned_at {z : ZS} {i : Nat} {x : Dat} (h : z.ls[i]? = some x) (k : Nat) : (penned z i x k).ls[i]? = some (upto x (-1 - (i : Int)) k) := by
  have hil : i < z.ls.length := (List.getElem?_eq_some_iff.1 h).1
  have ht : ((inked z.ls i).take i).length = i := by rw [List.length_take, inked_len]; omega
  show ((inked z.ls i).take i ++ upto x (-1 - (i : Int)) k :: (inked z.ls i).drop (i + 1))[i]? = _
  rw [List.getElem?_append_right (by omega), ht, Nat.sub_self]
  rfl
/-- A cell is written. -/
theorem FSt.pen {L pb : Nat} {H : Nat → Prop} {z : ZS} {w0 w : World} {i k g cap : Nat} {x : Dat} (h : FSt L pb H (penned z i x k) w0 w (.slice none 0 0) []) (hi : z.ls[i]? = some x) (hk : k < x.zs.length) (hd : x.d = .slice (some ⟨g, 0, none⟩) x.zs.length cap) :
    FSt L pb H (penned z i x (k + 1)) w0 (w.setCell ⟨g, k, none⟩ (.int .i64 (-1 - (i : Int)))) (.slice none 0 0) [] ∧ w.frozen? ⟨g, k, none⟩ = false ∧ ∃ u0, w.cell? ⟨g, k, none⟩ = some u0 := by
  obtain ⟨h1, h2, h3⟩ := h.sh.pen hk hd
  have hg : (penned z i x k).has g := ⟨x.d, (h.mem (penned_at hi k)).2, by rw [hd]; rfl⟩
  have hs := Stq.set g k (.int .i64 (-1 - (i : Int))) w
  refine ⟨⟨h1, ?_, h.chg.trans (Chg.ofStq hs) (fun j _ e => e ▸ h.sub g hg), fun j e => h.sub j ?_, h.old, h.low, tail_nil _ _ _, (fun k e => by cases e), (fun f hf => by cases hf), (fun j f hf => by cases hf)⟩, h2, h3⟩
  · obtain ⟨C, b1, b2, b3⟩ := h.box
    exact ⟨C, (Chg.ofStq hs).blk b1 (fun e => h.pbn (e ▸ hg)), b2, b3⟩
  · obtain ⟨y, hy, e2⟩ := e
    exact ⟨y, by rw [penned_vals z i x k (k + 1)]; exact hy, e2⟩
/-- The i-th grows. -/
structure GSt (L pb : Nat) (H : Nat → Prop) (z : ZS) (w0 w : World) (vf : Value) (fs : List Dat) (x : Dat) (mv : Value) (j : Nat) : Prop where
  f : FSt L pb H z w0 w vf fs
  at' : z.ls[fs.length]? = some x
  own : w.ownsRow L 3 1 mv (x.zs.length + j) ((x.zs ++ List.replicate j (-1000000 - (fs.length : Int))).map I)
  gn : ∀ k, mv.ownBlock = some k → x.d.ownBlock = some k ∨ (w0.heap.size ≤ k ∧ ∀ f ∈ fs, f.d.ownBlock ≠ some k)
section
variable {L pb j : Nat} {H : Nat → Prop} {z : ZS} {w0 w w' : World} {vf mv mv' vf' : Value} {fs : List Dat} {x : Dat}
theorem GSt.begin (h : FSt L pb H z w0 w vf fs) (hx : z.ls[fs.length]? = some x) : GSt L pb H z w0 w vf fs x x.d 0 :=
  ⟨h, hx, by simpa using h.sh.dat x (h.mem hx).1, fun k e => Or.inl e⟩
theorem GSt.grow (h : GSt L pb H z w0 w vf fs x mv j) (ho : w'.ownsRow L 3 1 mv' (x.zs.length + j + 1) (((x.zs ++ List.replicate j (-1000000 - (fs.length : Int))) ++ [-1000000 - (fs.length : Int)]).map I)) (hg : Grew w w' mv mv') (hin : ∀ (d : Value) (n' base' : Nat) (zs : List Value), n' ≤ x.zs.length + j → d.ownBlock = mv.ownBlock → w.ownsRow base' 3 1 d n' zs → w'.ownsRow base' 3 1 d n' zs) :
    GSt L pb H z w0 w' vf fs x mv' (j + 1) := by
  have hF := h.f
  have hx := hF.mem h.at'
  have hxh : ∀ k, x.d.ownBlock = some k → z.has k := fun k e => ⟨x.d, hx.2, e⟩
  have hso := split_at h.at'
  have key : Shelf L z w' := by
    cases hb : mv.ownBlock with
    | none => exact hF.sh.chg hg.chg (fun k _ e => by rw [hb] at e; cases e)
    | some g =>
      rcases h.gn g hb with h1 | h1
      · have := hF.sh.releft (x' := x) hso rfl (hin x.d x.zs.length L _ (by omega) (h1.trans hb.symm) (hF.sh.dat x hx.1)) (hg.chg.mono (fun k _ e => by rw [hb] at e; exact h1.trans e))
        rwa [← hso] at this
      · exact hF.sh.chg hg.chg (fun k hk e => by rw [hb] at e; cases e; have := hF.old _ (hF.sub _ hk); omega)
  have ht : ∀ k, mv.ownBlock = some k → ∃ cur, Blk w k cur 3 := fun k e => ownsRow_type h.own e
  refine ⟨⟨key, ?_, hF.chg.trans hg.chg (fun k hk e => ?_), hF.sub, hF.old, hF.low, tail_same hF.far (fun k e => ?_), hF.vn, fun f hf => ownsRow_same (hF.row f hf) (fun k e => ?_), hF.loc⟩, h.at', ?_, fun k e => ?_⟩
  · obtain ⟨C, b1, b2, b3⟩ := hF.box
    exact ⟨C, hg.chg.blk b1 (fun e => by obtain ⟨cur, h1⟩ := ht _ e; exact h1.ne_t b1 (by decide) rfl), b2, b3⟩
  · rcases h.gn k e with h1 | h1
    · exact hF.sub k (hxh k h1)
    · omega
  · obtain ⟨_, cur, h1⟩ := tail_blk hF.far e
    exact hg.chg.block k (Blk.lt h1) (fun e2 => by obtain ⟨cur2, h2⟩ := ht _ e2; exact Blk.ne_t h2 h1 (by decide) rfl)
  · refine hg.chg.block k (ownsRow_lt (hF.row f hf) e).2 (fun e2 => ?_)
    rcases h.gn k e2 with h1 | h1
    · obtain ⟨i, hi⟩ := List.getElem?_of_mem hf
      obtain ⟨y, hy, _, hl⟩ := hF.loc i f hi
      rcases hl k e with h2 | h2
      · exact hF.dj h.at' hy (List.getElem?_eq_some_iff.1 hi).1 k h2 h1
      · have := hF.old _ (hF.sub _ (hxh k h1)); omega
    · exact h1.2 f hf e
  · rw [show x.zs.length + (j + 1) = x.zs.length + j + 1 by omega, List.replicate_succ', ← List.append_assoc]
    exact ho
  · rcases hg.at' k e with h1 | h1
    · exact h.gn k h1
    · exact Or.inr ⟨Nat.le_trans hF.chg.size h1, fun f hf e2 => by have := (ownsRow_lt (hF.row f hf) e2).2; omega⟩
/-- What has grown is put behind the others. -/
theorem GSt.push (h : GSt L pb H z w0 w vf fs x mv 100) (hT : Tail w' L 48 vf' (fs.length + 1) (fs.map Dat.d ++ [mv])) (hc : Chg (fun k => vf.ownBlock = some k) w w') (hl : ∀ k, vf'.ownBlock = some k → vf.ownBlock = some k ∨ w.heap.size ≤ k) :
    FSt L pb H z w0 w' vf' (fs ++ [⟨mv, x.zs ++ List.replicate 100 (-1000000 - (fs.length : Int))⟩]) := by
  have hF := h.f
  have ht : ∀ k, vf.ownBlock = some k → ∃ cur, Blk w k cur 48 := fun k e => (tail_blk hF.far e).2
  have hrow : ∀ {d : Value} {n : Nat} {xs : List Value}, w.ownsRow L 3 1 d n xs → w'.ownsRow L 3 1 d n xs := fun {d n xs} ho => ownsRow_same ho (fun k e => hc.block k (ownsRow_lt ho e).2 (fun e2 => by
    obtain ⟨c1, h1⟩ := ht k e2
    obtain ⟨c2, h2⟩ := ownsRow_type ho e
    exact Blk.ne_t h1 h2 (by decide) rfl))
  refine ⟨hF.sh.chg hc (fun k hk e => by have := hF.old _ (hF.sub _ hk); have := hF.vn k e; omega), ?_, hF.chg.trans hc (fun k hk e => by have := hF.vn k e; omega), hF.sub, hF.old, hF.low, by simpa using hT, fun k e => ?_, fun f hf => ?_, fun i f hi => ?_⟩
  · obtain ⟨C, b1, b2, b3⟩ := hF.box
    exact ⟨C, hc.blk b1 (fun e => by obtain ⟨cur, h1⟩ := ht _ e; exact h1.ne_t b1 (by decide) rfl), b2, b3⟩
  · rcases hl k e with h1 | h1
    · exact hF.vn k h1
    · exact Nat.le_trans hF.chg.size h1
  · rcases List.mem_append.1 hf with h1 | h1
    · exact hrow (hF.row f h1)
    · simp at h1
      subst h1
      have := hrow h.own
      simpa using this
  · by_cases hlt : i < fs.length
    · rw [List.getElem?_append_left hlt] at hi
      exact hF.loc i f hi
    · have hle := (List.getElem?_eq_some_iff.1 hi).1
      simp at hle
      have : i = fs.length := by omega
      subst this
      rw [List.getElem?_append_right (Nat.le_refl _), Nat.sub_self] at hi
      simp at hi
      subst hi
      exact ⟨x, h.at', rfl, fun k e => (h.gn k e).imp id (fun h => h.1)⟩
end
end Go.Proofs.YtkdndfdofhnagaaDoor
