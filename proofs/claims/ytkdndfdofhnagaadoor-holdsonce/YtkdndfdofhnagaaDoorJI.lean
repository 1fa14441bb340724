import Derived.Test.YtkdndfdofhnagaaDoorPk
import Derived.Laws.AppendOwnNone
namespace Go.Proofs.YtkdndfdofhnagaaDoor
open Go.RowKit Go.PlainAid
set_option linter.unusedVariables false
set_option linter.unusedSimpArgs false
/-- The answers are as they were left. -/
structure ZFull (z : ZS) : Prop where
  lens : z.ms.length = z.ks.length
  full : ∀ (i : Nat) (x : Dat) (m : Int), z.ks[i]? = some x → z.ms[i]? = some m → ∀ u ∈ x.zs, u = m
  few : z.ks.length ≤ 5
  short : ∀ x ∈ z.dats, x.zs.length ≤ 16
  same : z.ws.map Dat.zs = z.ls.map Dat.zs
set_option maxRecDepth 100000 in
set_option maxHeartbeats 3200000 in
theorem stands_any {L pb : Nat} {z : ZS} (w : World) (h : Shelf L z w) (hF : ZFull z) (c6 : w.cell? ⟨pb, 6, none⟩ = some z.vl) (c7 : w.cell? ⟨pb, 7, none⟩ = some z.vm) :
    Calls Tryd.prog 11 #[.pointer (some ⟨pb, 0, none⟩)] w fun e w' => e = .returned (.bool true) ∧ ∃ q, w' = w.drewN q := by
  obtain ⟨vbo, vbc, hvb, _, hbat⟩ := tail_form h.lists
  obtain ⟨vmo, vmc, hvm, _, hmat⟩ := tail_form h.marks
  rw [hvb] at c6
  rw [hvm] at c7
  have hkept := h.dat
  have hn := hF.few
  rw [hF.lens] at hvm c7 hmat
  clear h
  go_enter Tryd.func11, Tryd.ntmps11
  go_wp2
  go_loopw [3, 4] (fun i _ wr => ∃ k q : Nat, k ≤ z.ks.length ∧ i = .int .i64 k ∧ wr = w.drewN q) (fun i _ _ => z.ks.length - (intOf i).toNat)
  case atStart => exact ⟨0, 0, Nat.zero_le _, rfl, rfl⟩
  case round =>
    obtain ⟨k, q, hk, rfl, rfl⟩ := hrel
    have d2 : (w.drewN q).cell? ⟨pb, 6, none⟩ = some (.slice vbo z.ks.length vbc) := c6
    have d4 : (w.drewN q).cell? ⟨pb, 7, none⟩ = some (.slice vmo z.ks.length vmc) := c7
    by_cases hlt : k < z.ks.length
    · obtain ⟨⟨d, bs⟩, hx⟩ : ∃ x, z.ks[k]? = some x := ⟨z.ks[k]'hlt, List.getElem?_eq_getElem _⟩
      obtain ⟨mk, hx2⟩ : ∃ x, z.ms[k]? = some x := ⟨z.ms[k]'(by rw [hF.lens]; exact hlt), List.getElem?_eq_getElem _⟩
      obtain ⟨g, off, rfl, hc⟩ := hbat (by omega)
      obtain ⟨g2, off2, rfl, hc2⟩ := hmat (by omega)
      have e1 := hc k d (by rw [List.getElem?_map, hx]; rfl)
      have e2 := hc2 k (.int .i64 mk) (by rw [List.getElem?_map, hx2]; rfl)
      have hmem : (⟨d, bs⟩ : Dat) ∈ z.dats := List.mem_append.2 (Or.inl (List.mem_of_getElem? hx))
      have ho := hkept _ hmem
      have hmk := hF.full k _ mk hx hx2
      have hbl := hF.short _ hmem
      simp only at ho hmk hbl
      obtain ⟨dao, dcap, rfl, _, _, hf⟩ := own_read ho
      have HF : Hid _ := hf
      have HM : Hid _ := hmk
      have HK : Hid _ := hkept
      clear hc hc2 hbat hmat ho hf hmk hkept hmem
      go_wp2
      go_loopw [4] (fun j wr => ∃ j' q' : Nat, j' ≤ bs.length ∧ j = .int .i64 j' ∧ wr = w.drewN q') (fun j _ => bs.length - (intOf j).toNat)
      case atStart => exact ⟨0, q, Nat.zero_le _, rfl, rfl⟩
      case round =>
        obtain ⟨j, q', hj, rfl, rfl⟩ := hrel
        have p2 : (w.drewN q').cell? ⟨pb, 6, none⟩ = some (.slice (some ⟨g, off, none⟩) z.ks.length vbc) := c6
        have p4 : (w.drewN q').cell? ⟨pb, 7, none⟩ = some (.slice (some ⟨g2, off2, none⟩) z.ks.length vmc) := c7
        have p5 : (w.drewN q').cell? ⟨g, off + k, none⟩ = some (.slice dao bs.length dcap) := e1
        have p6 : (w.drewN q').cell? ⟨g2, off2 + k, none⟩ = some (.int .i64 mk) := e2
        by_cases hjl : j < bs.length
        · obtain ⟨u, hu⟩ : ∃ u, bs[j]? = some u := ⟨bs[j]'hjl, List.getElem?_eq_getElem _⟩
          obtain ⟨b, rfl, _, _, hcc⟩ := HF.out (by omega)
          have hmu := HM.out u (List.mem_of_getElem? hu)
          subst hmu
          have e7 : w.cell? ⟨b, j, none⟩ = some (.int .i64 u) := hcc j _ (by rw [List.getElem?_map, hu]; rfl)
          have p7 : (w.drewN q').cell? ⟨b, j, none⟩ = some (.int .i64 u) := e7
          clear hcc hu
          go_wp2
          go_quiet (fail)
          go_wp2
          go_roundw
          case rel => exact ⟨j + 1, _, by omega, by go_num, rfl⟩
          case measure => simp [intOf]; omega
        · go_wp2
          go_roundw
          case rel => exact ⟨k + 1, _, by omega, by go_num, rfl⟩
          case measure => simp [intOf]; omega
    · go_wp2
      go_ret
      exact ⟨rfl, _, rfl⟩
end Go.Proofs.YtkdndfdofhnagaaDoor
namespace Go.Proofs.YtkdndfdofhnagaaDoor
open Go.RowKit Go.PlainAid
set_option linter.unusedVariables false
set_option linter.unusedSimpArgs false
section
variable {L : Nat} {z z' : ZS} {w w' : World} {A : Nat → Prop}
theorem Shelf.blt (h : Shelf L z w) : ∀ x ∈ z.vals, ∀ k, x.ownBlock = some k → k < w.heap.size := fun x hx k hk => (h.typ ⟨x, hx, hk⟩).2.1
theorem Shelf.swap (h : Shelf L z w) {u u' : Value} {R : List Value} (hp : z.vals.Perm (u :: R)) (hp' : z'.vals.Perm (u' :: R)) (hc : Chg (fun k => u.ownBlock = some k) w w') (hu : ∀ k, u'.ownBlock = some k → u.ownBlock = some k ∨ w.heap.size ≤ k) :
    z'.vals.Pairwise Dj ∧ (∀ y ∈ R, ∀ g, y.ownBlock = some g → w'.heap[g]? = w.heap[g]?) ∧ (∀ k, z'.has k → z.has k ∨ w.heap.size ≤ k) := by
  obtain ⟨h1, h2⟩ := dj_swap hp hp' h.dj hu h.blt
  refine ⟨h1, fun y hy g hg => hc.block g (h.blt y (hp.mem_iff.2 (by simp [hy])) g hg) (fun e => h2 y hy g e hg), fun k hk => ?_⟩
  obtain ⟨y, hy, e⟩ := hk
  rcases List.mem_cons.1 (hp'.mem_iff.1 hy) with rfl | hy
  · rcases hu k e with h3 | h3
    · exact Or.inl ⟨u, hp.mem_iff.2 (by simp), h3⟩
    · exact Or.inr h3
  · exact Or.inl ⟨y, hp.mem_iff.2 (by simp [hy]), e⟩
theorem permF (z : ZS) : z.vals.Perm (z.vf :: z.vl :: z.vm :: z.vw :: z.dats.map Dat.d) := (List.perm_middle (l₁ := [z.vl, z.vm]))
theorem permW (z : ZS) : z.vals.Perm (z.vw :: z.vl :: z.vm :: z.vf :: z.dats.map Dat.d) := (List.perm_middle (l₁ := [z.vl, z.vm, z.vf]))
theorem permM (z : ZS) : z.vals.Perm (z.vm :: z.vl :: z.vf :: z.vw :: z.dats.map Dat.d) := (List.perm_middle (l₁ := [z.vl]))
theorem dats_left {x : Dat} (hf : z.fl = [x]) : (z.ks ++ (z.ls ++ [x] ++ (z.ws ++ []))).Perm z.dats := by
  unfold ZS.dats
  rw [hf, List.append_nil, List.append_assoc]
  exact List.Perm.append_left _ (List.Perm.append_left _ List.perm_append_comm)
theorem dats_were {x : Dat} (hf : z.fl = [x]) : (z.ks ++ (z.ls ++ (z.ws ++ [x] ++ []))).Perm z.dats := by
  unfold ZS.dats
  rw [hf, List.append_nil]
theorem dats_lists {x : Dat} (hf : z.fl = [x]) : (z.ks ++ [x] ++ (z.ls ++ (z.ws ++ []))).Perm z.dats := by
  unfold ZS.dats
  rw [hf, List.append_nil, List.append_assoc]
  refine List.Perm.append_left _ ?_
  have : (z.ls ++ (z.ws ++ [x])) = (z.ls ++ z.ws) ++ [x] := by simp
  rw [this]
  exact List.perm_append_comm (l₁ := [x])
def toLeft (z : ZS) (x : Dat) (u : Value) : ZS := { z with vf := u, ls := z.ls ++ [x], fl := [] }
def toWere (z : ZS) (x : Dat) (u : Value) : ZS := { z with vw := u, ws := z.ws ++ [x], fl := [] }
def toLists (z : ZS) (x : Dat) (u : Value) : ZS := { z with vl := u, ks := z.ks ++ [x], fl := [] }
def toMarks (z : ZS) (m : Int) (u : Value) : ZS := { z with vm := u, ms := z.ms ++ [m] }
theorem Shelf.toLeft (h : Shelf L z w) {x : Dat} (hf : z.fl = [x]) {u : Value} (hT : Tail w' L 48 u (z.ls.length + 1) (z.ls.map Dat.d ++ [x.d])) (hc : Chg (fun k => z.vf.ownBlock = some k) w w') (hu : ∀ k, u.ownBlock = some k → z.vf.ownBlock = some k ∨ w.heap.size ≤ k) :
    Shelf L (toLeft z x u) w' ∧ (∀ k, (toLeft z x u).has k → z.has k ∨ w.heap.size ≤ k) := by
  have hd := dats_left hf
  have hp' : (YtkdndfdofhnagaaDoor.toLeft z x u).vals.Perm (u :: z.vl :: z.vm :: z.vw :: z.dats.map Dat.d) := (permF _).trans (List.Perm.cons _ (List.Perm.cons _ (List.Perm.cons _ (List.Perm.cons _ (hd.map _)))))
  obtain ⟨h1, h2, h3⟩ := h.swap (permF z) hp' hc hu
  exact ⟨⟨tail_same h.lists (h2 z.vl (by simp)), tail_same h.marks (h2 z.vm (by simp)), by simpa [YtkdndfdofhnagaaDoor.toLeft] using hT, tail_same h.were (h2 z.vw (by simp)), fun y hy => ownsRow_same (h.dat y (hd.mem_iff.1 hy)) (h2 y.d (by simp only [List.mem_cons, List.mem_map]; exact Or.inr (Or.inr (Or.inr ⟨y, hd.mem_iff.1 hy, rfl⟩)))), h1⟩, h3⟩
theorem Shelf.toWere (h : Shelf L z w) {x : Dat} (hf : z.fl = [x]) {u : Value} (hT : Tail w' L 48 u (z.ws.length + 1) (z.ws.map Dat.d ++ [x.d])) (hc : Chg (fun k => z.vw.ownBlock = some k) w w') (hu : ∀ k, u.ownBlock = some k → z.vw.ownBlock = some k ∨ w.heap.size ≤ k) :
    Shelf L (toWere z x u) w' ∧ (∀ k, (toWere z x u).has k → z.has k ∨ w.heap.size ≤ k) := by
  have hd := dats_were hf
  have hp' : (YtkdndfdofhnagaaDoor.toWere z x u).vals.Perm (u :: z.vl :: z.vm :: z.vf :: z.dats.map Dat.d) := (permW _).trans (List.Perm.cons _ (List.Perm.cons _ (List.Perm.cons _ (List.Perm.cons _ (hd.map _)))))
  obtain ⟨h1, h2, h3⟩ := h.swap (permW z) hp' hc hu
  exact ⟨⟨tail_same h.lists (h2 z.vl (by simp)), tail_same h.marks (h2 z.vm (by simp)), tail_same h.left (h2 z.vf (by simp)), by simpa [YtkdndfdofhnagaaDoor.toWere] using hT, fun y hy => ownsRow_same (h.dat y (hd.mem_iff.1 hy)) (h2 y.d (by simp only [List.mem_cons, List.mem_map]; exact Or.inr (Or.inr (Or.inr ⟨y, hd.mem_iff.1 hy, rfl⟩)))), h1⟩, h3⟩
theorem Shelf.toLists (h : Shelf L z w) {x : Dat} (hf : z.fl = [x]) {u : Value} (hT : Tail w' L 48 u (z.ks.length + 1) (z.ks.map Dat.d ++ [x.d])) (hc : Chg (fun k => z.vl.ownBlock = some k) w w') (hu : ∀ k, u.ownBlock = some k → z.vl.ownBlock = some k ∨ w.heap.size ≤ k) :
    Shelf L (toLists z x u) w' ∧ (∀ k, (toLists z x u).has k → z.has k ∨ w.heap.size ≤ k) := by
  have hd := dats_lists hf
  have hp' : (YtkdndfdofhnagaaDoor.toLists z x u).vals.Perm (u :: z.vm :: z.vf :: z.vw :: z.dats.map Dat.d) := List.Perm.cons _ (List.Perm.cons _ (List.Perm.cons _ (List.Perm.cons _ (hd.map _))))
  obtain ⟨h1, h2, h3⟩ := h.swap (List.Perm.refl _) hp' hc hu
  exact ⟨⟨by simpa [YtkdndfdofhnagaaDoor.toLists] using hT, tail_same h.marks (h2 z.vm (by simp)), tail_same h.left (h2 z.vf (by simp)), tail_same h.were (h2 z.vw (by simp)), fun y hy => ownsRow_same (h.dat y (hd.mem_iff.1 hy)) (h2 y.d (by simp only [List.mem_cons, List.mem_map]; exact Or.inr (Or.inr (Or.inr ⟨y, hd.mem_iff.1 hy, rfl⟩)))), h1⟩, h3⟩
theorem Shelf.toMarks (h : Shelf L z w) {m : Int} {u : Value} (hT : Tail w' L 3 u (z.ms.length + 1) (z.ms.map I ++ [I m])) (hc : Chg (fun k => z.vm.ownBlock = some k) w w') (hu : ∀ k, u.ownBlock = some k → z.vm.ownBlock = some k ∨ w.heap.size ≤ k) :
    Shelf L (toMarks z m u) w' ∧ (∀ k, (toMarks z m u).has k → z.has k ∨ w.heap.size ≤ k) := by
  have hp' : (YtkdndfdofhnagaaDoor.toMarks z m u).vals.Perm (u :: z.vl :: z.vf :: z.vw :: z.dats.map Dat.d) := permM _
  obtain ⟨h1, h2, h3⟩ := h.swap (permM z) hp' hc hu
  exact ⟨⟨tail_same h.lists (h2 z.vl (by simp)), by simpa [YtkdndfdofhnagaaDoor.toMarks] using hT, tail_same h.left (h2 z.vf (by simp)), tail_same h.were (h2 z.vw (by simp)), fun y hy => ownsRow_same (h.dat y hy) (h2 y.d (by simp only [List.mem_cons, List.mem_map]; exact Or.inr (Or.inr (Or.inr ⟨y, hy, rfl⟩)))), h1⟩, h3⟩
/-- The first of a Tail is left out. -/
theorem tail_cut {e n : Nat} {ao : Option Addr} {cap : Nat} {u : Value} {xs : List Value} (h : Tail w L e (.slice ao (n + 1) cap) (n + 1) (u :: xs)) : ∃ g off, ao = some ⟨g, off, none⟩ ∧ Tail w L e (.slice (some ⟨g, off + 1, none⟩) n (cap - 1)) n xs := by
  rcases h.2 with ⟨h1, h2⟩ | ⟨g, off, c, h1, h2, ⟨cur, h3, h4⟩, h5, h6⟩
  · omega
  · cases h1
    refine ⟨g, off, rfl, by simpa using h.1, Or.inr ⟨g, off + 1, cap - 1, rfl, h2, ⟨cur, h3, by omega⟩, by omega, fun j v hv => ?_⟩⟩
    have := h6 (j + 1) v (by simpa using hv)
    rwa [show off + (j + 1) = off + 1 + j by omega] at this
def cutLists (z : ZS) (u : Value) : ZS := { z with vl := u, ks := z.ks.tail }
def cutMarks (z : ZS) (u : Value) : ZS := { z with vm := u, ms := z.ms.tail }
theorem Shelf.cutLists (h : Shelf L z w) {u : Value} (hT : Tail w L 48 u z.ks.tail.length (z.ks.tail.map Dat.d)) (hu : u.ownBlock = z.vl.ownBlock) : Shelf L (cutLists z u) w ∧ (∀ k, (cutLists z u).has k → z.has k) := by
  have hsub : (YtkdndfdofhnagaaDoor.cutLists z u).dats.Sublist z.dats := (List.tail_sublist _).append (List.Sublist.refl _)
  have hdj := h.dj
  refine ⟨⟨hT, h.marks, h.left, h.were, fun y hy => h.dat y (hsub.subset hy), ?_⟩, fun k hk => ?_⟩
  · unfold ZS.vals at hdj ⊢
    have h1 := hdj.sublist (List.Sublist.cons_cons z.vl (List.Sublist.cons_cons z.vm (List.Sublist.cons_cons z.vf (List.Sublist.cons_cons z.vw (hsub.map Dat.d)))))
    rw [List.pairwise_cons] at h1 ⊢
    exact ⟨fun y hy k hk => h1.1 y hy k (hu ▸ hk), h1.2⟩
  · obtain ⟨y, hy, e⟩ := hk
    simp only [ZS.vals, YtkdndfdofhnagaaDoor.cutLists, List.mem_cons] at hy
    rcases hy with rfl | hy
    · exact ⟨z.vl, by simp [ZS.vals], hu ▸ e⟩
    · refine ⟨y, ?_, e⟩
      simp only [ZS.vals, List.mem_cons]
      rcases hy with hy | hy | hy | hy
      · exact Or.inr (Or.inl hy)
      · exact Or.inr (Or.inr (Or.inl hy))
      · exact Or.inr (Or.inr (Or.inr (Or.inl hy)))
      · exact Or.inr (Or.inr (Or.inr (Or.inr ((hsub.map Dat.d).subset hy))))
theorem Shelf.cutMarks (h : Shelf L z w) {u : Value} (hT : Tail w L 3 u z.ms.tail.length (z.ms.tail.map I)) (hu : u.ownBlock = z.vm.ownBlock) : Shelf L (cutMarks z u) w ∧ (∀ k, (cutMarks z u).has k → z.has k ∨ w.heap.size ≤ k) := by
  have hp' : (YtkdndfdofhnagaaDoor.cutMarks z u).vals.Perm (u :: z.vl :: z.vf :: z.vw :: z.dats.map Dat.d) := permM _
  obtain ⟨h1, h2, h3⟩ := h.swap (permM z) hp' (Chg.refl _ _) (fun k e => Or.inl (hu ▸ e))
  exact ⟨⟨h.lists, hT, h.left, h.were, h.dat, h1⟩, h3⟩
def setFl (z : ZS) (l : List Dat) : ZS := { z with fl := l }
theorem permX {x : Dat} (hf : z.fl = [x]) : z.vals.Perm (x.d :: z.vl :: z.vm :: z.vf :: z.vw :: (z.ks ++ (z.ls ++ z.ws)).map Dat.d) := by
  unfold ZS.vals ZS.dats
  rw [hf]
  have e : (z.ks ++ (z.ls ++ (z.ws ++ [x]))).map Dat.d = (z.ks ++ (z.ls ++ z.ws)).map Dat.d ++ [x.d] := by simp
  rw [e]
  exact (List.perm_append_comm (l₁ := z.vl :: z.vm :: z.vf :: z.vw :: (z.ks ++ (z.ls ++ z.ws)).map Dat.d) (l₂ := [x.d]))
/-- The answer under way is written. -/
theorem Shelf.refloat (h : Shelf L z w) {x x' : Dat} (hf : z.fl = [x]) (hd : x'.d = x.d) (ho : w'.ownsRow L 3 1 x'.d x'.zs.length (x'.zs.map I)) (hc : Chg (fun k => x.d.ownBlock = some k) w w') : Shelf L (setFl z [x']) w' ∧ (∀ k, (setFl z [x']).has k → z.has k ∨ w.heap.size ≤ k) := by
  have hp' : (setFl z [x']).vals.Perm (x'.d :: z.vl :: z.vm :: z.vf :: z.vw :: (z.ks ++ (z.ls ++ z.ws)).map Dat.d) := permX rfl
  obtain ⟨h1, h2, h3⟩ := h.swap (permX hf) hp' hc (fun k e => Or.inl (hd ▸ e))
  refine ⟨⟨tail_same h.lists (h2 z.vl (by simp)), tail_same h.marks (h2 z.vm (by simp)), tail_same h.left (h2 z.vf (by simp)), tail_same h.were (h2 z.vw (by simp)), fun y hy => ?_, h1⟩, h3⟩
  simp only [ZS.dats, setFl, List.mem_append, List.mem_singleton] at hy
  have old : y ∈ z.ks ++ (z.ls ++ z.ws) → w'.ownsRow L 3 1 y.d y.zs.length (y.zs.map I) := fun hm => ownsRow_same (h.dat y (by
      simp only [ZS.dats, List.mem_append] at hm ⊢
      rcases hm with hm | hm | hm
      · exact Or.inl hm
      · exact Or.inr (Or.inl hm)
      · exact Or.inr (Or.inr (Or.inl hm)))) (h2 y.d (by
      simp only [List.mem_cons, List.mem_map]
      exact Or.inr (Or.inr (Or.inr (Or.inr ⟨y, hm, rfl⟩)))))
  rcases hy with hy | hy | hy | rfl
  · exact old (by simp [hy])
  · exact old (by simp [hy])
  · exact old (by simp [hy])
  · exact ho
/-- An answer has come, in memory of its own. -/
theorem Shelf.float (h : Shelf L z w) (hf : z.fl = []) {x : Dat} (ho : w.ownsRow L 3 1 x.d x.zs.length (x.zs.map I)) (hn : ∀ k, x.d.ownBlock = some k → ¬ z.has k) : Shelf L (setFl z [x]) w ∧ (∀ k, (setFl z [x]).has k → z.has k ∨ x.d.ownBlock = some k) := by
  have hp' : (setFl z [x]).vals.Perm (x.d :: z.vals) := by
    refine (permX (z := setFl z [x]) rfl).trans ?_
    unfold ZS.vals ZS.dats setFl
    rw [hf, List.append_nil]
  refine ⟨⟨h.lists, h.marks, h.left, h.were, fun y hy => ?_, (dj_perm hp').2 (List.pairwise_cons.2 ⟨fun y hy k h1 h2 => hn k h1 ⟨y, hy, h2⟩, h.dj⟩)⟩, fun k hk => ?_⟩
  · simp only [ZS.dats, setFl, List.mem_append, List.mem_singleton] at hy
    rcases hy with hy | hy | hy | rfl
    · exact h.dat y (by simp [ZS.dats, hy])
    · exact h.dat y (by simp [ZS.dats, hy])
    · exact h.dat y (by simp [ZS.dats, hy])
    · exact ho
  · obtain ⟨y, hy, e⟩ := hk
    rcases List.mem_cons.1 (hp'.mem_iff.1 hy) with rfl | hy
    · exact Or.inr e
    · exact Or.inl ⟨y, hy, e⟩
/-- The floating row's cells, apart from all else. -/
theorem Shelf.flne (h : Shelf L z w) {x : Dat} (hf : z.fl = [x]) : ∀ y ∈ z.vl :: z.vm :: z.vf :: z.vw :: (z.ks ++ (z.ls ++ z.ws)).map Dat.d, Dj x.d y := (List.pairwise_cons.1 ((dj_perm (permX hf)).1 h.dj)).1
end
end Go.Proofs.YtkdndfdofhnagaaDoor
namespace Go.Proofs.YtkdndfdofhnagaaDoor
open Go.RowKit Go.PlainAid
set_option linter.unusedVariables false
set_option linter.unusedSimpArgs false
/-- The state within keep: shelf z and mark m, since the world w0 with the shelf z0. -/
structure KSt (L : Nat) (a : PA) (p : PS) (z : ZS) (m : Int) (w0 w : World) : Prop where
  sh : Shelf L z w
  box : Blk w a.pb (pairC a { p with z := z, mark := m }) 61
  chg : Chg (fun k => k = a.pb ∨ p.z.has k) w0 w
  new : ∀ k, z.has k → p.z.has k ∨ w0.heap.size ≤ k
  low : L ≤ w0.heap.size
section
variable {L : Nat} {a : PA} {p : PS} {z z' : ZS} {m : Int} {w0 w w' : World} {A : Nat → Prop}
theorem KSt.c6 (h : KSt L a p z m w0 w) : w.cell? ⟨a.pb, 6, none⟩ = some z.vl := h.box.cell 6
theorem KSt.c7 (h : KSt L a p z m w0 w) : w.cell? ⟨a.pb, 7, none⟩ = some z.vm := h.box.cell 7
theorem KSt.c8 (h : KSt L a p z m w0 w) : w.cell? ⟨a.pb, 8, none⟩ = some (.int .i64 m) := h.box.cell 8
theorem KSt.c9 (h : KSt L a p z m w0 w) : w.cell? ⟨a.pb, 9, none⟩ = some z.vf := h.box.cell 9
theorem KSt.c10 (h : KSt L a p z m w0 w) : w.cell? ⟨a.pb, 10, none⟩ = some z.vw := h.box.cell 10
theorem KSt.fz (h : KSt L a p z m w0 w) (j : Nat) : w.frozen? ⟨a.pb, j, none⟩ = false := h.box.frozen j
theorem KSt.size (h : KSt L a p z m w0 w) : w0.heap.size ≤ w.heap.size := h.chg.size
theorem KSt.pbn (h : KSt L a p z m w0 w) : ¬ z.has a.pb := fun e => by
  obtain ⟨_, _, C, T, hB, hT⟩ := h.sh.typ e
  have : ¬ (61 : TypeId) ≠ T := fun ne => h.box.ne_t hB ne rfl
  rcases hT with rfl | rfl
  · exact this (by decide)
  · exact this (by decide)
theorem KSt.lowW (h : KSt L a p z m w0 w) : L ≤ w.heap.size := Nat.le_trans h.low h.size
theorem KSt.below (h : KSt L a p z m w0 w) (hb : Below w.heap.size w w') : KSt L a p z m w0 w' := ⟨h.sh.keep (fun k hk => hb.block k (h.sh.typ hk).2.1), h.box.below hb h.box.lt, h.chg.trans (Chg.ofBelow (fun _ => False) hb) (by simp), h.new, h.low⟩
theorem KSt.drew (h : KSt L a p z m w0 w) : KSt L a p z m w0 w.drew := h.below (below_drewN 1 (Below.refl _ _))
theorem KSt.mark (h : KSt L a p z m w0 w) (m' : Int) : KSt L a p z m' w0 (w.setCell ⟨a.pb, 8, none⟩ (.int .i64 m')) := by
  have hs := Stq.set a.pb 8 (.int .i64 m') w
  exact ⟨h.sh.chg (Chg.ofStq hs) (fun k hk e => h.pbn (e ▸ hk)), h.box.set 8 _, h.chg.trans (Chg.ofStq hs) (fun j _ e => Or.inl e), h.new, h.low⟩
/-- A step that changes one slice of the shelf and stores it. -/
theorem KSt.put (h : KSt L a p z m w0 w) {u : Value} (hc : Chg (fun k => u.ownBlock = some k) w w') (hu : ∀ k, u.ownBlock = some k → z.has k ∨ w.heap.size ≤ k) (hsh : Shelf L z' w') (hn : ∀ k, z'.has k → z.has k ∨ w.heap.size ≤ k) (j : Nat) (x : Value) (hbox : (pairC a { p with z := z, mark := m }).setIfInBounds j x = pairC a { p with z := z', mark := m }) : KSt L a p z' m w0 (w'.setCell ⟨a.pb, j, none⟩ x) := by
  have hb : Blk w' a.pb (pairC a { p with z := z, mark := m }) 61 := hc.blk h.box (fun e => by
    rcases hu _ e with h1 | h1
    · exact h.pbn h1
    · have := h.box.lt; omega)
  have hs := Stq.set a.pb j x w'
  have hpz : ¬ z'.has a.pb := fun e => by
    rcases hn _ e with h1 | h1
    · exact h.pbn h1
    · have := h.box.lt; omega
  have hnew : ∀ k, z.has k ∨ w.heap.size ≤ k → p.z.has k ∨ w0.heap.size ≤ k := fun k hk => by
    rcases hk with h1 | h1
    · exact h.new k h1
    · exact Or.inr (Nat.le_trans h.size h1)
  refine ⟨hsh.chg (Chg.ofStq hs) (fun k hk e => hpz (e ▸ hk)), by rw [← hbox]; exact hb.set j x, ?_, fun k hk => hnew k (hn k hk), h.low⟩
  refine (h.chg.trans hc (fun k hk e => ?_)).trans (Chg.ofStq hs) (fun k _ e => Or.inl e)
  rcases hnew k (hu k e) with h1 | h1
  · exact Or.inr h1
  · omega
/-- A step that stores nothing in the box. -/
theorem KSt.step (h : KSt L a p z m w0 w) (hc : Chg A w w') (hA : ∀ k, A k → z.has k ∨ w.heap.size ≤ k) (hsh : Shelf L z' w') (hn : ∀ k, z'.has k → z.has k ∨ w.heap.size ≤ k) (hz : z'.vl = z.vl ∧ z'.vm = z.vm ∧ z'.vf = z.vf ∧ z'.vw = z.vw) : KSt L a p z' m w0 w' := by
  have hb : Blk w' a.pb (pairC a { p with z := z, mark := m }) 61 := hc.blk h.box (fun e => by
    rcases hA _ e with h1 | h1
    · exact h.pbn h1
    · have := h.box.lt; omega)
  have hnew : ∀ k, z.has k ∨ w.heap.size ≤ k → p.z.has k ∨ w0.heap.size ≤ k := fun k hk => by
    rcases hk with h1 | h1
    · exact h.new k h1
    · exact Or.inr (Nat.le_trans h.size h1)
  refine ⟨hsh, ?_, h.chg.trans hc (fun k hk e => ?_), fun k hk => hnew k (hn k hk), h.low⟩
  · have e : pairC a { p with z := z', mark := m } = pairC a { p with z := z, mark := m } := by simp only [pairC, hz]
    rw [e]
    exact hb
  · rcases hnew k (hA k e) with h1 | h1
    · exact Or.inr h1
    · omega
end
theorem oneS (d : Value) {n : Nat} {ao : Option Addr} {cap : Nat} (h : d = .slice ao n cap) : d.oneCell' = true := by subst h; rfl
/-- A slice is appended to a slice of slices; it lies in the new block ahead. -/
theorem wpList_appT {w : World} {ops : Array Oper} {rest : List Oper} {o : Oper} {a : Act} {Q : Exit → Act → World → Prop} (hgd : o.guard = none) (s x : Operand)
    (ho : o.op = .call { callee := .builtin .append, args := #[s, x], argTypes := #[59, 59] })
    (L n : Nat) (v : Value) (xs : List Value) (hs : a.eval s = v) (hown : Tail w L 48 v n xs) {ao : Option Addr} {m cap : Nat} {g : Nat} (hx : a.eval x = .slice (some ⟨g, 0, none⟩) 1 1) (hgs : g = w.heap.size) (hlen : n + 1 ≤ 100000) (hbase : L ≤ w.heap.size)
    (hK : ∀ g' off cap' w', Tail w' L 48 (.slice (some ⟨g', off, none⟩) (n + 1) cap') (n + 1) (xs ++ [.slice ao m cap]) → Chg (fun k => v.ownBlock = some k) w w' → (v.ownBlock = some g' ∨ w.heap.size ≤ g') → wpList Tryd.prog ops Q rest (a.put o.dst (.slice (some ⟨g', off, none⟩) (n + 1) cap')) w') :
    wpList Tryd.prog ops Q (o :: rest) a (w.alloc (.cells #[.slice ao m cap] 48)) := by
  subst hgs
  obtain ⟨i0, hi, hz0, hz1, hz2⟩ := info_parts info48
  refine wpList_append_tail (P := Tryd.prog) _ hgd s x 59 ho L 48 i0 (.slice none 0 0) 24 Tryd.underlying59 hi hz0 hz1 hz2 rfl v n xs hs (tail_alloc hown _) ⟨w.heap.size, 0, none⟩ 1 1 [.slice ao m cap] hx rfl ?_ (fun u hu => by simp at hu; subst hu; rfl) (by decide) (by unfold maxLen; omega) (by omega) (by rw [World.size_alloc]; omega) _ rfl ?_
  · intro j u hu
    match j with
    | 0 =>
      simp at hu
      subst hu
      rw [addr_add]
      exact cell_of_row _ _ 0 _ 48 (0, 0) (heap_alloc_new w _)
    | j + 1 => simp at hu
  · intro g' off cap' w' h1 h2 h3 h4
    refine hK g' off cap' w' h1 ⟨h2.os, h2.tape, h2.output, by have := h2.size; rw [World.size_alloc] at this; omega, fun k hk hn => (h2.block k (by rw [World.size_alloc]; omega) (fun e => hn e.symm)).trans (Below.heap_alloc _ _ _ hk)⟩ ?_
    rcases h3 with h5 | h5
    · exact Or.inl h5
    · rw [World.size_alloc] at h5; exact Or.inr (by omega)
/-- A number is appended to a slice of numbers that may begin within its row. -/
theorem wpList_appTI {w : World} {ops : Array Oper} {rest : List Oper} {o : Oper} {a : Act} {Q : Exit → Act → World → Prop} (hgd : o.guard = none) (s x : Operand)
    (ho : o.op = .call { callee := .builtin .append, args := #[s, x], argTypes := #[48, 48] })
    (L n : Nat) (v : Value) (xs : List Value) (hs : a.eval s = v) (hown : Tail w L 3 v n xs) (y : Int) {g : Nat} (hx : a.eval x = .slice (some ⟨g, 0, none⟩) 1 1) (hgs : g = w.heap.size) (hlen : n + 1 ≤ 100000) (hbase : L ≤ w.heap.size)
    (hK : ∀ g' off cap' w', Tail w' L 3 (.slice (some ⟨g', off, none⟩) (n + 1) cap') (n + 1) (xs ++ [I y]) → Chg (fun k => v.ownBlock = some k) w w' → (v.ownBlock = some g' ∨ w.heap.size ≤ g') → wpList Tryd.prog ops Q rest (a.put o.dst (.slice (some ⟨g', off, none⟩) (n + 1) cap')) w') :
    wpList Tryd.prog ops Q (o :: rest) a (w.alloc (.cells #[.int .i64 y] 3)) := by
  subst hgs
  obtain ⟨i0, hi, hz0, hz1, hz2⟩ := info_parts info3
  refine wpList_append_tail (P := Tryd.prog) _ hgd s x 48 ho L 3 i0 (.int .i64 0) 8 Tryd.underlying48 hi hz0 hz1 hz2 rfl v n xs hs (tail_alloc hown _) ⟨w.heap.size, 0, none⟩ 1 1 [I y] hx rfl ?_ (fun u hu => by simp at hu; subst hu; rfl) (by decide) (by unfold maxLen; omega) (by omega) (by rw [World.size_alloc]; omega) _ rfl ?_
  · intro j u hu
    match j with
    | 0 =>
      simp at hu
      subst hu
      rw [addr_add]
      exact cell_of_row _ _ 0 _ 3 (0, 0) (heap_alloc_new w _)
    | j + 1 => simp at hu
  · intro g' off cap' w' h1 h2 h3 h4
    refine hK g' off cap' w' h1 ⟨h2.os, h2.tape, h2.output, by have := h2.size; rw [World.size_alloc] at this; omega, fun k hk hn => (h2.block k (by rw [World.size_alloc]; omega) (fun e => hn e.symm)).trans (Below.heap_alloc _ _ _ hk)⟩ ?_
    rcases h3 with h5 | h5
    · exact Or.inl h5
    · rw [World.size_alloc] at h5; exact Or.inr (by omega)
end Go.Proofs.YtkdndfdofhnagaaDoor
