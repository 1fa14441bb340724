import Derived.Test.YtehjdkdoalmaeaaPairs
namespace Go.Proofs.Ytehjdkdoalmaeaa
open Go.RowKit Go.PlainAid
set_option linter.unusedVariables false
set_option linter.unusedSimpArgs false
section
variable {L pb hbn hbr room : Nat} {s : PS} {w w2 : World}
theorem PInv.mS (h : PInv L pb hbn hbr room s w) (u : Value) (hu : u ∈ s.side) : u ∈ s.vals := (vals_permS s).mem_iff.2 (List.mem_append.2 (Or.inl hu))

theorem perm_pick0 (a b c d e : Value) (R : List Value) : ([a, b, c, d, e] ++ R).Perm (a :: ([b, c, d, e] ++ R)) := List.Perm.refl _
theorem perm_pick1 (a b c d e : Value) (R : List Value) : ([a, b, c, d, e] ++ R).Perm (b :: ([a, c, d, e] ++ R)) := List.Perm.swap _ _ _
theorem perm_pick2 (a b c d e : Value) (R : List Value) : ([a, b, c, d, e] ++ R).Perm (c :: ([a, b, d, e] ++ R)) := (List.perm_middle (l₁ := [a, b]) (a := c) (l₂ := [d, e] ++ R))
theorem perm_pick3 (a b c d e : Value) (R : List Value) : ([a, b, c, d, e] ++ R).Perm (d :: ([a, b, c, e] ++ R)) := (List.perm_middle (l₁ := [a, b, c]) (a := d) (l₂ := [e] ++ R))
theorem perm_pick4 (a b c d e : Value) (R : List Value) : ([a, b, c, d, e] ++ R).Perm (e :: ([a, b, c, d] ++ R)) := (List.perm_middle (l₁ := [a, b, c, d]) (a := e) (l₂ := R))
theorem perm_ks (K M F : List Value) (x : Value) : (K ++ [x] ++ M ++ F).Perm (K ++ M ++ (x :: F)) := by
  have h1 : (K ++ [x] ++ M ++ F).Perm (x :: (K ++ (M ++ F))) := by
    rw [List.append_assoc, List.append_assoc]
    exact List.perm_middle
  have h2 : (K ++ M ++ (x :: F)).Perm (x :: (K ++ (M ++ F))) := by
    rw [← List.append_assoc]
    exact List.perm_middle
  exact h1.trans h2.symm
theorem perm_ls (K M F : List Value) (x : Value) : (K ++ (M ++ [x]) ++ F).Perm (K ++ M ++ (x :: F)) := by
  rw [show K ++ (M ++ [x]) ++ F = K ++ M ++ (x :: F) from by simp]

theorem PInv.setTurns (h : PInv L pb hbn hbr room s w) (t : Int) : PInv L pb hbn hbr room { s with turns := t } (w.setCell ⟨pb, 8, none⟩ (.int .i64 t)) := by
  have hv : ∀ u ∈ s.vals, ∀ g, u.ownBlock = some g → (w.setCell ⟨pb, 8, none⟩ (.int .i64 t)).heap[g]? = w.heap[g]? := fun u hu g hg => Below.heap_setCell _ _ _ _ (h.notBox u hu g hg).1
  have hS : ∀ u ∈ s.side, ∀ g, u.ownBlock = some g → (w.setCell ⟨pb, 8, none⟩ (.int .i64 t)).heap[g]? = w.heap[g]? := fun u hu => hv u (h.mS u hu)
  obtain ⟨hb, hr⟩ := h.bagsKept (w' := w.setCell ⟨pb, 8, none⟩ (.int .i64 t)) fun k _ hk _ => Below.heap_setCell _ _ _ _ hk
  exact ⟨Blk.set h.box 8 _, hb, hr, tail_same h.bytes (hS _ (by simp [PS.side, PS.part3])), tail_same h.marks (hS _ (by simp [PS.side, PS.part3])), fun x hx => ownsRow_same (h.kept x hx) (hS _ (by simp only [PS.side, PS.part3, List.mem_append, List.mem_cons, List.mem_map]; exact Or.inl (Or.inr (Or.inr (Or.inr (Or.inr (Or.inr (Or.inl ⟨x, hx, rfl⟩)))))))),
    ownsRow_same h.lentO (hS _ (by simp [PS.side, PS.part3])), tail_same h.left (hS _ (by simp [PS.side, PS.part3])), tail_same h.were (hS _ (by simp [PS.side, PS.part3])), fun x hx => ownsRow_same (h.lefts x hx) (hS _ (by simp only [PS.side, PS.part3, List.mem_append, List.mem_cons, List.mem_map]; exact Or.inl (Or.inr (Or.inr (Or.inr (Or.inr (Or.inr (Or.inr ⟨x, hx, rfl⟩)))))))),
    fun x hx => ownsRow_same (h.float x hx) (hS _ (by simp only [PS.side, List.mem_append, List.mem_map]; exact Or.inr ⟨x, hx, rfl⟩)), h.nodup⟩

theorem PInv.setSize (h : PInv L pb hbn hbr room s w) (t : Int) : PInv L pb hbn hbr room { s with size := t } (w.setCell ⟨pb, 9, none⟩ (.int .i64 t)) := by
  have hv : ∀ u ∈ s.vals, ∀ g, u.ownBlock = some g → (w.setCell ⟨pb, 9, none⟩ (.int .i64 t)).heap[g]? = w.heap[g]? := fun u hu g hg => Below.heap_setCell _ _ _ _ (h.notBox u hu g hg).1
  have hS : ∀ u ∈ s.side, ∀ g, u.ownBlock = some g → (w.setCell ⟨pb, 9, none⟩ (.int .i64 t)).heap[g]? = w.heap[g]? := fun u hu => hv u (h.mS u hu)
  obtain ⟨hb, hr⟩ := h.bagsKept (w' := w.setCell ⟨pb, 9, none⟩ (.int .i64 t)) fun k _ hk _ => Below.heap_setCell _ _ _ _ hk
  exact ⟨Blk.set h.box 9 _, hb, hr, tail_same h.bytes (hS _ (by simp [PS.side, PS.part3])), tail_same h.marks (hS _ (by simp [PS.side, PS.part3])), fun x hx => ownsRow_same (h.kept x hx) (hS _ (by simp only [PS.side, PS.part3, List.mem_append, List.mem_cons, List.mem_map]; exact Or.inl (Or.inr (Or.inr (Or.inr (Or.inr (Or.inr (Or.inl ⟨x, hx, rfl⟩)))))))),
    ownsRow_same h.lentO (hS _ (by simp [PS.side, PS.part3])), tail_same h.left (hS _ (by simp [PS.side, PS.part3])), tail_same h.were (hS _ (by simp [PS.side, PS.part3])), fun x hx => ownsRow_same (h.lefts x hx) (hS _ (by simp only [PS.side, PS.part3, List.mem_append, List.mem_cons, List.mem_map]; exact Or.inl (Or.inr (Or.inr (Or.inr (Or.inr (Or.inr (Or.inr ⟨x, hx, rfl⟩)))))))),
    fun x hx => ownsRow_same (h.float x hx) (hS _ (by simp only [PS.side, List.mem_append, List.mem_map]; exact Or.inr ⟨x, hx, rfl⟩)), h.nodup⟩

theorem PInv.setMark (h : PInv L pb hbn hbr room s w) (t : Int) : PInv L pb hbn hbr room { s with mark := t } (w.setCell ⟨pb, 3, none⟩ (.int .i64 t)) := by
  have hv : ∀ u ∈ s.vals, ∀ g, u.ownBlock = some g → (w.setCell ⟨pb, 3, none⟩ (.int .i64 t)).heap[g]? = w.heap[g]? := fun u hu g hg => Below.heap_setCell _ _ _ _ (h.notBox u hu g hg).1
  have hS : ∀ u ∈ s.side, ∀ g, u.ownBlock = some g → (w.setCell ⟨pb, 3, none⟩ (.int .i64 t)).heap[g]? = w.heap[g]? := fun u hu => hv u (h.mS u hu)
  obtain ⟨hb, hr⟩ := h.bagsKept (w' := w.setCell ⟨pb, 3, none⟩ (.int .i64 t)) fun k _ hk _ => Below.heap_setCell _ _ _ _ hk
  exact ⟨Blk.set h.box 3 _, hb, hr, tail_same h.bytes (hS _ (by simp [PS.side, PS.part3])), tail_same h.marks (hS _ (by simp [PS.side, PS.part3])), fun x hx => ownsRow_same (h.kept x hx) (hS _ (by simp only [PS.side, PS.part3, List.mem_append, List.mem_cons, List.mem_map]; exact Or.inl (Or.inr (Or.inr (Or.inr (Or.inr (Or.inr (Or.inl ⟨x, hx, rfl⟩)))))))),
    ownsRow_same h.lentO (hS _ (by simp [PS.side, PS.part3])), tail_same h.left (hS _ (by simp [PS.side, PS.part3])), tail_same h.were (hS _ (by simp [PS.side, PS.part3])), fun x hx => ownsRow_same (h.lefts x hx) (hS _ (by simp only [PS.side, PS.part3, List.mem_append, List.mem_cons, List.mem_map]; exact Or.inl (Or.inr (Or.inr (Or.inr (Or.inr (Or.inr (Or.inr ⟨x, hx, rfl⟩)))))))),
    fun x hx => ownsRow_same (h.float x hx) (hS _ (by simp only [PS.side, List.mem_append, List.mem_map]; exact Or.inr ⟨x, hx, rfl⟩)), h.nodup⟩

set_option maxHeartbeats 800000 in
theorem PInv.putBytes (h : PInv L pb hbn hbr room s w) {x : Dat} {fl : List Dat} (hf : s.fl = x :: fl) {u' : Value} (hT : Tail w2 L 29 u' (s.ks ++ [x]).length ((s.ks ++ [x]).map Dat.d)) (hg : ∀ k, k < w.heap.size → s.vb.ownBlock ≠ some k → w2.heap[k]? = w.heap[k]?) (hu : ∀ j, u'.ownBlock = some j → s.vb.ownBlock = some j ∨ w.heap.size ≤ j) :
    PInv L pb hbn hbr room { s with vb := u', ks := s.ks ++ [x], fl := fl } (w2.setCell ⟨pb, 2, none⟩ u') := by
  have hp : s.side.Perm (s.vb :: ([s.vm, s.vl, s.vf, s.vw] ++ (s.ks.map Dat.d ++ s.ls.map Dat.d ++ s.fl.map Dat.d))) := perm_pick0 s.vb s.vm s.vl s.vf s.vw (s.ks.map Dat.d ++ s.ls.map Dat.d ++ s.fl.map Dat.d)
  have hq : ((s.ks ++ [x]).map Dat.d ++ s.ls.map Dat.d ++ fl.map Dat.d).Perm (s.ks.map Dat.d ++ s.ls.map Dat.d ++ s.fl.map Dat.d) := by
    rw [hf, List.map_append, List.map_cons, List.map_cons, List.map_nil]
    exact perm_ks _ _ _ _
  have hp' : ({ s with vb := u', ks := s.ks ++ [x], fl := fl } : PS).side.Perm (u' :: ([s.vm, s.vl, s.vf, s.vw] ++ (s.ks.map Dat.d ++ s.ls.map Dat.d ++ s.fl.map Dat.d))) := (perm_pick0 u' s.vm s.vl s.vf s.vw ((s.ks ++ [x]).map Dat.d ++ s.ls.map Dat.d ++ fl.map Dat.d)).trans ((hq.append_left _).cons _)
  have hpl := h.pblt
  have hO : ∀ y ∈ [s.vm, s.vl, s.vf, s.vw] ++ (s.ks.map Dat.d ++ s.ls.map Dat.d ++ s.fl.map Dat.d), ∀ g, y.ownBlock = some g → (w2.setCell ⟨pb, 2, none⟩ u').heap[g]? = w.heap[g]? := fun y hy g hg2 => by
    have hm := h.mS y (hp.mem_iff.2 (List.mem_cons.2 (Or.inr hy)))
    exact (Below.heap_setCell _ _ _ _ (h.notBox y hm g hg2).1).trans (hg g (h.blt y hm g hg2) (fun e => h.sideOne hp g e y hy hg2))
  have hself : ∀ g, u'.ownBlock = some g → (w2.setCell ⟨pb, 2, none⟩ u').heap[g]? = w2.heap[g]? := fun g hg2 => Below.heap_setCell _ _ _ _ (fun e => by
    rcases hu g hg2 with q | q
    · exact (h.notBox s.vb (h.mS s.vb (hp.mem_iff.2 (by simp))) g q).1 e
    · simp only at e; omega)
  have hpb : s.vb.ownBlock ≠ some pb := fun e => (h.notBox s.vb (h.mS s.vb (hp.mem_iff.2 (by simp))) pb e).1 rfl
  obtain ⟨hb, hr⟩ := h.bagsKept (w' := (w2.setCell ⟨pb, 2, none⟩ u')) fun k hk h1 h2 => (Below.heap_setCell _ _ _ _ h1).trans (hg k hk fun e => h2 (mem_blocks.2 ⟨s.vb, hp.mem_iff.2 (by simp), e⟩))
  have hbox : Blk w2 pb (pairC hbn hbr s) 65 := (hg pb hpl hpb).trans h.box
  exact ⟨Blk.set hbox 2 u', hb, hr, tail_same hT hself, tail_same h.marks (hO _ (by simp)), fun y hy => (List.mem_append.1 hy).elim (fun hy => ownsRow_same (h.kept y hy) (hO _ (by simp only [List.mem_append, List.mem_map]; exact Or.inr (Or.inl (Or.inl ⟨y, hy, rfl⟩))))) (fun hy => by simp only [List.mem_singleton] at hy; subst hy; exact ownsRow_same (h.float y (by rw [hf]; simp)) (hO _ (by simp only [List.mem_append, List.mem_map]; exact Or.inr (Or.inr ⟨y, by rw [hf]; simp, rfl⟩)))), ownsRow_same h.lentO (hO _ (by simp)), tail_same h.left (hO _ (by simp)), tail_same h.were (hO _ (by simp)), fun x hx => ownsRow_same (h.lefts x hx) (hO _ (by simp only [List.mem_append, List.mem_map]; exact Or.inr (Or.inl (Or.inr ⟨x, hx, rfl⟩)))), fun y hy => ownsRow_same (h.float y (by rw [hf]; simp [hy])) (hO _ (by simp only [List.mem_append, List.mem_map]; exact Or.inr (Or.inr ⟨y, by rw [hf]; simp [hy], rfl⟩))), h.ndOne hp hp' rfl hu⟩

set_option maxHeartbeats 800000 in
theorem PInv.putLeft (h : PInv L pb hbn hbr room s w) {x : Dat} {fl : List Dat} (hf : s.fl = x :: fl) {u' : Value} (hT : Tail w2 L 29 u' (s.ls ++ [x]).length ((s.ls ++ [x]).map Dat.d)) (hg : ∀ k, k < w.heap.size → s.vf.ownBlock ≠ some k → w2.heap[k]? = w.heap[k]?) (hu : ∀ j, u'.ownBlock = some j → s.vf.ownBlock = some j ∨ w.heap.size ≤ j) :
    PInv L pb hbn hbr room { s with vf := u', ls := s.ls ++ [x], fl := fl } (w2.setCell ⟨pb, 6, none⟩ u') := by
  have hp : s.side.Perm (s.vf :: ([s.vb, s.vm, s.vl, s.vw] ++ (s.ks.map Dat.d ++ s.ls.map Dat.d ++ s.fl.map Dat.d))) := perm_pick3 s.vb s.vm s.vl s.vf s.vw (s.ks.map Dat.d ++ s.ls.map Dat.d ++ s.fl.map Dat.d)
  have hq : (s.ks.map Dat.d ++ (s.ls ++ [x]).map Dat.d ++ fl.map Dat.d).Perm (s.ks.map Dat.d ++ s.ls.map Dat.d ++ s.fl.map Dat.d) := by
    rw [hf, List.map_append, List.map_cons, List.map_cons, List.map_nil]
    exact perm_ls _ _ _ _
  have hp' : ({ s with vf := u', ls := s.ls ++ [x], fl := fl } : PS).side.Perm (u' :: ([s.vb, s.vm, s.vl, s.vw] ++ (s.ks.map Dat.d ++ s.ls.map Dat.d ++ s.fl.map Dat.d))) := (perm_pick3 s.vb s.vm s.vl u' s.vw (s.ks.map Dat.d ++ (s.ls ++ [x]).map Dat.d ++ fl.map Dat.d)).trans ((hq.append_left _).cons _)
  have hpl := h.pblt
  have hO : ∀ y ∈ [s.vb, s.vm, s.vl, s.vw] ++ (s.ks.map Dat.d ++ s.ls.map Dat.d ++ s.fl.map Dat.d), ∀ g, y.ownBlock = some g → (w2.setCell ⟨pb, 6, none⟩ u').heap[g]? = w.heap[g]? := fun y hy g hg2 => by
    have hm := h.mS y (hp.mem_iff.2 (List.mem_cons.2 (Or.inr hy)))
    exact (Below.heap_setCell _ _ _ _ (h.notBox y hm g hg2).1).trans (hg g (h.blt y hm g hg2) (fun e => h.sideOne hp g e y hy hg2))
  have hself : ∀ g, u'.ownBlock = some g → (w2.setCell ⟨pb, 6, none⟩ u').heap[g]? = w2.heap[g]? := fun g hg2 => Below.heap_setCell _ _ _ _ (fun e => by
    rcases hu g hg2 with q | q
    · exact (h.notBox s.vf (h.mS s.vf (hp.mem_iff.2 (by simp))) g q).1 e
    · simp only at e; omega)
  have hpb : s.vf.ownBlock ≠ some pb := fun e => (h.notBox s.vf (h.mS s.vf (hp.mem_iff.2 (by simp))) pb e).1 rfl
  obtain ⟨hb, hr⟩ := h.bagsKept (w' := (w2.setCell ⟨pb, 6, none⟩ u')) fun k hk h1 h2 => (Below.heap_setCell _ _ _ _ h1).trans (hg k hk fun e => h2 (mem_blocks.2 ⟨s.vf, hp.mem_iff.2 (by simp), e⟩))
  have hbox : Blk w2 pb (pairC hbn hbr s) 65 := (hg pb hpl hpb).trans h.box
  exact ⟨Blk.set hbox 6 u', hb, hr, tail_same h.bytes (hO _ (by simp)), tail_same h.marks (hO _ (by simp)), fun x hx => ownsRow_same (h.kept x hx) (hO _ (by simp only [List.mem_append, List.mem_map]; exact Or.inr (Or.inl (Or.inl ⟨x, hx, rfl⟩)))), ownsRow_same h.lentO (hO _ (by simp)), tail_same hT hself, tail_same h.were (hO _ (by simp)), fun y hy => (List.mem_append.1 hy).elim (fun hy => ownsRow_same (h.lefts y hy) (hO _ (by simp only [List.mem_append, List.mem_map]; exact Or.inr (Or.inl (Or.inr ⟨y, hy, rfl⟩))))) (fun hy => by simp only [List.mem_singleton] at hy; subst hy; exact ownsRow_same (h.float y (by rw [hf]; simp)) (hO _ (by simp only [List.mem_append, List.mem_map]; exact Or.inr (Or.inr ⟨y, by rw [hf]; simp, rfl⟩)))), fun y hy => ownsRow_same (h.float y (by rw [hf]; simp [hy])) (hO _ (by simp only [List.mem_append, List.mem_map]; exact Or.inr (Or.inr ⟨y, by rw [hf]; simp [hy], rfl⟩))), h.ndOne hp hp' rfl hu⟩

set_option maxHeartbeats 800000 in
theorem PInv.putMarks (h : PInv L pb hbn hbr room s w) {u' : Value} {ms' : List Int} (hT : Tail w2 L 3 u' ms'.length (ms'.map fun x => Value.int .i64 x)) (hg : ∀ k, k < w.heap.size → s.vm.ownBlock ≠ some k → w2.heap[k]? = w.heap[k]?) (hu : ∀ j, u'.ownBlock = some j → s.vm.ownBlock = some j ∨ w.heap.size ≤ j) :
    PInv L pb hbn hbr room { s with vm := u', ms := ms' } (w2.setCell ⟨pb, 4, none⟩ u') := by
  have hp : s.side.Perm (s.vm :: ([s.vb, s.vl, s.vf, s.vw] ++ (s.ks.map Dat.d ++ s.ls.map Dat.d ++ s.fl.map Dat.d))) := perm_pick1 s.vb s.vm s.vl s.vf s.vw (s.ks.map Dat.d ++ s.ls.map Dat.d ++ s.fl.map Dat.d)
  have hp' : ({ s with vm := u', ms := ms' } : PS).side.Perm (u' :: ([s.vb, s.vl, s.vf, s.vw] ++ (s.ks.map Dat.d ++ s.ls.map Dat.d ++ s.fl.map Dat.d))) := perm_pick1 s.vb u' s.vl s.vf s.vw (s.ks.map Dat.d ++ s.ls.map Dat.d ++ s.fl.map Dat.d)
  have hpl := h.pblt
  have hO : ∀ y ∈ [s.vb, s.vl, s.vf, s.vw] ++ (s.ks.map Dat.d ++ s.ls.map Dat.d ++ s.fl.map Dat.d), ∀ g, y.ownBlock = some g → (w2.setCell ⟨pb, 4, none⟩ u').heap[g]? = w.heap[g]? := fun y hy g hg2 => by
    have hm := h.mS y (hp.mem_iff.2 (List.mem_cons.2 (Or.inr hy)))
    exact (Below.heap_setCell _ _ _ _ (h.notBox y hm g hg2).1).trans (hg g (h.blt y hm g hg2) (fun e => h.sideOne hp g e y hy hg2))
  have hself : ∀ g, u'.ownBlock = some g → (w2.setCell ⟨pb, 4, none⟩ u').heap[g]? = w2.heap[g]? := fun g hg2 => Below.heap_setCell _ _ _ _ (fun e => by
    rcases hu g hg2 with q | q
    · exact (h.notBox s.vm (h.mS s.vm (hp.mem_iff.2 (by simp))) g q).1 e
    · simp only at e; omega)
  have hpb : s.vm.ownBlock ≠ some pb := fun e => (h.notBox s.vm (h.mS s.vm (hp.mem_iff.2 (by simp))) pb e).1 rfl
  obtain ⟨hb, hr⟩ := h.bagsKept (w' := (w2.setCell ⟨pb, 4, none⟩ u')) fun k hk h1 h2 => (Below.heap_setCell _ _ _ _ h1).trans (hg k hk fun e => h2 (mem_blocks.2 ⟨s.vm, hp.mem_iff.2 (by simp), e⟩))
  have hbox : Blk w2 pb (pairC hbn hbr s) 65 := (hg pb hpl hpb).trans h.box
  exact ⟨Blk.set hbox 4 u', hb, hr, tail_same h.bytes (hO _ (by simp)), tail_same hT hself, fun x hx => ownsRow_same (h.kept x hx) (hO _ (by simp only [List.mem_append, List.mem_map]; exact Or.inr (Or.inl (Or.inl ⟨x, hx, rfl⟩)))), ownsRow_same h.lentO (hO _ (by simp)), tail_same h.left (hO _ (by simp)), tail_same h.were (hO _ (by simp)), fun x hx => ownsRow_same (h.lefts x hx) (hO _ (by simp only [List.mem_append, List.mem_map]; exact Or.inr (Or.inl (Or.inr ⟨x, hx, rfl⟩)))), fun x hx => ownsRow_same (h.float x hx) (hO _ (by simp only [List.mem_append, List.mem_map]; exact Or.inr (Or.inr ⟨x, hx, rfl⟩))), h.ndOne hp hp' rfl hu⟩

set_option maxHeartbeats 800000 in
theorem PInv.putWere (h : PInv L pb hbn hbr room s w) {u' : Value} {ws' : List (List UInt8)} (hT : Tail w2 L 9 u' ws'.length (ws'.map Str)) (hg : ∀ k, k < w.heap.size → s.vw.ownBlock ≠ some k → w2.heap[k]? = w.heap[k]?) (hu : ∀ j, u'.ownBlock = some j → s.vw.ownBlock = some j ∨ w.heap.size ≤ j) :
    PInv L pb hbn hbr room { s with vw := u', ws := ws' } (w2.setCell ⟨pb, 7, none⟩ u') := by
  have hp : s.side.Perm (s.vw :: ([s.vb, s.vm, s.vl, s.vf] ++ (s.ks.map Dat.d ++ s.ls.map Dat.d ++ s.fl.map Dat.d))) := perm_pick4 s.vb s.vm s.vl s.vf s.vw (s.ks.map Dat.d ++ s.ls.map Dat.d ++ s.fl.map Dat.d)
  have hp' : ({ s with vw := u', ws := ws' } : PS).side.Perm (u' :: ([s.vb, s.vm, s.vl, s.vf] ++ (s.ks.map Dat.d ++ s.ls.map Dat.d ++ s.fl.map Dat.d))) := perm_pick4 s.vb s.vm s.vl s.vf u' (s.ks.map Dat.d ++ s.ls.map Dat.d ++ s.fl.map Dat.d)
  have hpl := h.pblt
  have hO : ∀ y ∈ [s.vb, s.vm, s.vl, s.vf] ++ (s.ks.map Dat.d ++ s.ls.map Dat.d ++ s.fl.map Dat.d), ∀ g, y.ownBlock = some g → (w2.setCell ⟨pb, 7, none⟩ u').heap[g]? = w.heap[g]? := fun y hy g hg2 => by
    have hm := h.mS y (hp.mem_iff.2 (List.mem_cons.2 (Or.inr hy)))
    exact (Below.heap_setCell _ _ _ _ (h.notBox y hm g hg2).1).trans (hg g (h.blt y hm g hg2) (fun e => h.sideOne hp g e y hy hg2))
  have hself : ∀ g, u'.ownBlock = some g → (w2.setCell ⟨pb, 7, none⟩ u').heap[g]? = w2.heap[g]? := fun g hg2 => Below.heap_setCell _ _ _ _ (fun e => by
    rcases hu g hg2 with q | q
    · exact (h.notBox s.vw (h.mS s.vw (hp.mem_iff.2 (by simp))) g q).1 e
    · simp only at e; omega)
  have hpb : s.vw.ownBlock ≠ some pb := fun e => (h.notBox s.vw (h.mS s.vw (hp.mem_iff.2 (by simp))) pb e).1 rfl
  obtain ⟨hb, hr⟩ := h.bagsKept (w' := (w2.setCell ⟨pb, 7, none⟩ u')) fun k hk h1 h2 => (Below.heap_setCell _ _ _ _ h1).trans (hg k hk fun e => h2 (mem_blocks.2 ⟨s.vw, hp.mem_iff.2 (by simp), e⟩))
  have hbox : Blk w2 pb (pairC hbn hbr s) 65 := (hg pb hpl hpb).trans h.box
  exact ⟨Blk.set hbox 7 u', hb, hr, tail_same h.bytes (hO _ (by simp)), tail_same h.marks (hO _ (by simp)), fun x hx => ownsRow_same (h.kept x hx) (hO _ (by simp only [List.mem_append, List.mem_map]; exact Or.inr (Or.inl (Or.inl ⟨x, hx, rfl⟩)))), ownsRow_same h.lentO (hO _ (by simp)), tail_same h.left (hO _ (by simp)), tail_same hT hself, fun x hx => ownsRow_same (h.lefts x hx) (hO _ (by simp only [List.mem_append, List.mem_map]; exact Or.inr (Or.inl (Or.inr ⟨x, hx, rfl⟩)))), fun x hx => ownsRow_same (h.float x hx) (hO _ (by simp only [List.mem_append, List.mem_map]; exact Or.inr (Or.inr ⟨x, hx, rfl⟩))), h.ndOne hp hp' rfl hu⟩

set_option maxHeartbeats 800000 in
theorem PInv.putLent (h : PInv L pb hbn hbr room s w) {u' : Value} {lent' : List UInt8} (hT : w2.ownsRow L 5 1 u' lent'.length (lent'.map B)) (hg : ∀ k, k < w.heap.size → s.vl.ownBlock ≠ some k → w2.heap[k]? = w.heap[k]?) (hu : ∀ j, u'.ownBlock = some j → s.vl.ownBlock = some j ∨ w.heap.size ≤ j) :
    PInv L pb hbn hbr room { s with vl := u', lent := lent' } (w2.setCell ⟨pb, 5, none⟩ u') := by
  have hp : s.side.Perm (s.vl :: ([s.vb, s.vm, s.vf, s.vw] ++ (s.ks.map Dat.d ++ s.ls.map Dat.d ++ s.fl.map Dat.d))) := perm_pick2 s.vb s.vm s.vl s.vf s.vw (s.ks.map Dat.d ++ s.ls.map Dat.d ++ s.fl.map Dat.d)
  have hp' : ({ s with vl := u', lent := lent' } : PS).side.Perm (u' :: ([s.vb, s.vm, s.vf, s.vw] ++ (s.ks.map Dat.d ++ s.ls.map Dat.d ++ s.fl.map Dat.d))) := perm_pick2 s.vb s.vm u' s.vf s.vw (s.ks.map Dat.d ++ s.ls.map Dat.d ++ s.fl.map Dat.d)
  have hpl := h.pblt
  have hO : ∀ y ∈ [s.vb, s.vm, s.vf, s.vw] ++ (s.ks.map Dat.d ++ s.ls.map Dat.d ++ s.fl.map Dat.d), ∀ g, y.ownBlock = some g → (w2.setCell ⟨pb, 5, none⟩ u').heap[g]? = w.heap[g]? := fun y hy g hg2 => by
    have hm := h.mS y (hp.mem_iff.2 (List.mem_cons.2 (Or.inr hy)))
    exact (Below.heap_setCell _ _ _ _ (h.notBox y hm g hg2).1).trans (hg g (h.blt y hm g hg2) (fun e => h.sideOne hp g e y hy hg2))
  have hself : ∀ g, u'.ownBlock = some g → (w2.setCell ⟨pb, 5, none⟩ u').heap[g]? = w2.heap[g]? := fun g hg2 => Below.heap_setCell _ _ _ _ (fun e => by
    rcases hu g hg2 with q | q
    · exact (h.notBox s.vl (h.mS s.vl (hp.mem_iff.2 (by simp))) g q).1 e
    · simp only at e; omega)
  have hpb : s.vl.ownBlock ≠ some pb := fun e => (h.notBox s.vl (h.mS s.vl (hp.mem_iff.2 (by simp))) pb e).1 rfl
  obtain ⟨hb, hr⟩ := h.bagsKept (w' := (w2.setCell ⟨pb, 5, none⟩ u')) fun k hk h1 h2 => (Below.heap_setCell _ _ _ _ h1).trans (hg k hk fun e => h2 (mem_blocks.2 ⟨s.vl, hp.mem_iff.2 (by simp), e⟩))
  have hbox : Blk w2 pb (pairC hbn hbr s) 65 := (hg pb hpl hpb).trans h.box
  exact ⟨Blk.set hbox 5 u', hb, hr, tail_same h.bytes (hO _ (by simp)), tail_same h.marks (hO _ (by simp)), fun x hx => ownsRow_same (h.kept x hx) (hO _ (by simp only [List.mem_append, List.mem_map]; exact Or.inr (Or.inl (Or.inl ⟨x, hx, rfl⟩)))), ownsRow_same hT hself, tail_same h.left (hO _ (by simp)), tail_same h.were (hO _ (by simp)), fun x hx => ownsRow_same (h.lefts x hx) (hO _ (by simp only [List.mem_append, List.mem_map]; exact Or.inr (Or.inl (Or.inr ⟨x, hx, rfl⟩)))), fun x hx => ownsRow_same (h.float x hx) (hO _ (by simp only [List.mem_append, List.mem_map]; exact Or.inr (Or.inr ⟨x, hx, rfl⟩))), h.ndOne hp hp' rfl hu⟩
end
end Go.Proofs.Ytehjdkdoalmaeaa
