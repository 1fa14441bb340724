import Derived.Test.YtehjdkdoalmaeaaPair7
namespace Go.Proofs.Ytehjdkdoalmaeaa
open Go.RowKit Go.PlainAid
set_option linter.unusedVariables false
set_option linter.unusedSimpArgs false
structure LPost (L pb hbn hbr room n : Nat) (s s' : PS) (w w' : World) : Prop where
  inv : PInv L pb hbn hbr room s' w'
  full : PFull s'
  cnt : PCnt (n + 1) s'
  stp : PStp pb hbn hbr s s' w w'
  fl : s'.fl = []
  lv : s'.lv = s.lv
  lr : s'.lr = s.lr
/-- The state within 'letter': the pair, and the two boxes of the letters. -/
structure LSt (L pb hbn hbr room : Nat) (s s' : PS) (D E : Array Value) (w W : World) : Prop where
  inv : PInv L pb hbn hbr room s' W
  stp : PStp pb hbn hbr s s' w W
  bl : Blk W w.heap.size D 31
  br : Blk W (w.heap.size + 1) E 31
  n1 : ¬ s'.has pb hbn hbr w.heap.size
  n2 : ¬ s'.has pb hbn hbr (w.heap.size + 1)
theorem tailPut {W : World} {L e t n bytes : Nat} {v z : Value} {xs : List Value} (ht : Try.prog.underlying t = some (.slice e)) (hinfo : (Try.prog.info? e).map (fun i => (i.zero, i.size, i.bytes)) = some (some z, 1, bytes)) (hzs : z.cells.size = 1) (hT : Tail W L e v n xs) (u : Value) (hu : u.oneCell' = true) (hbig : (n + 1) * bytes ≤ 140737488355328) (hn : n + 1 ≤ maxLen) (hL : L ≤ W.heap.size) (ty : TypeId) :
    ∃ g off cap W2, (Builtin.append_ #[t, t] ty #[v, .slice (some ⟨W.heap.size, 0, none⟩) 1 1]).run Try.prog (W.alloc (.cells #[u] e)) = .ok (.slice (some ⟨g, off, none⟩) (n + 1) cap) W2 ∧ Tail W2 L e (.slice (some ⟨g, off, none⟩) (n + 1) cap) (n + 1) (xs ++ [u]) ∧ (W2.os = W.os ∧ W2.tape = W.tape ∧ W2.output = W.output ∧ W.heap.size ≤ W2.heap.size) ∧ (∀ k, k < W.heap.size → v.ownBlock ≠ some k → W2.heap[k]? = W.heap[k]?) ∧ (v.ownBlock = some g ∨ W.heap.size ≤ g) := by
  obtain ⟨i, hi, hz0, hz1, hz2⟩ := info_parts hinfo
  obtain ⟨g, off, cap, W2, hr, h1, h2, h3, h4⟩ := run_append_tail (P := Try.prog) (W.alloc (.cells #[u] e)) t ty L e i z bytes ht hi hz0 hz1 hz2 hzs v n xs (tail_alloc hT _) ⟨W.heap.size, 0, none⟩ 1 1 [u] rfl (fun j y hj => by
      cases j with
      | zero =>
        simp only [List.getElem?_cons_zero, Option.some.injEq] at hj
        subst hj
        rw [addr_add, cell_of_row _ W.heap.size _ #[u] e (0, 0) (heap_alloc_new W _)]
        rfl
      | succ j => simp at hj) (by simpa using hu) (by omega) hn hbig (by simp; omega) _ rfl
  have hz := h2.size
  rw [World.size_alloc] at hz
  refine ⟨g, off, cap, W2, hr, h1, ⟨h2.os, h2.tape, h2.output, by omega⟩, fun k hk hv => (h2.block k (by simp; omega) (fun e => hv e.symm)).trans (Below.heap_alloc _ _ _ hk), h3.imp id (fun q => by rw [World.size_alloc] at q; omega)⟩
section
variable {L pb hbn hbr room : Nat} {s s1 s2 : PS} {D E : Array Value} {w W W2 : World}
theorem LSt.drew (h : LSt L pb hbn hbr room s s1 D E w W) : LSt L pb hbn hbr room s s1 D E w ({ W with drawn := W.drawn + 1 } : World) := ⟨h.inv.keep fun _ _ => rfl, ⟨h.stp.os, h.stp.tape, h.stp.output, h.stp.size, h.stp.block, h.stp.has⟩, h.bl, h.br, h.n1, h.n2⟩
theorem LSt.drewN (h : LSt L pb hbn hbr room s s1 D E w W) (q : Nat) : LSt L pb hbn hbr room s s1 D E w (W.drewN q) := ⟨h.inv.keep fun _ _ => rfl, ⟨h.stp.os, h.stp.tape, h.stp.output, h.stp.size, h.stp.block, h.stp.has⟩, h.bl, h.br, h.n1, h.n2⟩
theorem LSt.step (h : LSt L pb hbn hbr room s s1 D E w W) (hP : PInv L pb hbn hbr room s2 W2) (hS : PStp pb hbn hbr s1 s2 W W2) : LSt L pb hbn hbr room s s2 D E w W2 := by
  refine ⟨hP, h.stp.trans hS, (hS.block _ h.bl.lt h.n1).trans h.bl, (hS.block _ h.br.lt h.n2).trans h.br, fun q => ?_, fun q => ?_⟩
  · rcases hS.has _ q with r | r
    · exact h.n1 r
    · have := h.bl.lt; omega
  · rcases hS.has _ q with r | r
    · exact h.n2 r
    · have := h.br.lt; omega
theorem LSt.cell (h : LSt L pb hbn hbr room s s1 D E w W) (j : Nat) : W.cell? ⟨pb, j, none⟩ = (pairC hbn hbr s1)[j]? := h.inv.cell j
theorem LSt.frozen (h : LSt L pb hbn hbr room s s1 D E w W) (j : Nat) : W.frozen? ⟨pb, j, none⟩ = false := by simp [World.frozen?, h.inv.box]
theorem same_vals (hv : s2.vals = s1.vals) : ∀ u ∈ s2.vals, ∀ k, u.ownBlock = some k → k ∈ s1.foot ∨ W.heap.size ≤ k := fun u hu k hk => Or.inl (foot_of (by rw [← hv]; exact hu) hk)
theorem PStp.set (hv : ∀ u ∈ s2.vals, ∀ k, u.ownBlock = some k → k ∈ s1.foot ∨ W.heap.size ≤ k) (j : Nat) (x : Value) : PStp pb hbn hbr s1 s2 W (W.setCell ⟨pb, j, none⟩ x) :=
  PStp.vals ⟨rfl, rfl, rfl, by simp [World.setCell]⟩ (fun k hk hn => Below.heap_setCell _ _ _ _ (fun e => hn (Or.inl e))) hv
theorem LSt.setTurns (h : LSt L pb hbn hbr room s s1 D E w W) (z : Int) : LSt L pb hbn hbr room s { s1 with turns := z } D E w (W.setCell ⟨pb, 8, none⟩ (.int .i64 z)) := h.step (h.inv.setTurns z) (PStp.set (same_vals (by rfl)) 8 _)
theorem LSt.setSize (h : LSt L pb hbn hbr room s s1 D E w W) (z : Int) : LSt L pb hbn hbr room s { s1 with size := z } D E w (W.setCell ⟨pb, 9, none⟩ (.int .i64 z)) := h.step (h.inv.setSize z) (PStp.set (same_vals (by rfl)) 9 _)
theorem LSt.setMark (h : LSt L pb hbn hbr room s s1 D E w W) (z : Int) : LSt L pb hbn hbr room s { s1 with mark := z } D E w (W.setCell ⟨pb, 3, none⟩ (.int .i64 z)) := h.step (h.inv.setMark z) (PStp.set (same_vals (by rfl)) 3 _)
/-- A list that is appended to, then stored. -/
theorem PStp.put {v u' : Value} {j : Nat} (ho : W2.os = W.os ∧ W2.tape = W.tape ∧ W2.output = W.output ∧ W.heap.size ≤ W2.heap.size) (hm : v ∈ s1.vals) (hg : ∀ k, k < W.heap.size → v.ownBlock ≠ some k → W2.heap[k]? = W.heap[k]?) (hu : ∀ j, u'.ownBlock = some j → v.ownBlock = some j ∨ W.heap.size ≤ j) (hv : ∀ u ∈ s2.vals, u = u' ∨ u ∈ s1.vals) (x : Value) : PStp pb hbn hbr s1 s2 W (W2.setCell ⟨pb, j, none⟩ x) := by
  refine PStp.vals ⟨ho.1, ho.2.1, ho.2.2.1, by simp [World.setCell]; exact ho.2.2.2⟩ (fun k hk hn => (Below.heap_setCell _ _ _ _ (fun e => hn (Or.inl e))).trans (hg k hk fun e => hn (Or.inr (Or.inr (Or.inr (foot_of hm e)))))) (fun u h1 k hk => ?_)
  rcases hv u h1 with rfl | h2
  · exact (hu k hk).imp (fun q => foot_of hm q) id
  · exact Or.inl (foot_of h2 hk)
theorem LSt.putLeft (h : LSt L pb hbn hbr room s s1 D E w W) {x : Dat} {fl : List Dat} (hf : s1.fl = x :: fl) {u' : Value} (hT : Tail W2 L 29 u' (s1.ls ++ [x]).length ((s1.ls ++ [x]).map Dat.d)) (ho : W2.os = W.os ∧ W2.tape = W.tape ∧ W2.output = W.output ∧ W.heap.size ≤ W2.heap.size) (hg : ∀ k, k < W.heap.size → s1.vf.ownBlock ≠ some k → W2.heap[k]? = W.heap[k]?) (hu : ∀ j, u'.ownBlock = some j → s1.vf.ownBlock = some j ∨ W.heap.size ≤ j) :
    LSt L pb hbn hbr room s { s1 with vf := u', ls := s1.ls ++ [x], fl := fl } D E w (W2.setCell ⟨pb, 6, none⟩ u') :=
  h.step (h.inv.putLeft hf hT hg hu) (PStp.put ho (v := s1.vf) (by simp [PS.vals, PS.part3]) hg hu (fun u q => by
    simp only [PS.vals, PS.part1, PS.part2, PS.part3, hf, List.map_append, List.map_cons, List.map_nil, List.mem_append, List.mem_cons] at q ⊢
    grind) u')
theorem LSt.putBytes (h : LSt L pb hbn hbr room s s1 D E w W) {x : Dat} {fl : List Dat} (hf : s1.fl = x :: fl) {u' : Value} (hT : Tail W2 L 29 u' (s1.ks ++ [x]).length ((s1.ks ++ [x]).map Dat.d)) (ho : W2.os = W.os ∧ W2.tape = W.tape ∧ W2.output = W.output ∧ W.heap.size ≤ W2.heap.size) (hg : ∀ k, k < W.heap.size → s1.vb.ownBlock ≠ some k → W2.heap[k]? = W.heap[k]?) (hu : ∀ j, u'.ownBlock = some j → s1.vb.ownBlock = some j ∨ W.heap.size ≤ j) :
    LSt L pb hbn hbr room s { s1 with vb := u', ks := s1.ks ++ [x], fl := fl } D E w (W2.setCell ⟨pb, 2, none⟩ u') :=
  h.step (h.inv.putBytes hf hT hg hu) (PStp.put ho (v := s1.vb) (by simp [PS.vals, PS.part3]) hg hu (fun u q => by
    simp only [PS.vals, PS.part1, PS.part2, PS.part3, hf, List.map_append, List.map_cons, List.map_nil, List.mem_append, List.mem_cons] at q ⊢
    grind) u')
theorem LSt.putMarks (h : LSt L pb hbn hbr room s s1 D E w W) {u' : Value} {ms' : List Int} (hT : Tail W2 L 3 u' ms'.length (ms'.map fun x => Value.int .i64 x)) (ho : W2.os = W.os ∧ W2.tape = W.tape ∧ W2.output = W.output ∧ W.heap.size ≤ W2.heap.size) (hg : ∀ k, k < W.heap.size → s1.vm.ownBlock ≠ some k → W2.heap[k]? = W.heap[k]?) (hu : ∀ j, u'.ownBlock = some j → s1.vm.ownBlock = some j ∨ W.heap.size ≤ j) :
    LSt L pb hbn hbr room s { s1 with vm := u', ms := ms' } D E w (W2.setCell ⟨pb, 4, none⟩ u') :=
  h.step (h.inv.putMarks hT hg hu) (PStp.put ho (v := s1.vm) (by simp [PS.vals, PS.part3]) hg hu (fun u q => by
    simp only [PS.vals, PS.part1, PS.part2, PS.part3, List.mem_append, List.mem_cons] at q ⊢
    grind) u')
theorem LSt.putWere (h : LSt L pb hbn hbr room s s1 D E w W) {u' : Value} {ws' : List (List UInt8)} (hT : Tail W2 L 9 u' ws'.length (ws'.map Str)) (ho : W2.os = W.os ∧ W2.tape = W.tape ∧ W2.output = W.output ∧ W.heap.size ≤ W2.heap.size) (hg : ∀ k, k < W.heap.size → s1.vw.ownBlock ≠ some k → W2.heap[k]? = W.heap[k]?) (hu : ∀ j, u'.ownBlock = some j → s1.vw.ownBlock = some j ∨ W.heap.size ≤ j) :
    LSt L pb hbn hbr room s { s1 with vw := u', ws := ws' } D E w (W2.setCell ⟨pb, 7, none⟩ u') :=
  h.step (h.inv.putWere hT hg hu) (PStp.put ho (v := s1.vw) (by simp [PS.vals, PS.part3]) hg hu (fun u q => by
    simp only [PS.vals, PS.part1, PS.part2, PS.part3, List.mem_append, List.mem_cons] at q ⊢
    grind) u')
theorem LSt.cutBytes (h : LSt L pb hbn hbr room s s1 D E w W) {y : Dat} {ks' : List Dat} (hk : s1.ks = y :: ks') {u' : Value} (hT : Tail W L 29 u' ks'.length (ks'.map Dat.d)) (hu : u'.ownBlock = s1.vb.ownBlock) :
    LSt L pb hbn hbr room s { s1 with vb := u', ks := ks' } D E w (W.setCell ⟨pb, 2, none⟩ u') :=
  h.step (h.inv.cutBytes hk hT hu) (PStp.put ⟨rfl, rfl, rfl, Nat.le_refl _⟩ (v := s1.vb) (u' := u') (by simp [PS.vals, PS.part3]) (fun _ _ _ => rfl) (fun j hj => Or.inl (by rw [← hu]; exact hj)) (fun u q => by
    simp only [PS.vals, PS.part1, PS.part2, PS.part3, hk, List.map_cons, List.mem_append, List.mem_cons] at q ⊢
    grind) u')
theorem LSt.refloat (h : LSt L pb hbn hbr room s s1 D E w W) {x : Dat} {fl : List Dat} (hf : s1.fl = x :: fl) {bs' : List UInt8} (hT : W2.ownsRow L 5 1 x.d bs'.length (bs'.map B)) (ho : W2.os = W.os ∧ W2.tape = W.tape ∧ W2.output = W.output ∧ W.heap.size ≤ W2.heap.size) (hg : ∀ k, k < W.heap.size → x.d.ownBlock ≠ some k → W2.heap[k]? = W.heap[k]?) : LSt L pb hbn hbr room s { s1 with fl := ⟨x.d, bs'⟩ :: fl } D E w W2 :=
  h.step (h.inv.refloat hf hT hg) (PStp.vals ho (fun k hk hn => hg k hk fun e => hn (Or.inr (Or.inr (Or.inr (foot_of (h.inv.mS x.d ((side_fl hf).mem_iff.2 (by simp))) e))))) (same_vals (by simp [PS.vals, PS.part1, PS.part2, PS.part3, hf])))
theorem LSt.rekept (h : LSt L pb hbn hbr room s s1 D E w W) {x : Dat} {pre : List Dat} (hk : s1.ks = pre ++ [x]) (hT : W2.ownsRow L 5 1 x.d x.bs.length (x.bs.map B)) (ho : W2.os = W.os ∧ W2.tape = W.tape ∧ W2.output = W.output ∧ W.heap.size ≤ W2.heap.size) (hg : ∀ k, k < W.heap.size → x.d.ownBlock ≠ some k → W2.heap[k]? = W.heap[k]?) : LSt L pb hbn hbr room s s1 D E w W2 :=
  h.step (h.inv.rekept hk hT hg) (PStp.vals ho (fun k hk2 hn => hg k hk2 fun e => hn (Or.inr (Or.inr (Or.inr (foot_of (h.inv.mS x.d ((side_ks hk).mem_iff.2 (by simp))) e))))) (same_vals (by rfl)))
end
end Go.Proofs.Ytehjdkdoalmaeaa
