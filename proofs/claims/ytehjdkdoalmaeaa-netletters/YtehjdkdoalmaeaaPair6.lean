import Derived.Test.YtehjdkdoalmaeaaMade
namespace Go.Proofs.Ytehjdkdoalmaeaa
open Go.RowKit Go.PlainAid
set_option linter.unusedVariables false
set_option linter.unusedSimpArgs false
/-- What a call of the pair leaves as it was, and where the pair then lies. -/
structure PStp (pb hbn hbr : Nat) (s s' : PS) (w w' : World) : Prop where
  os : w'.os = w.os
  tape : w'.tape = w.tape
  output : w'.output = w.output
  size : w.heap.size ≤ w'.heap.size
  block : ∀ k, k < w.heap.size → ¬ s.has pb hbn hbr k → w'.heap[k]? = w.heap[k]?
  has : ∀ k, s'.has pb hbn hbr k → s.has pb hbn hbr k ∨ w.heap.size ≤ k
section
variable {L pb hbn hbr room : Nat} {s s' s'' : PS} {w w' w'' w2 : World}
theorem PStp.trans (h : PStp pb hbn hbr s s' w w') (k : PStp pb hbn hbr s' s'' w' w'') : PStp pb hbn hbr s s'' w w'' := by
  refine ⟨k.os.trans h.os, k.tape.trans h.tape, k.output.trans h.output, Nat.le_trans h.size k.size, fun j hj hn => ?_, fun j hj => ?_⟩
  · refine (k.block j (Nat.lt_of_lt_of_le hj h.size) fun q => ?_).trans (h.block j hj hn)
    rcases h.has j q with h1 | h1
    · exact hn h1
    · omega
  · rcases k.has j hj with h1 | h1
    · exact h.has j h1
    · exact Or.inr (Nat.le_trans h.size h1)
theorem PStp.ofBelow (h : Below w.heap.size w w') : PStp pb hbn hbr s s w w' := ⟨h.os, h.tape, h.output, h.size, fun k hk _ => h.block k hk, fun k hk => Or.inl hk⟩
theorem has_sub {A' C : List Value} (hp : s'.vals.Perm (A' ++ C)) (hs : ∀ k ∈ blocks A', k ∈ s.foot ∨ w.heap.size ≤ k) (hC : ∀ k ∈ blocks C, k ∈ s.foot) : ∀ k, s'.has pb hbn hbr k → s.has pb hbn hbr k ∨ w.heap.size ≤ k := by
  intro k hk
  rcases hk with h | h | h | h
  · exact Or.inl (Or.inl h)
  · exact Or.inl (Or.inr (Or.inl h))
  · exact Or.inl (Or.inr (Or.inr (Or.inl h)))
  · have h1 : k ∈ blocks (A' ++ C) := (blocks_perm hp).mem_iff.1 h
    rw [blocks_append] at h1
    rcases List.mem_append.1 h1 with h2 | h2
    · exact (hs k h2).imp (fun q => Or.inr (Or.inr (Or.inr q))) id
    · exact Or.inl (Or.inr (Or.inr (Or.inr (hC k h2))))
theorem foot1 {k : Nat} (h : k ∈ blocks s.part1) : k ∈ s.foot := by
  obtain ⟨u, hu, hb⟩ := mem_blocks.1 h
  exact foot_of (List.mem_append.2 (Or.inl hu)) hb
theorem foot2 {k : Nat} (h : k ∈ blocks s.part2) : k ∈ s.foot := by
  obtain ⟨u, hu, hb⟩ := mem_blocks.1 h
  exact foot_of (List.mem_append.2 (Or.inr (List.mem_append.2 (Or.inl hu)))) hb
theorem foot3 {k : Nat} (h : k ∈ blocks s.part3) : k ∈ s.foot := by
  obtain ⟨u, hu, hb⟩ := mem_blocks.1 h
  exact foot_of (List.mem_append.2 (Or.inr (List.mem_append.2 (Or.inr hu)))) hb
/-- A call of the bag. -/
theorem PStp.bag {v' : Value} {lv' : List LetV} {fl' : List Dat} (hst : Stp hbn s.v v' w w') (hsub : ∀ u ∈ lv'.map LetV.d ++ fl'.map Dat.d, ∀ k, u.ownBlock = some k → k ∈ s.foot ∨ w.heap.size ≤ k) : PStp pb hbn hbr s { s with v := v', lv := lv', fl := fl' } w w' := by
  refine ⟨hst.os, hst.tape, hst.output, hst.size, fun k hk hn => hst.block k hk (fun e => hn (Or.inr (Or.inl e))) (fun e => hn (Or.inr (Or.inr (Or.inr (foot_of (by simp [PS.vals, PS.part1]) e))))), ?_⟩
  refine has_sub (A' := v' :: (lv'.map LetV.d ++ fl'.map Dat.d)) (C := s.part2 ++ s.part3) (List.Perm.refl _) (fun k hk => ?_) (fun k hk => ?_)
  · obtain ⟨u, hu, hb⟩ := mem_blocks.1 hk
    rcases List.mem_cons.1 hu with rfl | hu
    · exact (hst.at' k hb).imp (fun q => foot_of (by simp [PS.vals, PS.part1]) q) id
    · exact hsub u hu k hb
  · rw [blocks_append] at hk
    rcases List.mem_append.1 hk with h | h
    · exact foot2 h
    · exact foot3 h
/-- A call of the reference. -/
theorem PStp.ref {vr' : Value} {lr' : List LetV} (hst : Stp hbr s.vr vr' w w') (hsub : ∀ u ∈ lr'.map LetV.d, ∀ k, u.ownBlock = some k → k ∈ s.foot ∨ w.heap.size ≤ k) : PStp pb hbn hbr s { s with vr := vr', lr := lr' } w w' := by
  refine ⟨hst.os, hst.tape, hst.output, hst.size, fun k hk hn => hst.block k hk (fun e => hn (Or.inr (Or.inr (Or.inl e)))) (fun e => hn (Or.inr (Or.inr (Or.inr (foot_of (by simp [PS.vals, PS.part2]) e))))), ?_⟩
  refine has_sub (A' := vr' :: lr'.map LetV.d) (C := s.part1 ++ s.part3) (vals_perm2 _) (fun k hk => ?_) (fun k hk => ?_)
  · obtain ⟨u, hu, hb⟩ := mem_blocks.1 hk
    rcases List.mem_cons.1 hu with rfl | hu
    · exact (hst.at' k hb).imp (fun q => foot_of (by simp [PS.vals, PS.part2]) q) id
    · exact hsub u hu k hb
  · rw [blocks_append] at hk
    rcases List.mem_append.1 hk with h | h
    · exact foot1 h
    · exact foot3 h
theorem foot_lv {x : LetV} (hx : x ∈ s.lv) {k : Nat} (hk : x.d.ownBlock = some k) : k ∈ s.foot := foot_of (by simp only [PS.vals, PS.part1, List.mem_append, List.mem_cons, List.mem_map]; exact Or.inl (Or.inr (Or.inl ⟨x, hx, rfl⟩))) hk
theorem foot_fl {x : Dat} (hx : x ∈ s.fl) {k : Nat} (hk : x.d.ownBlock = some k) : k ∈ s.foot := foot_of (by simp only [PS.vals, PS.part1, List.mem_append, List.mem_cons, List.mem_map]; exact Or.inl (Or.inr (Or.inr ⟨x, hx, rfl⟩))) hk
theorem foot_lr {x : LetV} (hx : x ∈ s.lr) {k : Nat} (hk : x.d.ownBlock = some k) : k ∈ s.foot := foot_of (by simp only [PS.vals, PS.part2, List.mem_append, List.mem_cons, List.mem_map]; exact Or.inr (Or.inl (Or.inr ⟨x, hx, rfl⟩))) hk
theorem PStp.send {v' : Value} {x : LetV} (hst : Stp hbn s.v v' w w') (hx : ∀ j, x.d.ownBlock = some j → w.heap.size ≤ j) : PStp pb hbn hbr s { s with v := v', lv := s.lv ++ [x] } w w' := by
  refine PStp.bag hst fun u hu k hk => ?_
  rw [List.map_append] at hu
  rcases List.mem_append.1 hu with h | h
  · rcases List.mem_append.1 h with h | h
    · obtain ⟨y, hy, rfl⟩ := List.mem_map.1 h
      exact Or.inl (foot_lv hy hk)
    · simp at h
      subst h
      exact Or.inr (hx k hk)
  · obtain ⟨y, hy, rfl⟩ := List.mem_map.1 h
    exact Or.inl (foot_fl hy hk)
theorem PStp.rsend {vr' : Value} {x : LetV} (hst : Stp hbr s.vr vr' w w') (hx : ∀ j, x.d.ownBlock = some j → w.heap.size ≤ j) : PStp pb hbn hbr s { s with vr := vr', lr := s.lr ++ [x] } w w' := by
  refine PStp.ref hst fun u hu k hk => ?_
  rw [List.map_append] at hu
  rcases List.mem_append.1 hu with h | h
  · obtain ⟨y, hy, rfl⟩ := List.mem_map.1 h
    exact Or.inl (foot_lr hy hk)
  · simp at h
    subst h
    exact Or.inr (hx k hk)
/-- What was lent is another row. -/
theorem PStp.lent {u' : Value} {lent' : List UInt8} (ho : w2.os = w.os ∧ w2.tape = w.tape ∧ w2.output = w.output ∧ w.heap.size ≤ w2.heap.size) (hg : ∀ k, k < w.heap.size → s.vl.ownBlock ≠ some k → w2.heap[k]? = w.heap[k]?) (hu : ∀ j, u'.ownBlock = some j → s.vl.ownBlock = some j ∨ w.heap.size ≤ j) : PStp pb hbn hbr s { s with vl := u', lent := lent' } w (w2.setCell ⟨pb, 5, none⟩ u') := by
  have hm : s.vl ∈ s.vals := by simp [PS.vals, PS.part3]
  refine ⟨ho.1, ho.2.1, ho.2.2.1, by simp [World.setCell]; exact ho.2.2.2, fun k hk hn => (Below.heap_setCell _ _ _ _ (fun e => hn (Or.inl e))).trans (hg k hk fun e => hn (Or.inr (Or.inr (Or.inr (foot_of hm e))))), ?_⟩
  intro k hk
  rcases hk with h | h | h | h
  · exact Or.inl (Or.inl h)
  · exact Or.inl (Or.inr (Or.inl h))
  · exact Or.inl (Or.inr (Or.inr (Or.inl h)))
  · obtain ⟨u, hu1, hb⟩ := List.mem_filterMap.1 h
    have : u = u' ∨ u ∈ s.vals := by
      simp only [PS.vals, PS.part1, PS.part2, PS.part3, List.mem_append, List.mem_cons] at hu1 ⊢
      rcases hu1 with h | h | h | h | h | h | h | h
      · exact Or.inr (Or.inl h)
      · exact Or.inr (Or.inr (Or.inl h))
      · exact Or.inr (Or.inr (Or.inr (Or.inl h)))
      · exact Or.inr (Or.inr (Or.inr (Or.inr (Or.inl h))))
      · exact Or.inl h
      · exact Or.inr (Or.inr (Or.inr (Or.inr (Or.inr (Or.inr (Or.inl h))))))
      · exact Or.inr (Or.inr (Or.inr (Or.inr (Or.inr (Or.inr (Or.inr (Or.inl h)))))))
      · exact Or.inr (Or.inr (Or.inr (Or.inr (Or.inr (Or.inr (Or.inr (Or.inr h)))))))
    rcases this with rfl | h1
    · exact (hu k hb).imp (fun q => Or.inr (Or.inr (Or.inr (foot_of hm q)))) id
    · exact Or.inl (Or.inr (Or.inr (Or.inr (foot_of h1 hb))))
/-- All of the pair's memory is at or above L. -/
theorem PInv.ge (h : PInv L pb hbn hbr room s w) (h1 : L ≤ pb) (h2 : L ≤ hbn) (h3 : L ≤ hbr) (k : Nat) (hk : s.has pb hbn hbr k) : L ≤ k := by
  rcases hk with rfl | rfl | rfl | hk
  · exact h1
  · exact h2
  · exact h3
  · obtain ⟨u, hu, hb⟩ := List.mem_filterMap.1 hk
    simp only [PS.vals, PS.part1, PS.part2, PS.part3, List.mem_cons, List.mem_append, List.mem_map] at hu
    rcases hu with (rfl | ⟨x, hx, rfl⟩ | ⟨x, hx, rfl⟩) | (rfl | ⟨x, hx, rfl⟩) | rfl | rfl | rfl | rfl | rfl | ⟨x, hx, rfl⟩ | ⟨x, hx, rfl⟩
    · exact (h.bag.own.lt k hb).1
    · exact ((h.bag.dat x hx).lt k hb).1
    · exact ((h.float x hx).lt k hb).1
    · exact (h.ref.own.lt k hb).1
    · exact ((h.ref.dat x hx).lt k hb).1
    · exact (tail_lt h.bytes k hb).1
    · exact (tail_lt h.marks k hb).1
    · exact (h.lentO.lt k hb).1
    · exact (tail_lt h.left k hb).1
    · exact (tail_lt h.were k hb).1
    · exact ((h.kept x hx).lt k hb).1
    · exact ((h.lefts x hx).lt k hb).1
theorem PStp.toBelow (hs : PStp pb hbn hbr s s' w w') (h : PInv L pb hbn hbr room s w) (h1 : L ≤ pb) (h2 : L ≤ hbn) (h3 : L ≤ hbr) (hL : L ≤ w.heap.size) : Below L w w' :=
  ⟨hs.os, hs.tape, hs.output, hs.size, fun k hk => hs.block k (by omega) fun q => by have := h.ge h1 h2 h3 k q; omega⟩
end
end Go.Proofs.Ytehjdkdoalmaeaa
