import Derived.Test.YtehjdkdoalmaeaaPlays0
namespace Go.Proofs.Ytehjdkdoalmaeaa
open Go.RowKit Go.PlainAid
set_option linter.unusedVariables false
set_option linter.unusedSimpArgs false
structure LAns (s s1 : PS) (ks1 : List (Int × Int × List UInt8)) : Prop where
  fl : s1.fl = []
  lv : s1.lv.map LetV.k = ks1
  lr : s1.lr = s.lr
  rest : Rest s s1
structure RLAns (s1 s2 : PS) (ks2 : List (Int × Int × List UInt8)) : Prop where
  fl : s2.fl = s1.fl
  lv : s2.lv = s1.lv
  lr : s2.lr.map LetV.k = ks2
  rest : Rest s1 s2
def BagOp (L pb hbn hbr room F : Nat) (args : Array Value) (s : PS) (O : Array Value) (w : World) (er : Int) (ks1 : List (Int × Int × List UInt8)) : Prop :=
  ∀ X, YSt L pb hbn hbr room s s O w X → Calls Try.prog F args X fun e Y => ∃ s1, e = .returned (.int .i64 er) ∧ YSt L pb hbn hbr room s s1 O w Y ∧ LAns s s1 ks1
def RefOp (L pb hbn hbr room F : Nat) (args : Array Value) (s : PS) (O : Array Value) (w : World) (er : Int) (ks2 : List (Int × Int × List UInt8)) : Prop :=
  ∀ X s1, YSt L pb hbn hbr room s s1 O w X → s1.lr = s.lr → Calls Try.prog F args X fun e Y => ∃ s2, e = .returned (.int .i64 er) ∧ YSt L pb hbn hbr room s s2 O w Y ∧ RLAns s1 s2 ks2
theorem ag_keys {room : Nat} {s : PS} (ks : List (Int × Int × List UInt8)) (h1 : s.lv.map LetV.k = ks) (h2 : s.lr.map LetV.k = ks) (hl : ks.length ≤ room) (hs : ∀ x ∈ ks, x.2.2.length ≤ 1048576) : PAg room s :=
  ⟨h1.trans h2.symm, by rw [← h1, List.length_map] at hl; exact hl, fun x hx => hs x.k (by rw [← h1]; exact List.mem_map.2 ⟨x, hx, rfl⟩)⟩
theorem map_erase {α β : Type} (f : α → β) (l : List α) (i : Nat) : (l.eraseIdx i).map f = (l.map f).eraseIdx i := by
  simp [List.eraseIdx_eq_take_drop_succ]
theorem map_insert {α β : Type} (f : α → β) (l : List α) (i : Nat) (a : α) : (l.insertIdx i a).map f = (l.map f).insertIdx i (f a) := by
  induction l generalizing i with
  | nil => cases i <;> simp [List.insertIdx]
  | cons x l ih =>
    cases i with
    | zero => simp
    | succ i => simp [ih]
theorem move_perm {l : List LetV} {i j : Nat} {x : LetV} (hi : l[i]? = some x) (hj : j < l.length) : ((l.eraseIdx i).insertIdx j x).Perm l := by
  have hil := (List.getElem?_eq_some_iff.1 hi).1
  have h1 : ((l.eraseIdx i).insertIdx j x).Perm (x :: l.eraseIdx i) := List.perm_insertIdx _ _ (by rw [List.length_eraseIdx_of_lt hil]; omega)
  exact h1.trans (erase_perm l i x hi).symm
section
variable {L pb hbn hbr room : Nat} {s : PS} {O : Array Value} {w : World}
theorem bag_same {F : Nat} {args : Array Value} {er : Int} (hf : s.fl = []) (h : ∀ X, Bag L hbn room s.v s.lv X → Calls Try.prog F args X fun e Y => e = .returned (.int .i64 er) ∧ Below X.heap.size X Y) : BagOp L pb hbn hbr room F args s O w er (s.lv.map LetV.k) := by
  intro X hX
  refine (h X hX.inv.bag).mono ?_
  rintro e Y ⟨rfl, hb⟩
  exact ⟨s, rfl, hX.below hb, hf, rfl, rfl, Rest.refl s⟩
theorem ref_same {F : Nat} {args : Array Value} {er : Int} (h : ∀ X v, RBag L hbr room v s.lr X → Calls Try.prog F args X fun e Y => e = .returned (.int .i64 er) ∧ Below X.heap.size X Y) : RefOp L pb hbn hbr room F args s O w er (s.lr.map LetV.k) := by
  intro X s1 hX hlr
  have hB0 := hX.inv.ref
  rw [hlr] at hB0
  refine (h X s1.vr hB0).mono ?_
  rintro e Y ⟨rfl, hb⟩
  exact ⟨s1, rfl, hX.below hb, rfl, rfl, by rw [hlr], Rest.refl s1⟩
theorem below_same {F : Nat} {args : Array Value} {X : World} {r : Value} (h : Calls Try.prog F args X fun e Y => e = .returned r ∧ Y = X) : Calls Try.prog F args X fun e Y => e = .returned r ∧ Below X.heap.size X Y := by
  refine h.mono ?_
  rintro e Y ⟨rfl, rfl⟩
  exact ⟨rfl, Below.refl _ _⟩
/-- Drop, where there is one. -/
theorem drop_yes (hf : s.fl = []) (hroom : s.lv.length ≤ 1024) (i : Nat) (l : LetV) (hl : s.lv[i]? = some l) : BagOp L pb hbn hbr room 19 #[.pointer (some ⟨hbn, 0, none⟩), .int .i64 (i : Nat)] s O w 0 ((s.lv.map LetV.k).eraseIdx i) := by
  intro X hX
  refine (drop_at X hX.inv.bag hroom i l hl).mono ?_
  rintro e Y ⟨rfl, v', hB, hst⟩
  have hP := (hX.inv.take hl hB hst).lose (x := ⟨l.d, l.bs⟩) (fl := s.fl) rfl
  have hS : PStp pb hbn hbr s { s with v := v', lv := s.lv.eraseIdx i } X Y := by
    refine PStp.bag (fl' := s.fl) hst fun u hu k hk => Or.inl ?_
    rcases List.mem_append.1 hu with h | h
    · obtain ⟨y, hy, rfl⟩ := List.mem_map.1 h
      exact foot_lv (List.mem_of_mem_eraseIdx hy) hk
    · rw [hf] at h
      cases h
  exact ⟨_, rfl, hX.step hP hS, hf, map_erase _ _ _, rfl, ⟨rfl, rfl, rfl, rfl, rfl, rfl, rfl⟩⟩
theorem rdrop_yes (hLw : L ≤ w.heap.size) (hroom : s.lr.length ≤ 1024) (i : Nat) (hi : i < s.lr.length) : RefOp L pb hbn hbr room 35 #[.pointer (some ⟨hbr, 0, none⟩), .int .i64 (i : Nat)] s O w 0 ((s.lr.map LetV.k).eraseIdx i) := by
  intro X s1 hX hlr
  have hB0 := hX.inv.ref
  rw [hlr] at hB0
  refine (rdrop_at X hB0 hroom (Nat.le_trans hLw hX.stp.size) i hi).mono ?_
  rintro e Y ⟨rfl, v', hB, hst⟩
  have hP := hX.inv.rturn (lr' := s.lr.eraseIdx i) (lq := s.lr.eraseIdx i) (List.Perm.refl _) (by rw [hlr]; exact List.eraseIdx_sublist _ _) hB hst
  have hS : PStp pb hbn hbr s1 { s1 with vr := v', lr := s.lr.eraseIdx i } X Y := by
    refine PStp.ref hst fun u hu k hk => Or.inl ?_
    obtain ⟨y, hy, rfl⟩ := List.mem_map.1 hu
    exact foot_lr (by rw [hlr]; exact List.mem_of_mem_eraseIdx hy) hk
  exact ⟨_, rfl, hX.step hP hS, rfl, rfl, map_erase _ _ _, ⟨rfl, rfl, rfl, rfl, rfl, rfl, rfl⟩⟩
/-- Double, where there is one and room. -/
theorem double_yes (hf : s.fl = []) (hLw : L ≤ w.heap.size) (hroom : room ≤ 1024) (hlen : s.lv.length < room) (i : Nat) (l : LetV) (hl : s.lv[i]? = some l) (hsz : l.bs.length ≤ 1048576) : BagOp L pb hbn hbr room 18 #[.pointer (some ⟨hbn, 0, none⟩), .int .i64 (i : Nat)] s O w 0 (s.lv.map LetV.k ++ [l.k]) := by
  intro X hX
  refine (double_room X hX.inv.bag hroom hlen (Nat.le_trans hLw hX.stp.size) i l hl (by omega)).mono ?_
  rintro e Y ⟨rfl, v', d', hB, hst, hfr⟩
  have hP := hX.inv.send (x := ⟨l.f, l.t, d', l.bs⟩) hB hst hfr
  have hS := PStp.send (pb := pb) (hbn := hbn) (hbr := hbr) (s := s) (x := ⟨l.f, l.t, d', l.bs⟩) hst hfr
  exact ⟨_, rfl, hX.step hP hS, hf, by show (s.lv ++ [_]).map LetV.k = _; rw [List.map_append]; rfl, rfl, ⟨rfl, rfl, rfl, rfl, rfl, rfl, rfl⟩⟩
theorem rdouble_yes (hLw : L ≤ w.heap.size) (hroom : room ≤ 1024) (hlen : s.lr.length < room) (i : Nat) (l : LetV) (hl : s.lr[i]? = some l) (hsz : l.bs.length ≤ 1048576) : RefOp L pb hbn hbr room 36 #[.pointer (some ⟨hbr, 0, none⟩), .int .i64 (i : Nat)] s O w 0 (s.lr.map LetV.k ++ [l.k]) := by
  intro X s1 hX hlr
  have hB0 := hX.inv.ref
  rw [hlr] at hB0
  refine (rdouble_room X hB0 hroom hlen (Nat.le_trans hLw hX.stp.size) i l hl (by omega)).mono ?_
  rintro e Y ⟨rfl, v', d', hB, hst, hfr⟩
  have hB' : RBag L hbr room v' (s1.lr ++ [⟨l.f, l.t, d', l.bs⟩]) Y := by rw [hlr]; exact hB
  have hP := hX.inv.rsend (x := ⟨l.f, l.t, d', l.bs⟩) hB' hst hfr
  have hS := PStp.rsend (pb := pb) (hbn := hbn) (hbr := hbr) (s := s1) (x := ⟨l.f, l.t, d', l.bs⟩) hst hfr
  exact ⟨_, rfl, hX.step hP hS, rfl, rfl, by show (s1.lr ++ [_]).map LetV.k = _; rw [hlr, List.map_append]; rfl, ⟨rfl, rfl, rfl, rfl, rfl, rfl, rfl⟩⟩
/-- Move, where both are. -/
theorem move_yes (hf : s.fl = []) (hroom : s.lv.length ≤ 1024) (i j : Nat) (l : LetV) (hl : s.lv[i]? = some l) (hj : j < s.lv.length) : BagOp L pb hbn hbr room 15 #[.pointer (some ⟨hbn, 0, none⟩), .int .i64 (i : Nat), .int .i64 (j : Nat)] s O w 0 (((s.lv.map LetV.k).eraseIdx i).insertIdx j l.k) := by
  intro X hX
  refine (move_at X hX.inv.bag hroom i j l hl hj).mono ?_
  rintro e Y ⟨rfl, v', hB, hst⟩
  have hp := move_perm hl hj
  have hP := hX.inv.turn hp hB hst
  have hS : PStp pb hbn hbr s { s with v := v', lv := (s.lv.eraseIdx i).insertIdx j l } X Y := by
    refine PStp.bag (fl' := s.fl) hst fun u hu k hk => Or.inl ?_
    rcases List.mem_append.1 hu with h | h
    · obtain ⟨y, hy, rfl⟩ := List.mem_map.1 h
      exact foot_lv (hp.mem_iff.1 hy) hk
    · rw [hf] at h
      cases h
  exact ⟨_, rfl, hX.step hP hS, hf, by show ((s.lv.eraseIdx i).insertIdx j l).map LetV.k = _; rw [map_insert, map_erase], rfl, ⟨rfl, rfl, rfl, rfl, rfl, rfl, rfl⟩⟩
theorem rmove_yes (hLw : L ≤ w.heap.size) (hroom : s.lr.length ≤ 1024) (i j : Nat) (l : LetV) (hl : s.lr[i]? = some l) (hj : j < s.lr.length) : RefOp L pb hbn hbr room 37 #[.pointer (some ⟨hbr, 0, none⟩), .int .i64 (i : Nat), .int .i64 (j : Nat)] s O w 0 (((s.lr.map LetV.k).eraseIdx i).insertIdx j l.k) := by
  intro X s1 hX hlr
  have hB0 := hX.inv.ref
  rw [hlr] at hB0
  refine (rmove_at X hB0 hroom (Nat.le_trans hLw hX.stp.size) i j l hl hj).mono ?_
  rintro e Y ⟨rfl, v', hB, hst⟩
  have hp := move_perm hl hj
  have hP := hX.inv.rturn (lr' := (s.lr.eraseIdx i).insertIdx j l) (lq := s.lr) hp (by rw [hlr]; exact List.Sublist.refl _) hB hst
  have hS : PStp pb hbn hbr s1 { s1 with vr := v', lr := (s.lr.eraseIdx i).insertIdx j l } X Y := by
    refine PStp.ref hst fun u hu k hk => Or.inl ?_
    obtain ⟨y, hy, rfl⟩ := List.mem_map.1 hu
    exact foot_lr (by rw [hlr]; exact hp.mem_iff.1 hy) hk
  exact ⟨_, rfl, hX.step hP hS, rfl, rfl, by show ((s.lr.eraseIdx i).insertIdx j l).map LetV.k = _; rw [map_insert, map_erase], ⟨rfl, rfl, rfl, rfl, rfl, rfl, rfl⟩⟩
end
end Go.Proofs.Ytehjdkdoalmaeaa
