import Derived.Test.YtkdndfdofhnagaaDoorLed
import Derived.Maps.RangeRun
import Derived.ChangeMaps4
namespace Go.Proofs.YtkdndfdofhnagaaDoor
open Go.RowKit Go.PlainAid Go.MapKept
open Go.ChangeMaps (setBlock)
set_option linter.unusedVariables false
set_option linter.unusedSimpArgs false
structure Hd where
  k : Int
  am : Int
  du : Int
def keyV (m k : Int) : Value := .agg #[.int .i64 m, .int .i64 k]
def holdV (a d : Int) : Value := .agg #[.int .i64 a, .int .i64 d]
def kv (e : MapEntry) : Value × Value := (e.key, e.val)
def enc (m : Int) (h : Hd) : Value × Value := (keyV m h.k, holdV h.am h.du)
/-- Block mb is the map of the holds L, in the order in which they were made. -/
def HMap (w : World) (mb : Nat) (m : Int) (L : List Hd) : Prop := ∃ es clock, w.heap[mb]? = some (.map es clock) ∧ Stamped es clock ∧ es.toList.map kv = L.map (enc m)
theorem HMap.lt {w : World} {mb : Nat} {m : Int} {L : List Hd} (h : HMap w mb m L) : mb < w.heap.size := by
  obtain ⟨es, c, h, _⟩ := h
  exact (Array.getElem?_eq_some_iff.1 h).1
theorem HMap.same {w w' : World} {mb : Nat} {m : Int} {L : List Hd} (h : HMap w mb m L) (he : w'.heap[mb]? = w.heap[mb]?) : HMap w' mb m L := by
  obtain ⟨es, c, h, r⟩ := h
  exact ⟨es, c, he.trans h, r⟩
theorem HMap.made (w : World) (m : Int) : HMap (w.alloc (.map #[] 0)) w.heap.size m [] := ⟨#[], 0, heap_alloc_new w _, stamped_empty 0, rfl⟩
set_option maxHeartbeats 2000000 in
theorem eq_in (n : Nat) (a b c d : Int) (w : World) : (Go.Op.equalIn (n + 2) 78 (keyV a b) (keyV c d)).run Tryd.prog w = .ok (a == c && b == d) w := by
  have h0 : Tryd.prog.stoodInHeld 78 = false := by kernel_rfl
  have e1 : (Go.Op.equalIn (n + 1) 3 (.int .i64 a) (.int .i64 c)).run Tryd.prog w = .ok (a == c) w := by kernel_rfl
  have e2 : (Go.Op.equalIn (n + 1) 3 (.int .i64 b) (.int .i64 d)).run Tryd.prog w = .ok (b == d) w := by kernel_rfl
  unfold keyV
  unfold Go.Op.equalIn
  cases hx : (a == c) <;> cases hy : (b == d) <;> rw [hx] at e1 <;> rw [hy] at e2 <;> simp [go_sem, h0, Result.andThen, e1, e2, run_underlying Tryd.underlying78]
theorem eq_key (a b c d : Int) (w : World) : (Go.Op.equal 78 (keyV a b) (keyV c d)).run Tryd.prog w = .ok (a == c && b == d) w := eq_in 9998 a b c d w
theorem check_in (n : Nat) (b : Bool) (m k : Int) (w : World) : (Instr.checkKey b (n + 2) 78 (keyV m k)).run Tryd.prog w = .ok () w := by
  unfold keyV
  simp [Instr.checkKey, go_sem, Result.andThen, run_underlying Tryd.underlying78, run_underlying Tryd.underlying3]
theorem check_key (b : Bool) (m k : Int) (w : World) : (Instr.checkKey b 10000 78 (keyV m k)).run Tryd.prog w = .ok () w := check_in 9998 b m k w
def fnd (k : Int) : List Hd → Nat → Option (Nat × Hd)
  | [], _ => none
  | h :: t, i => if k = h.k then some (i, h) else fnd k t (i + 1)
theorem find_run (m k : Int) (w : World) : ∀ (es : List MapEntry) (L : List Hd) (i : Nat), es.map kv = L.map (enc m) → (Instr.findAsking 78 (keyV m k) es i).run Tryd.prog w = .ok ((fnd k L i).map fun p => (p.1, holdV p.2.am p.2.du)) w
  | [], [], i, _ => rfl
  | [], _ :: _, i, h => by simp at h
  | _ :: _, [], i, h => by simp at h
  | e :: es, x :: L, i, h => by
    simp only [List.map_cons, List.cons.injEq] at h
    obtain ⟨h1, h2⟩ := h
    have ek : e.key = keyV m x.k := congrArg Prod.fst h1
    have ev : e.val = holdV x.am x.du := congrArg Prod.snd h1
    unfold Instr.findAsking
    rw [Sem.run_bind, ek, eq_key]
    by_cases hk : k = x.k
    · subst hk
      simp [fnd, ev, Result.andThen]
    · have := find_run m k w es L (i + 1) h2
      simp [fnd, hk, Result.andThen]
      exact this
theorem findKey_run (m k : Int) (w : World) (es : List MapEntry) (L : List Hd) (h : es.map kv = L.map (enc m)) : (Instr.findKey 78 (keyV m k) es).run Tryd.prog w = .ok ((fnd k L 0).map fun p => (p.1, holdV p.2.am p.2.du)) w := by
  unfold Instr.findKey
  rw [Sem.run_bind, run_underlying Tryd.underlying78]
  simp only [Result.andThen]
  match es, L, h with
  | [], [], _ => rfl
  | [], _ :: _, h => simp at h
  | _ :: _, [], h => simp at h
  | e :: es, x :: L, h =>
    have := find_run m k w (e :: es) (x :: L) 0 h
    simp only [List.map_cons, List.cons.injEq] at h
    have ek : e.key = keyV m x.k := congrArg Prod.fst h.1
    have e0 : ∀ d, Instr.sameNow (.struct d) (keyV m k) (keyV m x.k) = none := fun d => rfl
    simp only [Instr.findNow, ek, e0]
    exact this
def zed : Hd := ⟨0, 0, 0⟩
def look (k : Int) (L : List Hd) : Option Hd := L.find? fun h => k == h.k
theorem fnd_look (k : Int) : ∀ (L : List Hd) (i : Nat), (fnd k L i).map (·.2) = look k L
  | [], _ => rfl
  | h :: t, i => by
    have := fnd_look k t (i + 1)
    by_cases e : k = h.k
    · simp [fnd, look, e]
    · have e2 : (k == h.k) = false := by simpa using e
      simp only [fnd, if_neg e, look, List.find?_cons, e2] at this ⊢
      exact this
theorem zero80 (w : World) : (zeroValue 80).run Tryd.prog w = .ok (holdV 0 0) w := by kernel_rfl
theorem HMap.look_ok {w : World} {mb : Nat} {m : Int} {L : List Hd} (h : HMap w mb m L) (k : Int) (b : Bool) :
    (Instr.lookup 66 (.map (some mb)) (keyV m k) b).run Tryd.prog w = .ok (bif b then .tuple #[holdV ((look k L).getD zed).am ((look k L).getD zed).du, .bool (look k L).isSome] else holdV ((look k L).getD zed).am ((look k L).getD zed).du) w := by
  obtain ⟨es, c, hb, hs, he⟩ := h
  have hf := findKey_run m k w es.toList L he
  rw [← fnd_look k L 0]
  cases hq : fnd k L 0 with
  | none =>
    rw [hq] at hf
    simp [Instr.lookup, run_underlying Tryd.underlying66, MapKept.run_getObj_map hb, check_key, hf, zero80, Result.andThen, zed]
    try (cases b <;> rfl)
  | some p =>
    rw [hq] at hf
    simp [Instr.lookup, run_underlying Tryd.underlying66, MapKept.run_getObj_map hb, check_key, hf, zero80, Result.andThen, zed]
    try (cases b <;> rfl)
theorem HMap.len {w : World} {mb : Nat} {m : Int} {L : List Hd} (h : HMap w mb m L) (ty : TypeId) : (Builtin.len_ #[66] ty #[.map (some mb)]).run Tryd.prog w = .ok (.int .i64 L.length) w := by
  obtain ⟨es, c, hb, hs, he⟩ := h
  have e1 : es.size = L.length := by simpa using congrArg List.length he
  rw [← e1]
  simp [Builtin.len_, run_underlying Tryd.underlying66, MapKept.run_getObj_map hb, goInt, Result.andThen]
theorem fnd_none (k : Int) : ∀ (L : List Hd) (i : Nat), (∀ h ∈ L, h.k ≠ k) → fnd k L i = none
  | [], _, _ => rfl
  | h :: t, i, hn => by
    have h1 := hn h (by simp)
    simp only [fnd, if_neg (show ¬ k = h.k from fun e => h1 e.symm)]
    exact fnd_none k t (i + 1) (fun x hx => hn x (by simp [hx]))
theorem Stq.setBlock {w : World} {r : Nat} {o : Obj} : Stq r w (setBlock w r o) :=
  ⟨rfl, rfl, rfl, by simp [ChangeMaps.setBlock], fun k hk hn => by simp only [ChangeMaps.setBlock]; rw [Array.getElem?_setIfInBounds_ne (Ne.symm hn)]⟩
theorem setBlock_at {w : World} {r : Nat} {o : Obj} (h : r < w.heap.size) : (setBlock w r o).heap[r]? = some o := by
  simp [ChangeMaps.setBlock, h]
theorem HMap.put {w : World} {mb : Nat} {m : Int} {L : List Hd} (h : HMap w mb m L) (k a d : Int) (hk : ∀ x ∈ L, x.k ≠ k) :
    ∃ w', (Instr.mapUpdate 66 (.map (some mb)) (keyV m k) (holdV a d)).run Tryd.prog w = .ok () w' ∧ HMap w' mb m (L ++ [⟨k, a, d⟩]) ∧ Stq mb w w' ∧ w'.heap.size = w.heap.size := by
  have hlt := h.lt
  obtain ⟨es, c, hb, hs, he⟩ := h
  have hf := findKey_run m k w es.toList L he
  rw [fnd_none k L 0 hk] at hf
  refine ⟨ChangeMaps.setBlock w mb (.map (es.push { key := keyV m k, val := holdV a d, born := c }) (c + 1)), ?_, ⟨_, _, setBlock_at hlt, stamped_push hs ?_, ?_⟩, Stq.setBlock, by simp [ChangeMaps.setBlock]⟩
  · simp [Instr.mapUpdate, run_underlying Tryd.underlying66, MapKept.run_getObj_map hb, check_key, hf, MapKept.run_setObj_map _ hb, Result.andThen, ChangeMaps.setBlock]
  · intro x hx e
    have : kv x ∈ L.map (enc m) := he ▸ List.mem_map.2 ⟨x, hx, rfl⟩
    obtain ⟨y, hy, e2⟩ := List.mem_map.1 this
    have e3 : keyV m y.k = keyV m k := (congrArg Prod.fst e2).trans e
    unfold keyV at e3
    simp at e3
    exact hk y hy e3
  · simp [he, kv, enc]
def rm (k : Int) (L : List Hd) : List Hd := L.eraseP fun h => k == h.k
theorem fnd_rm (k : Int) : ∀ (L : List Hd) (i : Nat) (p : Nat × Hd), fnd k L i = some p → i ≤ p.1 ∧ L.eraseIdx (p.1 - i) = rm k L ∧ p.1 - i < L.length
  | [], _, _, h => by simp [fnd] at h
  | x :: t, i, p, h => by
    by_cases e : k = x.k
    · simp only [fnd, if_pos e, Option.some.injEq] at h
      subst h
      simp [rm, e]
    · simp only [fnd, if_neg e] at h
      obtain ⟨h1, h2, h3⟩ := fnd_rm k t (i + 1) p h
      have e2 : (k == x.k) = false := by simpa using e
      refine ⟨by omega, ?_, by simp; omega⟩
      rw [show p.1 - i = (p.1 - (i + 1)) + 1 by omega]
      simp only [List.eraseIdx_cons_succ, h2, rm, List.eraseP_cons, e2, cond_false]
theorem HMap.del {w : World} {mb : Nat} {m : Int} {L : List Hd} (h : HMap w mb m L) (k : Int) :
    ∃ w', (∀ ty, (Builtin.delete_ #[66, 78] ty #[.map (some mb), keyV m k]).run Tryd.prog w = .ok (.tuple #[]) w') ∧ HMap w' mb m (rm k L) ∧ Stq mb w w' ∧ w'.heap.size = w.heap.size := by
  have hlt := h.lt
  obtain ⟨es, c, hb, hs, he⟩ := h
  have hf := findKey_run m k w es.toList L he
  have e1 : es.size = L.length := by simpa using congrArg List.length he
  cases hq : fnd k L 0 with
  | none =>
    rw [hq] at hf
    have hn : rm k L = L := by
      unfold rm
      rw [List.eraseP_of_forall_not]
      intro x hx
      have := fnd_look k L 0
      rw [hq] at this
      have h2 : L.find? (fun h => k == h.k) = none := this.symm
      exact List.find?_eq_none.1 h2 x hx
    refine ⟨ChangeMaps.setBlock w mb (.map es c), ?_, ⟨_, _, setBlock_at hlt, hs, by rw [hn]; exact he⟩, Stq.setBlock, by simp [ChangeMaps.setBlock]⟩
    intro ty
    simp [Builtin.delete_, run_underlying Tryd.underlying66, MapKept.run_getObj_map hb, check_key, hf, MapKept.run_setObj_map _ hb, Result.andThen, ChangeMaps.setBlock]
  | some p =>
    rw [hq] at hf
    obtain ⟨_, h2, h3⟩ := fnd_rm k L 0 p hq
    simp only [Nat.sub_zero] at h2 h3
    refine ⟨ChangeMaps.setBlock w mb (.map (es.eraseIdxIfInBounds p.1) c), ?_, ⟨_, _, setBlock_at hlt, stamped_erase hs p.1, ?_⟩, Stq.setBlock, by simp [ChangeMaps.setBlock]⟩
    · intro ty
      simp [Builtin.delete_, run_underlying Tryd.underlying66, MapKept.run_getObj_map hb, check_key, hf, MapKept.run_setObj_map _ hb, Result.andThen, ChangeMaps.setBlock]
    · have hsub : (es.eraseIdxIfInBounds p.1).toList = es.toList.eraseIdx p.1 := by
        unfold Array.eraseIdxIfInBounds
        rw [dif_pos (by omega)]
        simp
      rw [hsub, ChangeMaps.map_eraseIdx, he, ← ChangeMaps.map_eraseIdx, h2]
/-- A range over the map under way: D has come, T is still to come. -/
def Rng (w : World) (mb r : Nat) (m : Int) (L D T : List Hd) : Prop :=
  ∃ es clock since seen c0, w.heap[mb]? = some (.map es clock) ∧ Stamped es clock ∧ es.toList.map kv = L.map (enc m) ∧ w.heap[r]? = some (.mapIter (some mb) since seen c0) ∧ (∀ x ∈ es.toList, x.born < since) ∧ since ≤ c0 ∧ since ≤ clock ∧
    (leftOf es seen).toList.map kv = T.map (enc m) ∧ (D ++ T).Perm L
theorem Rng.map {w : World} {mb r : Nat} {m : Int} {L D T : List Hd} (h : Rng w mb r m L D T) : HMap w mb m L := by
  obtain ⟨es, c, _, _, _, h1, h2, h3, _⟩ := h
  exact ⟨es, c, h1, h2, h3⟩
theorem Rng.perm {w : World} {mb r : Nat} {m : Int} {L D T : List Hd} (h : Rng w mb r m L D T) : (D ++ T).Perm L := by
  obtain ⟨_, _, _, _, _, _, _, _, _, _, _, _, _, h⟩ := h
  exact h
theorem Rng.lt {w : World} {mb r : Nat} {m : Int} {L D T : List Hd} (h : Rng w mb r m L D T) : r < w.heap.size := by
  obtain ⟨_, _, _, _, _, _, _, _, h, _⟩ := h
  exact (Array.getElem?_eq_some_iff.1 h).1
theorem Rng.ne {w : World} {mb r : Nat} {m : Int} {L D T : List Hd} (h : Rng w mb r m L D T) : r ≠ mb := by
  obtain ⟨_, _, _, _, _, h1, _, _, h, _⟩ := h
  intro e
  rw [e, h1] at h
  cases h
theorem Rng.same {w w' : World} {mb r : Nat} {m : Int} {L D T : List Hd} (h : Rng w mb r m L D T) (h1 : w'.heap[mb]? = w.heap[mb]?) (h2 : w'.heap[r]? = w.heap[r]?) : Rng w' mb r m L D T := by
  obtain ⟨es, c, s, sn, c0, a, b, d, e, f⟩ := h
  exact ⟨es, c, s, sn, c0, h1.trans a, b, d, h2.trans e, f⟩
theorem HMap.range {w : World} {mb : Nat} {m : Int} {L : List Hd} (h : HMap w mb m L) :
    ∃ w', (Instr.range 66 (.map (some mb))).run Tryd.prog w = .ok (.pointer (some ⟨w.heap.size, 0, none⟩)) w' ∧ Rng w' mb w.heap.size m L [] L ∧ Below w.heap.size w w' ∧ w'.heap.size = w.heap.size + 1 := by
  have hlt := h.lt
  obtain ⟨es, c, hb, hs, he⟩ := h
  refine ⟨_, run_range_map w 66 78 80 mb es c Tryd.underlying66 hb, ⟨es, c, c, #[], c, ((MapKept.heap_alloc w _).2 mb hlt).trans hb, hs, he, (MapKept.heap_alloc w _).1, hs.1, Nat.le_refl _, Nat.le_refl _, ?_, by simp⟩, (Below.refl _ _).alloc (Nat.le_refl _) _, by simp⟩
  rw [← he]
  have e0 : (leftOf es #[]).toList = es.toList := by
    simp only [leftOf, Array.toList_filter]
    exact List.filter_eq_self.2 (fun x _ => by simp)
  rw [e0]
theorem left_push (es : Array MapEntry) (seen : Array Nat) (b : Nat) : (leftOf es (seen.push b)).toList = (leftOf es seen).toList.filter (fun x => x.born != b) := by
  simp only [leftOf, Array.toList_filter, List.filter_filter]
  congr 1
  funext x
  simp only [Array.contains_push]
  cases seen.contains x.born <;> cases h : (x.born == b) <;> simp_all
theorem take_one (m : Int) (e : MapEntry) : ∀ (l : List MapEntry) (T : List Hd), l.map kv = T.map (enc m) → (l.map (·.born)).Nodup → e ∈ l → ∃ h T', kv e = enc m h ∧ (l.filter (fun x => x.born != e.born)).map kv = T'.map (enc m) ∧ (h :: T').Perm T
  | [], _, _, _, h => by simp at h
  | x :: l, [], h, _, _ => by simp at h
  | x :: l, t :: T, h, hn, hm => by
    simp only [List.map_cons, List.cons.injEq] at h
    simp only [List.map_cons, List.nodup_cons] at hn
    by_cases e1 : x.born = e.born
    · have hx : e = x := by
        rcases List.mem_cons.1 hm with h' | h'
        · exact h'
        · exact absurd (List.mem_map.2 ⟨e, h', e1.symm⟩) hn.1
      subst hx
      refine ⟨t, T, h.1, ?_, List.Perm.refl _⟩
      rw [List.filter_cons_of_neg (by simp)]
      rw [List.filter_eq_self.2]
      · exact h.2
      · intro y hy
        have : y.born ≠ e.born := fun e2 => hn.1 (List.mem_map.2 ⟨y, hy, e2⟩)
        simpa using this
    · have hm2 : e ∈ l := by
        rcases List.mem_cons.1 hm with h' | h'
        · exact absurd (congrArg MapEntry.born h'.symm) e1
        · exact h'
      obtain ⟨g, T', h1, h2, h3⟩ := take_one m e l T h.2 hn.2 hm2
      refine ⟨g, t :: T', h1, ?_, ?_⟩
      · rw [List.filter_cons_of_pos (by simpa using e1)]
        simp only [List.map_cons, h.1, h2]
      · exact (List.Perm.swap _ _ _).trans (h3.cons t)
theorem Rng.next {w : World} {mb r : Nat} {m : Int} {L D T : List Hd} (h : Rng w mb r m L D T) (ty : TypeId) :
    (T = [] ∧ (Instr.next (.pointer (some ⟨r, 0, none⟩)) false ty).run Tryd.prog w = .ok (.tuple #[.bool false]) w) ∨
    ∃ x T' w', (Instr.next (.pointer (some ⟨r, 0, none⟩)) false ty).run Tryd.prog w = .ok (.tuple #[.bool true, keyV m x.k, holdV x.am x.du]) w' ∧ (Instr.entry (.pointer (some ⟨r, 0, none⟩))).run Tryd.prog w' = .ok (.tuple #[keyV m x.k, holdV x.am x.du]) w' ∧
      Rng w' mb r m L (D ++ [x]) T' ∧ T'.length < T.length ∧ Stq r w w' ∧ w'.heap.size = w.heap.size := by
  have hne := h.ne
  have hlt := h.lt
  obtain ⟨es, c, s, sn, c0, hb, hs, he, hr, hold, hsc, hsk, hl, hp⟩ := h
  rcases run_next_at (P := Tryd.prog) w ty r mb s c0 sn es c hr hb hold hsc with ⟨h0, hrun⟩ | ⟨e, hem, w1, hal, hrun⟩
  · refine Or.inl ⟨?_, hrun⟩
    have := congrArg List.length hl
    simp at this
    exact List.length_eq_zero_iff.1 (by omega)
  · have hst := (stamped_iff es c).1 hs
    have hmem : e ∈ es.toList := by
      simp only [leftOf, Array.toList_filter, List.mem_filter] at hem
      exact hem.1
    have hnl : ((leftOf es sn).toList.map (·.born)).Nodup := by
      simp only [leftOf, Array.toList_filter]
      exact (List.filter_sublist.map _).nodup hst.2.1
    obtain ⟨x, T', h1, h2, h3⟩ := take_one m e _ T hl hnl hem
    have ek : e.key = keyV m x.k := congrArg Prod.fst h1
    have ev : e.val = holdV x.am x.du := congrArg Prod.snd h1
    have hr1 : w1.heap[r]? = some (.mapIter (some mb) s sn c0) := by rcases hal with rfl | rfl <;> exact hr
    have hb1 : w1.heap[mb]? = some (.map es c) := by rcases hal with rfl | rfl <;> exact hb
    have hl1 : r < w1.heap.size := by rcases hal with rfl | rfl <;> exact hlt
    have hbx : (ChangeMaps.setBlock w1 r (.mapIter (some mb) s (sn.push e.born) c)).heap[mb]? = some (.map es c) := (Stq.setBlock.block mb (Array.getElem?_eq_some_iff.1 hb1).1 (Ne.symm hne)).trans hb1
    have hrx : (ChangeMaps.setBlock w1 r (.mapIter (some mb) s (sn.push e.born) c)).heap[r]? = _ := setBlock_at hl1
    have hen := run_entry_at (P := Tryd.prog) _ r mb s sn es c e hrx hbx hmem hst.2.1
    rw [ek, ev] at hrun hen
    refine Or.inr ⟨x, T', _, hrun, hen, ⟨es, c, s, _, c, hbx, hs, he, hrx, hold, hsk, hsk, by rw [left_push]; exact h2, ?_⟩, ?_, ?_, ?_⟩
    · rw [List.append_assoc]
      exact (List.Perm.append_left D h3).trans hp
    · have := h3.length_eq
      simp at this
      omega
    · rcases hal with rfl | rfl
      · exact Stq.setBlock
      · exact ⟨rfl, rfl, rfl, by simp [ChangeMaps.setBlock], fun k hk hn => (Stq.setBlock (w := w.drew)).block k hk hn⟩
    · rcases hal with rfl | rfl <;> simp [ChangeMaps.setBlock]
end Go.Proofs.YtkdndfdofhnagaaDoor
