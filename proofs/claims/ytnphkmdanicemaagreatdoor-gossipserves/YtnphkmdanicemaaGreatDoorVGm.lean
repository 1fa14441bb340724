import Derived.Test.YtnphkmdanicemaaGreatDoorVBase
import Derived.Maps.RangeRun
import Derived.ChangeMaps4
namespace Go.Proofs.YtnphkmdanicemaaGreatDoor.Gm
open Go.RowKit Go.PlainAid Go.MapKept
open Go.ChangeMaps (setBlock)
set_option linter.unusedVariables false
set_option linter.unusedSimpArgs false
def kv (e : MapEntry) : Value × Value := (e.key, e.val)
def encP {K V : Type} (kE : K → Value) (vE : V → Value) (p : K × V) : Value × Value := (kE p.1, vE p.2)
def fnd {K V : Type} [DecidableEq K] (k : K) : List (K × V) → Nat → Option (Nat × (K × V))
  | [], _ => none
  | h :: t, i => if k = h.1 then some (i, h) else fnd k t (i + 1)
/-- A kind of map: how its keys and values stand in memory, its types, and what the operations on a key do. -/
structure ML (K V : Type) [DecidableEq K] where
  kE : K → Value
  vE : V → Value
  z : V
  tm : TypeId
  tk : TypeId
  tv : TypeId
  inj : ∀ a b, kE a = kE b → a = b
  under : Tryz.prog.underlying tm = some (.map tk tv)
  check : ∀ b k w, (Instr.checkKey b 10000 tk (kE k)).run Tryz.prog w = .ok () w
  stays : ∀ k w, (Instr.keyThatStays (kE k) (kE k)).run Tryz.prog w = .ok (kE k) w
  zero : ∀ w, (zeroValue tv).run Tryz.prog w = .ok (vE z) w
  find : ∀ (k : K) (w : World) (es : List MapEntry) (L : List (K × V)), es.map kv = L.map (encP kE vE) → (Instr.findKey tk (kE k) es).run Tryz.prog w = .ok ((fnd k L 0).map fun p => (p.1, vE p.2.2)) w
section
variable {K V : Type} [DecidableEq K] (M : ML K V)
/-- Block mb is the map of L, in the order in which the keys came. -/
def HMap (w : World) (mb : Nat) (L : List (K × V)) : Prop := ∃ es clock, w.heap[mb]? = some (.map es clock) ∧ Stamped es clock ∧ es.toList.map kv = L.map (encP M.kE M.vE)
variable {M}
theorem HMap.lt {w : World} {mb : Nat} {L : List (K × V)} (h : HMap M w mb L) : mb < w.heap.size := by
  obtain ⟨es, c, h, _⟩ := h
  exact (Array.getElem?_eq_some_iff.1 h).1
theorem HMap.same {w w' : World} {mb : Nat} {L : List (K × V)} (h : HMap M w mb L) (he : w'.heap[mb]? = w.heap[mb]?) : HMap M w' mb L := by
  obtain ⟨es, c, h, r⟩ := h
  exact ⟨es, c, he.trans h, r⟩
theorem HMap.ne_b {w : World} {mb b : Nat} {L : List (K × V)} {C : Array Value} {T : TypeId} (h : HMap M w mb L) (hB : Blk w b C T) : b ≠ mb := by
  obtain ⟨es, c, h, _⟩ := h
  intro e
  subst e
  have := h.symm.trans hB
  cases this
theorem HMap.made (w : World) : HMap M (w.alloc (.map #[] 0)) w.heap.size [] := ⟨#[], 0, heap_alloc_new w _, stamped_empty 0, rfl⟩
def look (k : K) (L : List (K × V)) : Option V := (L.find? fun p => decide (k = p.1)).map (·.2)
theorem fnd_look (k : K) : ∀ (L : List (K × V)) (i : Nat), (fnd k L i).map (·.2.2) = look k L
  | [], _ => rfl
  | h :: t, i => by
    have := fnd_look k t (i + 1)
    by_cases e : k = h.1
    · simp [fnd, look, e]
    · simp only [fnd, e, if_false, look, List.find?_cons, decide_false] at this ⊢
      exact this
theorem HMap.look_ok {w : World} {mb : Nat} {L : List (K × V)} (h : HMap M w mb L) (k : K) (b : Bool) :
    (Instr.lookup M.tm (.map (some mb)) (M.kE k) b).run Tryz.prog w = .ok (bif b then .tuple #[M.vE ((look k L).getD M.z), .bool (look k L).isSome] else M.vE ((look k L).getD M.z)) w := by
  obtain ⟨es, c, hb, hs, he⟩ := h
  have hf := M.find k w es.toList L he
  rw [← fnd_look k L 0]
  cases hq : fnd k L 0 with
  | none =>
    rw [hq] at hf
    simp [Instr.lookup, run_underlying M.under, MapKept.run_getObj_map hb, M.check, hf, M.zero, Result.andThen]
    try (cases b <;> rfl)
  | some p =>
    rw [hq] at hf
    simp [Instr.lookup, run_underlying M.under, MapKept.run_getObj_map hb, M.check, hf, M.zero, Result.andThen]
    try (cases b <;> rfl)
theorem Chg.setBlock {w : World} {r : Nat} {o : Obj} : Chg (fun k => k = r) w (setBlock w r o) :=
  ⟨rfl, rfl, rfl, by simp [ChangeMaps.setBlock], fun k hk hn => by simp only [ChangeMaps.setBlock]; rw [Array.getElem?_setIfInBounds_ne (fun e => hn e.symm)]⟩
theorem setBlock_at {w : World} {r : Nat} {o : Obj} (h : r < w.heap.size) : (setBlock w r o).heap[r]? = some o := by
  simp [ChangeMaps.setBlock, h]
theorem fnd_none {k : K} : ∀ {L : List (K × V)} {i : Nat}, fnd k L i = none → ∀ p ∈ L, k ≠ p.1
  | [], _, _ => fun p h => by cases h
  | h :: t, i, hf => by
    by_cases e : k = h.1
    · simp [fnd, e] at hf
    · simp only [fnd, e, if_false] at hf
      intro p hp
      rcases List.mem_cons.1 hp with rfl | hp
      · exact e
      · exact fnd_none hf p hp
/-- A new key comes last. -/
theorem HMap.put {w : World} {mb : Nat} {L : List (K × V)} (h : HMap M w mb L) (k : K) (v : V) (hn : ∀ p ∈ L, k ≠ p.1) :
    ∃ w', (Instr.mapUpdate M.tm (.map (some mb)) (M.kE k) (M.vE v)).run Tryz.prog w = .ok () w' ∧ HMap M w' mb (L ++ [(k, v)]) ∧ Chg (fun k => k = mb) w w' ∧ w'.heap.size = w.heap.size := by
  have hlt := h.lt
  obtain ⟨es, c, hb, hs, he⟩ := h
  have hf := M.find k w es.toList L he
  have hq : fnd k L 0 = none := by
    cases hq : fnd k L 0 with
    | none => rfl
    | some p =>
      have key : ∀ (L : List (K × V)) (i : Nat), (∀ p ∈ L, k ≠ p.1) → fnd k L i = none := fun L => by
        induction L with
        | nil => intro i _; rfl
        | cons x t ih => intro i h; simp only [fnd, if_neg (h x (by simp))]; exact ih _ (fun p hp => h p (List.mem_cons_of_mem _ hp))
      rw [key L 0 hn] at hq
      cases hq
  rw [hq] at hf
  refine ⟨ChangeMaps.setBlock w mb (.map (es.push { key := M.kE k, val := M.vE v, born := c }) (c + 1)), ?_, ⟨_, _, setBlock_at hlt, stamped_push hs ?_, ?_⟩, Chg.setBlock, by simp [ChangeMaps.setBlock]⟩
  · simp [Instr.mapUpdate, run_underlying M.under, MapKept.run_getObj_map hb, M.check, hf, MapKept.run_setObj_map _ hb, Result.andThen, ChangeMaps.setBlock]
  · intro x hx e1
    have : kv x ∈ L.map (encP M.kE M.vE) := he ▸ List.mem_map.2 ⟨x, hx, rfl⟩
    obtain ⟨y, hy, e2⟩ := List.mem_map.1 this
    have e3 : M.kE y.1 = M.kE k := (congrArg Prod.fst e2).trans e1
    exact hn y hy (M.inj _ _ e3).symm
  · simp [he, kv, encP]
def rmK (k : K) (L : List (K × V)) : List (K × V) := L.eraseP fun p => decide (k = p.1)
theorem fnd_rm (k : K) : ∀ (L : List (K × V)) (i : Nat) (p : Nat × (K × V)), fnd k L i = some p → i ≤ p.1 ∧ L.eraseIdx (p.1 - i) = rmK k L ∧ p.1 - i < L.length
  | [], _, _, h => by simp [fnd] at h
  | x :: t, i, p, h => by
    by_cases e : k = x.1
    · simp only [fnd, if_pos e, Option.some.injEq] at h
      subst h
      simp [rmK, e]
    · simp only [fnd, if_neg e] at h
      obtain ⟨h1, h2, h3⟩ := fnd_rm k t (i + 1) p h
      refine ⟨by omega, ?_, by simp; omega⟩
      rw [show p.1 - i = (p.1 - (i + 1)) + 1 by omega]
      simp only [List.eraseIdx_cons_succ, h2, rmK, List.eraseP_cons, e, decide_false, cond_false]
theorem HMap.del {w : World} {mb : Nat} {L : List (K × V)} (h : HMap M w mb L) (k : K) :
    ∃ w', (∀ ty, (Builtin.delete_ #[M.tm, M.tk] ty #[.map (some mb), M.kE k]).run Tryz.prog w = .ok (.tuple #[]) w') ∧ HMap M w' mb (rmK k L) ∧ Chg (fun k => k = mb) w w' ∧ w'.heap.size = w.heap.size := by
  have hlt := h.lt
  obtain ⟨es, c, hb, hs, he⟩ := h
  have hf := M.find k w es.toList L he
  have e1 : es.size = L.length := by simpa using congrArg List.length he
  cases hq : fnd k L 0 with
  | none =>
    rw [hq] at hf
    have hn : rmK k L = L := by
      unfold rmK
      rw [List.eraseP_of_forall_not]
      intro x hx
      have := fnd_none hq x hx
      simpa using this
    refine ⟨ChangeMaps.setBlock w mb (.map es c), ?_, ⟨_, _, setBlock_at hlt, hs, by rw [hn]; exact he⟩, Chg.setBlock, by simp [ChangeMaps.setBlock]⟩
    intro ty
    simp [Builtin.delete_, run_underlying M.under, MapKept.run_getObj_map hb, M.check, hf, MapKept.run_setObj_map _ hb, Result.andThen, ChangeMaps.setBlock]
  | some p =>
    rw [hq] at hf
    obtain ⟨_, h2, h3⟩ := fnd_rm k L 0 p hq
    simp only [Nat.sub_zero] at h2 h3
    refine ⟨ChangeMaps.setBlock w mb (.map (es.eraseIdxIfInBounds p.1) c), ?_, ⟨_, _, setBlock_at hlt, stamped_erase hs p.1, ?_⟩, Chg.setBlock, by simp [ChangeMaps.setBlock]⟩
    · intro ty
      simp [Builtin.delete_, run_underlying M.under, MapKept.run_getObj_map hb, M.check, hf, MapKept.run_setObj_map _ hb, Result.andThen, ChangeMaps.setBlock]
    · have hsub : (es.eraseIdxIfInBounds p.1).toList = es.toList.eraseIdx p.1 := by
        unfold Array.eraseIdxIfInBounds
        rw [dif_pos (by omega)]
        simp
      rw [hsub, ChangeMaps.map_eraseIdx, he, ← ChangeMaps.map_eraseIdx, h2]
variable (M) in
/-- A range over the map under way: D has come, T is still to come. -/
def Rng (w : World) (mb r : Nat) (L D T : List (K × V)) : Prop :=
  ∃ es clock since seen c0, w.heap[mb]? = some (.map es clock) ∧ Stamped es clock ∧ es.toList.map kv = L.map (encP M.kE M.vE) ∧ w.heap[r]? = some (.mapIter (some mb) since seen c0) ∧ (∀ x ∈ es.toList, x.born < since) ∧ since ≤ c0 ∧ since ≤ clock ∧
    (leftOf es seen).toList.map kv = T.map (encP M.kE M.vE) ∧ (D ++ T).Perm L
theorem Rng.map {w : World} {mb r : Nat} {L D T : List (K × V)} (h : Rng M w mb r L D T) : HMap M w mb L := by
  obtain ⟨es, c, _, _, _, h1, h2, h3, _⟩ := h
  exact ⟨es, c, h1, h2, h3⟩
theorem Rng.perm {w : World} {mb r : Nat} {L D T : List (K × V)} (h : Rng M w mb r L D T) : (D ++ T).Perm L := by
  obtain ⟨_, _, _, _, _, _, _, _, _, _, _, _, _, h⟩ := h
  exact h
theorem Rng.lt {w : World} {mb r : Nat} {L D T : List (K × V)} (h : Rng M w mb r L D T) : r < w.heap.size := by
  obtain ⟨_, _, _, _, _, _, _, _, h, _⟩ := h
  exact (Array.getElem?_eq_some_iff.1 h).1
theorem Rng.ne {w : World} {mb r : Nat} {L D T : List (K × V)} (h : Rng M w mb r L D T) : r ≠ mb := by
  obtain ⟨_, _, _, _, _, h1, _, _, h, _⟩ := h
  intro e
  rw [e, h1] at h
  cases h
theorem Rng.ne_b {w : World} {mb r b : Nat} {L D T : List (K × V)} {C : Array Value} {ty : TypeId} (h : Rng M w mb r L D T) (hB : Blk w b C ty) : b ≠ r := by
  obtain ⟨_, _, _, _, _, h1, _, _, h, _⟩ := h
  intro e
  rw [← e] at h
  have := h.symm.trans hB
  cases this
theorem Rng.same {w w' : World} {mb r : Nat} {L D T : List (K × V)} (h : Rng M w mb r L D T) (h1 : w'.heap[mb]? = w.heap[mb]?) (h2 : w'.heap[r]? = w.heap[r]?) : Rng M w' mb r L D T := by
  obtain ⟨es, c, s, sn, c0, a, b, d, e, f⟩ := h
  exact ⟨es, c, s, sn, c0, h1.trans a, b, d, h2.trans e, f⟩
theorem HMap.range {w : World} {mb : Nat} {L : List (K × V)} (h : HMap M w mb L) :
    ∃ w', (Instr.range M.tm (.map (some mb))).run Tryz.prog w = .ok (.pointer (some ⟨w.heap.size, 0, none⟩)) w' ∧ Rng M w' mb w.heap.size L [] L ∧ Below w.heap.size w w' ∧ w'.heap.size = w.heap.size + 1 := by
  have hlt := h.lt
  obtain ⟨es, c, hb, hs, he⟩ := h
  refine ⟨_, run_range_map w M.tm M.tk M.tv mb es c M.under hb, ⟨es, c, c, #[], c, ((MapKept.heap_alloc w _).2 mb hlt).trans hb, hs, he, (MapKept.heap_alloc w _).1, hs.1, Nat.le_refl _, Nat.le_refl _, ?_, by simp⟩, (Below.refl _ _).alloc (Nat.le_refl _) _, by simp⟩
  rw [← he]
  have e0 : (leftOf es #[]).toList = es.toList := by
    simp only [leftOf, Array.toList_filter]
    exact List.filter_eq_self.2 (fun x _ => by simp)
  rw [e0]
theorem left_push (es : Array MapEntry) (seen : Array Nat) (b : Nat) : (leftOf es (seen.push b)).toList = (leftOf es seen).toList.filter (fun x => x.born != b) := by
  simp only [leftOf, Array.toList_filter, List.filter_filter]
  congr 1
  funext x
  simp only [Array.contains_push]
  cases seen.contains x.born <;> cases h : (x.born == b) <;> simp_all
theorem take_one (e : MapEntry) : ∀ (l : List MapEntry) (T : List (K × V)), l.map kv = T.map (encP M.kE M.vE) → (l.map (·.born)).Nodup → e ∈ l → ∃ h T', kv e = encP M.kE M.vE h ∧ (l.filter (fun x => x.born != e.born)).map kv = T'.map (encP M.kE M.vE) ∧ (h :: T').Perm T
  | [], _, _, _, h => by simp at h
  | x :: l, [], h, _, _ => by simp at h
  | x :: l, t :: T, h, hn, hm => by
    simp only [List.map_cons, List.cons.injEq] at h
    simp only [List.map_cons, List.nodup_cons] at hn
    by_cases e1 : x.born = e.born
    · have hx : e = x := by
        rcases List.mem_cons.1 hm with h' | h'
        · exact h'
        · exact absurd (List.mem_map.2 ⟨e, h', e1.symm⟩) hn.1
      subst hx
      refine ⟨t, T, h.1, ?_, List.Perm.refl _⟩
      rw [List.filter_cons_of_neg (by simp)]
      rw [List.filter_eq_self.2]
      · exact h.2
      · intro y hy
        have : y.born ≠ e.born := fun e2 => hn.1 (List.mem_map.2 ⟨y, hy, e2⟩)
        simpa using this
    · have hm2 : e ∈ l := by
        rcases List.mem_cons.1 hm with h' | h'
        · exact absurd (congrArg MapEntry.born h'.symm) e1
        · exact h'
      obtain ⟨g, T', h1, h2, h3⟩ := take_one e l T h.2 hn.2 hm2
      refine ⟨g, t :: T', h1, ?_, ?_⟩
      · rw [List.filter_cons_of_pos (by simpa using e1)]
        simp only [List.map_cons, h.1, h2]
      · exact (List.Perm.swap _ _ _).trans (h3.cons t)
theorem Rng.next {w : World} {mb r : Nat} {L D T : List (K × V)} (h : Rng M w mb r L D T) (ty : TypeId) :
    (T = [] ∧ (Instr.next (.pointer (some ⟨r, 0, none⟩)) false ty).run Tryz.prog w = .ok (.tuple #[.bool false]) w) ∨
    ∃ x T' w', (Instr.next (.pointer (some ⟨r, 0, none⟩)) false ty).run Tryz.prog w = .ok (.tuple #[.bool true, M.kE x.1, M.vE x.2]) w' ∧ (Instr.entry (.pointer (some ⟨r, 0, none⟩))).run Tryz.prog w' = .ok (.tuple #[M.kE x.1, M.vE x.2]) w' ∧
      Rng M w' mb r L (D ++ [x]) T' ∧ T'.length < T.length ∧ Chg (fun k => k = r) w w' ∧ w'.heap.size = w.heap.size := by
  have hne := h.ne
  have hlt := h.lt
  obtain ⟨es, c, s, sn, c0, hb, hs, he, hr, hold, hsc, hsk, hl, hp⟩ := h
  rcases run_next_at (P := Tryz.prog) w ty r mb s c0 sn es c hr hb hold hsc with ⟨h0, hrun⟩ | ⟨e, hem, w1, hal, hrun⟩
  · refine Or.inl ⟨?_, hrun⟩
    have := congrArg List.length hl
    simp at this
    exact List.length_eq_zero_iff.1 (by omega)
  · have hst := (stamped_iff es c).1 hs
    have hmem : e ∈ es.toList := by
      simp only [leftOf, Array.toList_filter, List.mem_filter] at hem
      exact hem.1
    have hnl : ((leftOf es sn).toList.map (·.born)).Nodup := by
      simp only [leftOf, Array.toList_filter]
      exact (List.filter_sublist.map _).nodup hst.2.1
    obtain ⟨x, T', h1, h2, h3⟩ := take_one e _ T hl hnl hem
    have ek : e.key = M.kE x.1 := congrArg Prod.fst h1
    have ev : e.val = M.vE x.2 := congrArg Prod.snd h1
    have hr1 : w1.heap[r]? = some (.mapIter (some mb) s sn c0) := by rcases hal with rfl | rfl <;> exact hr
    have hb1 : w1.heap[mb]? = some (.map es c) := by rcases hal with rfl | rfl <;> exact hb
    have hl1 : r < w1.heap.size := by rcases hal with rfl | rfl <;> exact hlt
    have hbx : (ChangeMaps.setBlock w1 r (.mapIter (some mb) s (sn.push e.born) c)).heap[mb]? = some (.map es c) := (Chg.setBlock.block mb (Array.getElem?_eq_some_iff.1 hb1).1 (Ne.symm hne)).trans hb1
    have hrx : (ChangeMaps.setBlock w1 r (.mapIter (some mb) s (sn.push e.born) c)).heap[r]? = _ := setBlock_at hl1
    have hen := run_entry_at (P := Tryz.prog) _ r mb s sn es c e hrx hbx hmem hst.2.1
    rw [ek, ev] at hrun hen
    refine Or.inr ⟨x, T', _, hrun, hen, ⟨es, c, s, _, c, hbx, hs, he, hrx, hold, hsk, hsk, by rw [left_push]; exact h2, ?_⟩, ?_, ?_, ?_⟩
    · rw [List.append_assoc]
      exact (List.Perm.append_left D h3).trans hp
    · have := h3.length_eq
      simp at this
      omega
    · rcases hal with rfl | rfl
      · exact Chg.setBlock
      · exact ⟨rfl, rfl, rfl, by simp [ChangeMaps.setBlock], fun k hk hn => (Chg.setBlock (w := w.drew)).block k hk hn⟩
    · rcases hal with rfl | rfl <;> simp [ChangeMaps.setBlock]
end
end Go.Proofs.YtnphkmdanicemaaGreatDoor.Gm
