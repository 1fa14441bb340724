import Derived.Test.YtnphkmdanicemaaGreatDoorVBase
import Derived.Maps.RangeRun
import Derived.ChangeMaps4
namespace Go.Proofs.YtnphkmdanicemaaGreatDoor
open Go.RowKit Go.PlainAid Go.MapKept
open Go.ChangeMaps (setBlock)
set_option linter.unusedVariables false
set_option linter.unusedSimpArgs false
/-- What one replica has said of a name. -/
structure Ent where
  r : Int
  n : List UInt8
  c : Int
  rc : Int
  v : Int
  d : Int
  u : Int
  h : Int
  deriving DecidableEq
def keyV (r : Int) (n : List UInt8) : Value := .agg #[.int .i64 r, .string ⟨n.toArray⟩]
def viewV (e : Ent) : Value := .agg #[.string ⟨e.n.toArray⟩, .int .i64 e.c, .int .i64 e.rc, .int .i64 e.v, .int .i64 e.d, .int .i64 e.u, .int .i64 e.h]
def kv (e : MapEntry) : Value × Value := (e.key, e.val)
def enc (h : Ent) : Value × Value := (keyV h.r h.n, viewV h)
/-- Block mb is the map of the views L, in the order in which their keys came. -/
def HMap (w : World) (mb : Nat) (L : List Ent) : Prop := ∃ es clock, w.heap[mb]? = some (.map es clock) ∧ Stamped es clock ∧ es.toList.map kv = L.map enc
theorem HMap.lt {w : World} {mb : Nat} {L : List Ent} (h : HMap w mb L) : mb < w.heap.size := by
  obtain ⟨es, c, h, _⟩ := h
  exact (Array.getElem?_eq_some_iff.1 h).1
theorem HMap.same {w w' : World} {mb : Nat} {L : List Ent} (h : HMap w mb L) (he : w'.heap[mb]? = w.heap[mb]?) : HMap w' mb L := by
  obtain ⟨es, c, h, r⟩ := h
  exact ⟨es, c, he.trans h, r⟩
theorem HMap.ne_b {w : World} {mb b : Nat} {L : List Ent} {C : Array Value} {T : TypeId} (h : HMap w mb L) (hB : Blk w b C T) : b ≠ mb := by
  obtain ⟨es, c, h, _⟩ := h
  intro e
  subst e
  have := h.symm.trans hB
  cases this
theorem HMap.made (w : World) : HMap (w.alloc (.map #[] 0)) w.heap.size [] := ⟨#[], 0, heap_alloc_new w _, stamped_empty 0, rfl⟩
theorem bytesB (b d : List UInt8) : ((⟨b.toArray⟩ : ByteArray) == ⟨d.toArray⟩) = (b == d) := by
  first
  | (show (b.toArray == d.toArray) = (b == d); simp)
  | (by_cases h : b = d
     · subst h; simp
     · simp [h])
set_option maxHeartbeats 2000000 in
theorem eq_in (n : Nat) (a c : Int) (b d : List UInt8) (w : World) : (Go.Op.equalIn (n + 2) 109 (keyV a b) (keyV c d)).run Tryz.prog w = .ok (a == c && b == d) w := by
  have h0 : Tryz.prog.stoodInHeld 109 = false := by kernel_rfl
  have e1 : (Go.Op.equalIn (n + 1) 3 (.int .i64 a) (.int .i64 c)).run Tryz.prog w = .ok (a == c) w := by kernel_rfl
  have e2 : (Go.Op.equalIn (n + 1) 9 (.string ⟨b.toArray⟩) (.string ⟨d.toArray⟩)).run Tryz.prog w = .ok (b == d) w := by
    unfold Go.Op.equalIn
    simp [go_sem, Result.andThen, run_underlying Tryz.underlying9, bytesB]
  unfold keyV
  unfold Go.Op.equalIn
  cases hx : (a == c) <;> cases hy : (b == d) <;> rw [hx] at e1 <;> rw [hy] at e2 <;> simp [go_sem, h0, Result.andThen, e1, e2, run_underlying Tryz.underlying109]
theorem eq_key (a c : Int) (b d : List UInt8) (w : World) : (Go.Op.equal 109 (keyV a b) (keyV c d)).run Tryz.prog w = .ok (a == c && b == d) w := eq_in 9998 a c b d w
theorem check_in (n : Nat) (b : Bool) (m : Int) (k : List UInt8) (w : World) : (Instr.checkKey b (n + 2) 109 (keyV m k)).run Tryz.prog w = .ok () w := by
  unfold keyV
  simp [Instr.checkKey, go_sem, Result.andThen, run_underlying Tryz.underlying109, run_underlying Tryz.underlying3, run_underlying Tryz.underlying9]
theorem check_key (b : Bool) (m : Int) (k : List UInt8) (w : World) : (Instr.checkKey b 10000 109 (keyV m k)).run Tryz.prog w = .ok () w := check_in 9998 b m k w
def isK (r : Int) (n : List UInt8) (h : Ent) : Bool := r == h.r && n == h.n
theorem isK_iff {r : Int} {n : List UInt8} {h : Ent} : isK r n h = true ↔ r = h.r ∧ n = h.n := by simp [isK]
def fnd (r : Int) (n : List UInt8) : List Ent → Nat → Option (Nat × Ent)
  | [], _ => none
  | h :: t, i => if isK r n h = true then some (i, h) else fnd r n t (i + 1)
theorem find_run (r : Int) (n : List UInt8) (w : World) : ∀ (es : List MapEntry) (L : List Ent) (i : Nat), es.map kv = L.map enc → (Instr.findAsking 109 (keyV r n) es i).run Tryz.prog w = .ok ((fnd r n L i).map fun p => (p.1, viewV p.2)) w
  | [], [], i, _ => rfl
  | [], _ :: _, i, h => by simp at h
  | _ :: _, [], i, h => by simp at h
  | e :: es, x :: L, i, h => by
    simp only [List.map_cons, List.cons.injEq] at h
    obtain ⟨h1, h2⟩ := h
    have ek : e.key = keyV x.r x.n := congrArg Prod.fst h1
    have ev : e.val = viewV x := congrArg Prod.snd h1
    unfold Instr.findAsking
    rw [Sem.run_bind, ek, eq_key]
    cases hk : isK r n x with
    | true =>
      have hk' : (r == x.r && n == x.n) = true := hk
      rw [hk']
      simp [fnd, hk, ev, Result.andThen]
    | false =>
      have hk' : (r == x.r && n == x.n) = false := hk
      have := find_run r n w es L (i + 1) h2
      rw [hk']
      simp [fnd, hk, Result.andThen]
      exact this
theorem findKey_run (r : Int) (n : List UInt8) (w : World) (es : List MapEntry) (L : List Ent) (h : es.map kv = L.map enc) : (Instr.findKey 109 (keyV r n) es).run Tryz.prog w = .ok ((fnd r n L 0).map fun p => (p.1, viewV p.2)) w := by
  unfold Instr.findKey
  rw [Sem.run_bind, run_underlying Tryz.underlying109]
  simp only [Result.andThen]
  match es, L, h with
  | [], [], _ => rfl
  | [], _ :: _, h => simp at h
  | _ :: _, [], h => simp at h
  | e :: es, x :: L, h =>
    have := find_run r n w (e :: es) (x :: L) 0 h
    simp only [List.map_cons, List.cons.injEq] at h
    have ek : e.key = keyV x.r x.n := congrArg Prod.fst h.1
    have e0 : ∀ d, Instr.sameNow (.struct d) (keyV r n) (keyV x.r x.n) = none := fun d => rfl
    simp only [Instr.findNow, ek, e0]
    exact this
def zed : Ent := ⟨0, [], 0, 0, 0, 0, 0, 0⟩
def look (r : Int) (n : List UInt8) (L : List Ent) : Option Ent := L.find? (isK r n)
def lookD (r : Int) (n : List UInt8) (L : List Ent) : Ent := (look r n L).getD zed
theorem fnd_look (r : Int) (n : List UInt8) : ∀ (L : List Ent) (i : Nat), (fnd r n L i).map (·.2) = look r n L
  | [], _ => rfl
  | h :: t, i => by
    have := fnd_look r n t (i + 1)
    cases e : isK r n h with
    | true => simp [fnd, look, e]
    | false =>
      simp only [fnd, e, Bool.false_eq_true, if_false, look, List.find?_cons] at this ⊢
      exact this
theorem zero46 (w : World) : (zeroValue 105).run Tryz.prog w = .ok (viewV zed) w := by kernel_rfl
theorem HMap.look_ok {w : World} {mb : Nat} {L : List Ent} (h : HMap w mb L) (r : Int) (n : List UInt8) (b : Bool) :
    (Instr.lookup 96 (.map (some mb)) (keyV r n) b).run Tryz.prog w = .ok (bif b then .tuple #[viewV (lookD r n L), .bool (look r n L).isSome] else viewV (lookD r n L)) w := by
  obtain ⟨es, c, hb, hs, he⟩ := h
  have hf := findKey_run r n w es.toList L he
  unfold lookD
  rw [← fnd_look r n L 0]
  cases hq : fnd r n L 0 with
  | none =>
    rw [hq] at hf
    simp [Instr.lookup, run_underlying Tryz.underlying96, MapKept.run_getObj_map hb, check_key, hf, zero46, Result.andThen]
    try (cases b <;> rfl)
  | some p =>
    rw [hq] at hf
    simp [Instr.lookup, run_underlying Tryz.underlying96, MapKept.run_getObj_map hb, check_key, hf, zero46, Result.andThen]
    try (cases b <;> rfl)
theorem Chg.setBlock {w : World} {r : Nat} {o : Obj} : Chg (fun k => k = r) w (setBlock w r o) :=
  ⟨rfl, rfl, rfl, by simp [ChangeMaps.setBlock], fun k hk hn => by simp only [ChangeMaps.setBlock]; rw [Array.getElem?_setIfInBounds_ne (fun e => hn e.symm)]⟩
theorem setBlock_at {w : World} {r : Nat} {o : Obj} (h : r < w.heap.size) : (setBlock w r o).heap[r]? = some o := by
  simp [ChangeMaps.setBlock, h]
/-- The view of a key that is there is written over; a new one comes last. -/
def putE (e : Ent) : List Ent → List Ent
  | [] => [e]
  | x :: t => if isK e.r e.n x = true then e :: t else x :: putE e t
theorem fnd_put (e : Ent) : ∀ (L : List Ent) (i : Nat), match fnd e.r e.n L i with
    | none => putE e L = L ++ [e]
    | some p => i ≤ p.1 ∧ p.1 - i < L.length ∧ putE e L = L.set (p.1 - i) e ∧ e.r = p.2.r ∧ e.n = p.2.n ∧ L[p.1 - i]? = some p.2
  | [], i => by simp [fnd, putE]
  | x :: t, i => by
    have ih := fnd_put e t (i + 1)
    cases hk : isK e.r e.n x with
    | true => simpa [fnd, putE, hk] using isK_iff.1 hk
    | false =>
      simp only [fnd, hk, Bool.false_eq_true, if_false, putE]
      cases hq : fnd e.r e.n t (i + 1) with
      | none =>
        rw [hq] at ih
        simp only at ih ⊢
        rw [ih]
        rfl
      | some p =>
        rw [hq] at ih
        simp only at ih ⊢
        obtain ⟨h1, h2, h3, h4, h5, h6⟩ := ih
        have e1 : p.1 - i = (p.1 - (i + 1)) + 1 := by omega
        refine ⟨by omega, by simp; omega, ?_, h4, h5, ?_⟩
        · rw [e1, h3]; rfl
        · rw [e1]; simpa using h6
theorem stays_key (r : Int) (n : List UInt8) (w : World) : (Instr.keyThatStays (keyV r n) (keyV r n)).run Tryz.prog w = .ok (keyV r n) w := by
  have h : Instr.sameBits 10000 (keyV r n) (keyV r n) = true := by
    unfold keyV
    show (_ && _) = true
    simp [Instr.sameBits, bytesB]
  simp [Instr.keyThatStays, h]
theorem HMap.put {w : World} {mb : Nat} {L : List Ent} (h : HMap w mb L) (e : Ent) :
    ∃ w', (Instr.mapUpdate 96 (.map (some mb)) (keyV e.r e.n) (viewV e)).run Tryz.prog w = .ok () w' ∧ HMap w' mb (putE e L) ∧ Chg (fun k => k = mb) w w' ∧ w'.heap.size = w.heap.size := by
  have hlt := h.lt
  obtain ⟨es, c, hb, hs, he⟩ := h
  have hf := findKey_run e.r e.n w es.toList L he
  have hp := fnd_put e L 0
  have hsz : es.size = L.length := by simpa using congrArg List.length he
  cases hq : fnd e.r e.n L 0 with
  | none =>
    rw [hq] at hf hp
    simp only at hp
    refine ⟨ChangeMaps.setBlock w mb (.map (es.push { key := keyV e.r e.n, val := viewV e, born := c }) (c + 1)), ?_, ⟨_, _, setBlock_at hlt, stamped_push hs ?_, ?_⟩, Chg.setBlock, by simp [ChangeMaps.setBlock]⟩
    · simp [Instr.mapUpdate, run_underlying Tryz.underlying96, MapKept.run_getObj_map hb, check_key, hf, MapKept.run_setObj_map _ hb, Result.andThen, ChangeMaps.setBlock]
    · intro x hx e1
      have : kv x ∈ L.map enc := he ▸ List.mem_map.2 ⟨x, hx, rfl⟩
      obtain ⟨y, hy, e2⟩ := List.mem_map.1 this
      have e3 : keyV y.r y.n = keyV e.r e.n := (congrArg Prod.fst e2).trans e1
      unfold keyV at e3
      simp at e3
      have hl := fnd_look e.r e.n L 0
      rw [hq] at hl
      have h2 : L.find? (isK e.r e.n) = none := hl.symm
      exact absurd (isK_iff.2 ⟨e3.1.symm, e3.2.symm⟩) (by simpa using List.find?_eq_none.1 h2 y hy)
    · simp [hp, he, kv, enc]
  | some p =>
    rw [hq] at hf hp
    simp only [Nat.sub_zero] at hp
    obtain ⟨_, h2, h3, h4, h5, h6⟩ := hp
    obtain ⟨x, hx⟩ : ∃ x, es[p.1]? = some x := ⟨es[p.1]'(by omega), Array.getElem?_eq_getElem _⟩
    have hkx : kv x = enc p.2 := by
      have e1 : (es.toList.map kv)[p.1]? = some (kv x) := by rw [List.getElem?_map, Array.getElem?_toList, hx]; rfl
      rw [he, List.getElem?_map, h6] at e1
      exact (Option.some.inj e1).symm
    have ek : x.key = keyV e.r e.n := by rw [h4, h5]; exact congrArg Prod.fst hkx
    have hst := stays_key e.r e.n w
    refine ⟨ChangeMaps.setBlock w mb (.map (es.modify p.1 fun q => { q with key := keyV e.r e.n, val := viewV e }) c), ?_, ⟨_, _, setBlock_at hlt, stamped_modify hs p.1 _ (fun _ _ => rfl) (fun q _ hq => ?_), ?_⟩, Chg.setBlock, by simp [ChangeMaps.setBlock]⟩
    · simp [Instr.mapUpdate, run_underlying Tryz.underlying96, MapKept.run_getObj_map hb, check_key, hf, hx, ek, hst, MapKept.run_setObj_map _ hb, Result.andThen, ChangeMaps.setBlock]
    · rw [hx] at hq
      cases hq
      exact ek.symm
    · rw [h3, List.map_set]
      rw [← he]
      apply List.ext_getElem?
      intro j
      simp only [List.getElem?_map, Array.getElem?_toList, Array.getElem?_modify, List.getElem?_set, List.length_map, Array.length_toList]
      by_cases hj : p.1 = j
      · subst hj
        simp [hx, hsz, h2, kv, enc]
      · simp [hj]
/-- A range over the map under way: D has come, T is still to come. -/
def Rng (w : World) (mb r : Nat) (L D T : List Ent) : Prop :=
  ∃ es clock since seen c0, w.heap[mb]? = some (.map es clock) ∧ Stamped es clock ∧ es.toList.map kv = L.map enc ∧ w.heap[r]? = some (.mapIter (some mb) since seen c0) ∧ (∀ x ∈ es.toList, x.born < since) ∧ since ≤ c0 ∧ since ≤ clock ∧
    (leftOf es seen).toList.map kv = T.map enc ∧ (D ++ T).Perm L
theorem Rng.map {w : World} {mb r : Nat} {L D T : List Ent} (h : Rng w mb r L D T) : HMap w mb L := by
  obtain ⟨es, c, _, _, _, h1, h2, h3, _⟩ := h
  exact ⟨es, c, h1, h2, h3⟩
theorem Rng.perm {w : World} {mb r : Nat} {L D T : List Ent} (h : Rng w mb r L D T) : (D ++ T).Perm L := by
  obtain ⟨_, _, _, _, _, _, _, _, _, _, _, _, _, h⟩ := h
  exact h
theorem Rng.lt {w : World} {mb r : Nat} {L D T : List Ent} (h : Rng w mb r L D T) : r < w.heap.size := by
  obtain ⟨_, _, _, _, _, _, _, _, h, _⟩ := h
  exact (Array.getElem?_eq_some_iff.1 h).1
theorem Rng.ne {w : World} {mb r : Nat} {L D T : List Ent} (h : Rng w mb r L D T) : r ≠ mb := by
  obtain ⟨_, _, _, _, _, h1, _, _, h, _⟩ := h
  intro e
  rw [e, h1] at h
  cases h
theorem Rng.ne_b {w : World} {mb r b : Nat} {L D T : List Ent} {C : Array Value} {ty : TypeId} (h : Rng w mb r L D T) (hB : Blk w b C ty) : b ≠ r := by
  obtain ⟨_, _, _, _, _, h1, _, _, h, _⟩ := h
  intro e
  rw [← e] at h
  have := h.symm.trans hB
  cases this
theorem Rng.same {w w' : World} {mb r : Nat} {L D T : List Ent} (h : Rng w mb r L D T) (h1 : w'.heap[mb]? = w.heap[mb]?) (h2 : w'.heap[r]? = w.heap[r]?) : Rng w' mb r L D T := by
  obtain ⟨es, c, s, sn, c0, a, b, d, e, f⟩ := h
  exact ⟨es, c, s, sn, c0, h1.trans a, b, d, h2.trans e, f⟩
theorem HMap.range {w : World} {mb : Nat} {L : List Ent} (h : HMap w mb L) :
    ∃ w', (Instr.range 96 (.map (some mb))).run Tryz.prog w = .ok (.pointer (some ⟨w.heap.size, 0, none⟩)) w' ∧ Rng w' mb w.heap.size L [] L ∧ Below w.heap.size w w' ∧ w'.heap.size = w.heap.size + 1 := by
  have hlt := h.lt
  obtain ⟨es, c, hb, hs, he⟩ := h
  refine ⟨_, run_range_map w 96 109 105 mb es c Tryz.underlying96 hb, ⟨es, c, c, #[], c, ((MapKept.heap_alloc w _).2 mb hlt).trans hb, hs, he, (MapKept.heap_alloc w _).1, hs.1, Nat.le_refl _, Nat.le_refl _, ?_, by simp⟩, (Below.refl _ _).alloc (Nat.le_refl _) _, by simp⟩
  rw [← he]
  have e0 : (leftOf es #[]).toList = es.toList := by
    simp only [leftOf, Array.toList_filter]
    exact List.filter_eq_self.2 (fun x _ => by simp)
  rw [e0]
theorem left_push (es : Array MapEntry) (seen : Array Nat) (b : Nat) : (leftOf es (seen.push b)).toList = (leftOf es seen).toList.filter (fun x => x.born != b) := by
  simp only [leftOf, Array.toList_filter, List.filter_filter]
  congr 1
  funext x
  simp only [Array.contains_push]
  cases seen.contains x.born <;> cases h : (x.born == b) <;> simp_all
theorem take_one (e : MapEntry) : ∀ (l : List MapEntry) (T : List Ent), l.map kv = T.map enc → (l.map (·.born)).Nodup → e ∈ l → ∃ h T', kv e = enc h ∧ (l.filter (fun x => x.born != e.born)).map kv = T'.map enc ∧ (h :: T').Perm T
  | [], _, _, _, h => by simp at h
  | x :: l, [], h, _, _ => by simp at h
  | x :: l, t :: T, h, hn, hm => by
    simp only [List.map_cons, List.cons.injEq] at h
    simp only [List.map_cons, List.nodup_cons] at hn
    by_cases e1 : x.born = e.born
    · have hx : e = x := by
        rcases List.mem_cons.1 hm with h' | h'
        · exact h'
        · exact absurd (List.mem_map.2 ⟨e, h', e1.symm⟩) hn.1
      subst hx
      refine ⟨t, T, h.1, ?_, List.Perm.refl _⟩
      rw [List.filter_cons_of_neg (by simp)]
      rw [List.filter_eq_self.2]
      · exact h.2
      · intro y hy
        have : y.born ≠ e.born := fun e2 => hn.1 (List.mem_map.2 ⟨y, hy, e2⟩)
        simpa using this
    · have hm2 : e ∈ l := by
        rcases List.mem_cons.1 hm with h' | h'
        · exact absurd (congrArg MapEntry.born h'.symm) e1
        · exact h'
      obtain ⟨g, T', h1, h2, h3⟩ := take_one e l T h.2 hn.2 hm2
      refine ⟨g, t :: T', h1, ?_, ?_⟩
      · rw [List.filter_cons_of_pos (by simpa using e1)]
        simp only [List.map_cons, h.1, h2]
      · exact (List.Perm.swap _ _ _).trans (h3.cons t)
theorem Rng.next {w : World} {mb r : Nat} {L D T : List Ent} (h : Rng w mb r L D T) (ty : TypeId) :
    (T = [] ∧ (Instr.next (.pointer (some ⟨r, 0, none⟩)) false ty).run Tryz.prog w = .ok (.tuple #[.bool false]) w) ∨
    ∃ x T' w', (Instr.next (.pointer (some ⟨r, 0, none⟩)) false ty).run Tryz.prog w = .ok (.tuple #[.bool true, keyV x.r x.n, viewV x]) w' ∧ (Instr.entry (.pointer (some ⟨r, 0, none⟩))).run Tryz.prog w' = .ok (.tuple #[keyV x.r x.n, viewV x]) w' ∧
      Rng w' mb r L (D ++ [x]) T' ∧ T'.length < T.length ∧ Chg (fun k => k = r) w w' ∧ w'.heap.size = w.heap.size := by
  have hne := h.ne
  have hlt := h.lt
  obtain ⟨es, c, s, sn, c0, hb, hs, he, hr, hold, hsc, hsk, hl, hp⟩ := h
  rcases run_next_at (P := Tryz.prog) w ty r mb s c0 sn es c hr hb hold hsc with ⟨h0, hrun⟩ | ⟨e, hem, w1, hal, hrun⟩
  · refine Or.inl ⟨?_, hrun⟩
    have := congrArg List.length hl
    simp at this
    exact List.length_eq_zero_iff.1 (by omega)
  · have hst := (stamped_iff es c).1 hs
    have hmem : e ∈ es.toList := by
      simp only [leftOf, Array.toList_filter, List.mem_filter] at hem
      exact hem.1
    have hnl : ((leftOf es sn).toList.map (·.born)).Nodup := by
      simp only [leftOf, Array.toList_filter]
      exact (List.filter_sublist.map _).nodup hst.2.1
    obtain ⟨x, T', h1, h2, h3⟩ := take_one e _ T hl hnl hem
    have ek : e.key = keyV x.r x.n := congrArg Prod.fst h1
    have ev : e.val = viewV x := congrArg Prod.snd h1
    have hr1 : w1.heap[r]? = some (.mapIter (some mb) s sn c0) := by rcases hal with rfl | rfl <;> exact hr
    have hb1 : w1.heap[mb]? = some (.map es c) := by rcases hal with rfl | rfl <;> exact hb
    have hl1 : r < w1.heap.size := by rcases hal with rfl | rfl <;> exact hlt
    have hbx : (ChangeMaps.setBlock w1 r (.mapIter (some mb) s (sn.push e.born) c)).heap[mb]? = some (.map es c) := (Chg.setBlock.block mb (Array.getElem?_eq_some_iff.1 hb1).1 (Ne.symm hne)).trans hb1
    have hrx : (ChangeMaps.setBlock w1 r (.mapIter (some mb) s (sn.push e.born) c)).heap[r]? = _ := setBlock_at hl1
    have hen := run_entry_at (P := Tryz.prog) _ r mb s sn es c e hrx hbx hmem hst.2.1
    rw [ek, ev] at hrun hen
    refine Or.inr ⟨x, T', _, hrun, hen, ⟨es, c, s, _, c, hbx, hs, he, hrx, hold, hsk, hsk, by rw [left_push]; exact h2, ?_⟩, ?_, ?_, ?_⟩
    · rw [List.append_assoc]
      exact (List.Perm.append_left D h3).trans hp
    · have := h3.length_eq
      simp at this
      omega
    · rcases hal with rfl | rfl
      · exact Chg.setBlock
      · exact ⟨rfl, rfl, rfl, by simp [ChangeMaps.setBlock], fun k hk hn => (Chg.setBlock (w := w.drew)).block k hk hn⟩
    · rcases hal with rfl | rfl <;> simp [ChangeMaps.setBlock]
end Go.Proofs.YtnphkmdanicemaaGreatDoor
