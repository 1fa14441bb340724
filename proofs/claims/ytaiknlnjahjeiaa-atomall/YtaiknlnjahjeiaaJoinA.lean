import Derived.Test.YtaiknlnjahjeiaaBase
import Derived.Laws.OwnMore
import Derived.Maps.RangeRun
import Derived.ChangeMaps4
import Derived.Laws.Rows
import Derived.Laws.ByValue
import Derived.Laws.EntriesVeiled
namespace Go.Proofs.Ytaiknlnjahjeiaa
open Go.RowKit Go.PlainAid
theorem below_drewN {L : Nat} {w w' : World} (h : Below L w w') (q : Nat) : Below L w (w'.drewN q) := ⟨h.os, h.tape, h.output, h.size, h.block⟩
theorem idx_run (T e : TypeId) (size : Nat) (hu : Try.prog.underlying T = some (.slice e)) (hs : (Try.prog.info? e).map (·.size) = some size) (w : World) (g o n cap j : Nat) (hj : j < n) :
    (Instr.indexAt T (.slice (some ⟨g, o, none⟩) n cap) (.int .i64 (j : Int))).run Try.prog w = .ok (.pointer (some ⟨g, o + j * size, none⟩)) w := by
  have hi : ∃ i, Try.prog.info? e = some i ∧ i.size = size := by
    cases h : Try.prog.info? e with
    | none => rw [h] at hs; cases hs
    | some i => rw [h] at hs; exact ⟨i, rfl, by simpa using hs⟩
  obtain ⟨i, hi, hz⟩ := hi
  have hlt : (0 : Int) ≤ (j : Int) ∧ (j : Int) < (n : Int) := by omega
  simp only [Instr.indexAt, asIntOf, Sem.run_bind, Sem.run_pure, Result.andThen_ok, run_underlying hu, sizeOf, typeInfo, if_pos hlt]
  simp [hi, hz, addr_add]
end Go.Proofs.Ytaiknlnjahjeiaa
namespace Go.Proofs.Ytaiknlnjahjeiaa
open Go.RowKit Go.PlainAid
set_option linter.unusedVariables false
set_option linter.unusedSimpArgs false
/-- An append, whatever the elements and wherever they come from. -/
theorem app_rows (t e : TypeId) (z : Value) (size bytes : Nat) (ht : Try.prog.underlying t = some (.slice e)) (hinfo : (Try.prog.info? e).map (fun i => (i.zero, i.size, i.bytes)) = some (some z, size, bytes)) (hzz : z.cells.size = size) (hs0 : 1 ≤ size) (hb0 : 0 < bytes)
    {w : World} {base k : Nat} {v : Value} {xs : List Value} (hown : w.ownsRow base e size v k xs) {ao : Option Addr} {m cap : Nat} {ys : List Value} (hys : ys.length = m * size) (hnil : ao = none → m = 0 ∧ cap = 0) (hnews : ∀ ad, ao = some ad → ∀ j u, ys[j]? = some u → w.cell? (ad.add j) = some u) (hone : ∀ u ∈ ys, u.oneCell' = true) (hby2 : (k + m) * bytes ≤ 140737488355328) (hbase : base ≤ w.heap.size) :
    ∃ v' w', (∀ ty, (Builtin.append_ #[t, t] ty #[v, .slice ao m cap]).run Try.prog w = .ok v' w') ∧ w'.ownsRow base e size v' (k + m) (xs ++ ys) ∧ Grew w w' v v' := by
  cases ao with
  | none =>
    obtain ⟨rfl, rfl⟩ := hnil rfl
    obtain ⟨i0, hi, _⟩ := info_parts hinfo
    obtain rfl := List.eq_nil_of_length_eq_zero (by simpa using hys)
    exact ⟨v, w, fun ty => run_append_owned_none w base t ty e i0 size ht hi v k _ hown, by simpa using hown, Grew.refl _ _⟩
  | some ad =>
    obtain ⟨v', w', a, b, c, _⟩ := app_any t e z size bytes ht hinfo hzz hs0 hb0 hown ad m cap ys hys (hnews ad rfl) hone hby2 hbase t
    exact ⟨v', w', fun ty => a, b, c⟩
section
variable {α : Type} (f : α → List Value) (n : Nat) (hf : ∀ a, (f a).length = n)
include hf
theorem flat_len : ∀ l : List α, (l.flatMap f).length = l.length * n
  | [] => by simp
  | a :: t => by rw [List.flatMap_cons, List.length_append, hf, flat_len t, List.length_cons, Nat.succ_mul]; omega
theorem flat_at : ∀ (l : List α) (i j : Nat) (a : α), l[i]? = some a → j < n → (l.flatMap f)[i * n + j]? = (f a)[j]?
  | [], i, j, a, h, _ => by simp at h
  | b :: t, 0, j, a, h, hj => by
    simp at h
    subst h
    rw [List.flatMap_cons, Nat.zero_mul, Nat.zero_add, List.getElem?_append_left (by rw [hf]; exact hj)]
  | b :: t, i + 1, j, a, h, hj => by
    rw [List.flatMap_cons, List.getElem?_append_right (by rw [hf, Nat.succ_mul]; omega), hf, show (i + 1) * n + j - n = i * n + j from by rw [Nat.succ_mul]; omega]
    exact flat_at t i j a (by simpa using h) hj
theorem flat_take : ∀ (l : List α) (i : Nat), (l.flatMap f).take (i * n) = (l.take i).flatMap f
  | [], i => by simp
  | a :: t, 0 => by simp
  | a :: t, i + 1 => by
    rw [List.flatMap_cons, List.take_succ_cons, List.flatMap_cons, Nat.succ_mul, Nat.add_comm, show n = (f a).length from (hf a).symm, List.take_length_add_append, hf, flat_take t i]
theorem flat_drop : ∀ (l : List α) (i : Nat), (l.flatMap f).drop (i * n) = (l.drop i).flatMap f
  | [], i => by simp
  | a :: t, 0 => by simp
  | a :: t, i + 1 => by
    rw [List.flatMap_cons, List.drop_succ_cons, Nat.succ_mul, Nat.add_comm, show n = (f a).length from (hf a).symm, List.drop_length_add_append, hf, flat_drop t i]
end
theorem slice_head (T e : TypeId) (hu : Try.prog.underlying T = some (.slice e)) {size : Nat} (hs : (Try.prog.info? e).map (·.size) = some size) (ao : Option Addr) (m cap i : Nat) (hi : i ≤ cap) (w : World) :
    (Instr.sliceAt T (.slice ao m cap) none (some (.int .i64 (i : Int))) none).run Try.prog w = .ok (.slice ao i cap) w := by
  have hie : ∃ i0, Try.prog.info? e = some i0 ∧ i0.size = size := by
    cases h : Try.prog.info? e with
    | none => rw [h] at hs; cases hs
    | some i => rw [h] at hs; exact ⟨i, rfl, by simpa using hs⟩
  obtain ⟨i0, hi0, hz⟩ := hie
  have he : Try.prog.elem T = e := by simp [Program.elem, hu]
  have hu2 : Try.prog.underlying T = some (.slice (Try.prog.elem T)) := by rw [he]; exact hu
  rw [run_sliceAt_slice _ _ _ _ _ _ hu2, run_slice_h _ _ _ _ _ hu2 .i64 (i : Int) (by omega) (by omega), he]
  simp only [sizeOf, typeInfo, hi0, sliced]
  simp [hi0, Result.andThen]
  cases ao with
  | none => simp
  | some a => simp [Addr.add]
theorem slice_tail (T e : TypeId) (hu : Try.prog.underlying T = some (.slice e)) {size : Nat} (hs : (Try.prog.info? e).map (·.size) = some size) (g o m cap i : Nat) (hi : i ≤ m) (hmc : m ≤ cap) :
    ∃ ad : Addr, (∀ w, (Instr.sliceAt T (.slice (some ⟨g, o, none⟩) m cap) (some (.int .i64 (i : Int))) none none).run Try.prog w = .ok (.slice (some ad) (m - i) (cap - i)) w) ∧ (i < m → ad = ⟨g, o + i * size, none⟩) := by
  have hie : ∃ i0, Try.prog.info? e = some i0 ∧ i0.size = size := by
    cases h : Try.prog.info? e with
    | none => rw [h] at hs; cases hs
    | some i => rw [h] at hs; exact ⟨i, rfl, by simpa using hs⟩
  obtain ⟨i0, hi0, hz⟩ := hie
  have he : Try.prog.elem T = e := by simp [Program.elem, hu]
  have hu2 : Try.prog.underlying T = some (.slice (Try.prog.elem T)) := by rw [he]; exact hu
  refine ⟨if cap = i then ⟨g, o, none⟩ else ⟨g, o + i * size, none⟩, fun w => ?_, fun h => by rw [if_neg (by omega)]⟩
  rw [run_sliceAt_slice _ _ _ _ _ _ hu2, run_slice_l _ _ _ _ _ hu2 .i64 (i : Int) (by omega) (by omega), he]
  simp only [sizeOf, typeInfo, hi0, sliced]
  simp [hi0, Result.andThen, hz, addr_add]
  split <;> rfl
end Go.Proofs.Ytaiknlnjahjeiaa
namespace Go.Proofs.Ytaiknlnjahjeiaa
open Go.RowKit Go.PlainAid Go.MapKept
set_option linter.unusedVariables false
set_option linter.unusedSimpArgs false
theorem wpList_runs {ops : Array Oper} {rest : List Oper} {o : Oper} {a : Act} {Q : Exit → Act → World → Prop} {w w' : World} (hgd : o.guard = none) (s x : Operand) (t : TypeId) (ho : o.op = .call { callee := .builtin .append, args := #[s, x], argTypes := #[t, t] }) {v y v' : Value} (hs : a.eval s = v) (hx : a.eval x = y)
    (hr : ∀ ty, (Builtin.append_ #[t, t] ty #[v, y]).run Try.prog w = .ok v' w') (h : wpList Try.prog ops Q rest (a.put o.dst v') w') : wpList Try.prog ops Q (o :: rest) a w := by
  refine wpList_plain hgd fun K hK => ?_
  unfold Oper.wp execOp
  simp only [ho, resolve, invoke, builtin, Sem.run_bind, Sem.run_pure, Result.andThen_ok, List.map_toArray, List.map_cons, List.map_nil, hs, hx, hr]
  exact hK _ _ h
/-- An append of one element that was just laid. -/
theorem app_one (t e : TypeId) (z : Value) (size bytes : Nat) (ht : Try.prog.underlying t = some (.slice e)) (hinfo : (Try.prog.info? e).map (fun i => (i.zero, i.size, i.bytes)) = some (some z, size, bytes)) (hzz : z.cells.size = size) (hs0 : 1 ≤ size) (hb0 : 0 < bytes)
    {w : World} {base k : Nat} {v : Value} {xs : List Value} (hown : w.ownsRow base e size v k xs) (C : Array Value) (hC : C.size = size) (hone : ∀ u ∈ C.toList, u.oneCell' = true) (hby2 : (k + 1) * bytes ≤ 140737488355328) (hbase : base ≤ w.heap.size) :
    ∃ v' w', (∀ ty, (Builtin.append_ #[t, t] ty #[v, .slice (some ⟨w.heap.size, 0, none⟩) 1 1]).run Try.prog (w.alloc (.cells C e)) = .ok v' w') ∧ w'.ownsRow base e size v' (k + 1) (xs ++ C.toList) ∧ Grew w w' v v' := by
  obtain ⟨v', w', h1, h2, h3⟩ := app_rows t e z size bytes ht hinfo hzz hs0 hb0 (hown.alloc (.cells C e)) (ao := some ⟨w.heap.size, 0, none⟩) (m := 1) (cap := 1) (ys := C.toList) (by simp [hC]) (fun h => by cases h) (fun ad had j u hu => by
    cases had
    have hB : Blk (w.alloc (.cells C e)) w.heap.size C e := heap_alloc_new w _
    rw [addr_add, Nat.zero_add, hB.cell j]
    simpa using hu) hone hby2 (by rw [World.size_alloc]; omega)
  exact ⟨v', w', h1, h2, h3.ofAlloc⟩
theorem info9 : (Try.prog.info? 9).map (fun i => (i.zero, i.size, i.bytes)) = some (some (.string ⟨#[]⟩), 1, 16) := by kernel_rfl
end Go.Proofs.Ytaiknlnjahjeiaa
namespace Go.Proofs.Ytaiknlnjahjeiaa.Gm
open Go.RowKit Go.PlainAid Go.MapKept
open Go.ChangeMaps (setBlock)
set_option linter.unusedVariables false
set_option linter.unusedSimpArgs false
def kv (e : MapEntry) : Value × Value := (e.key, e.val)
def encP {K V : Type} (kE : K → Value) (vE : V → Value) (p : K × V) : Value × Value := (kE p.1, vE p.2)
def fnd {K V : Type} [DecidableEq K] (k : K) : List (K × V) → Nat → Option (Nat × (K × V))
  | [], _ => none
  | h :: t, i => if k = h.1 then some (i, h) else fnd k t (i + 1)
/-- A kind of map: how its keys and values stand in memory, its types, and what the operations on a key do. -/
structure ML (K V : Type) [DecidableEq K] where
  kE : K → Value
  vE : V → Value
  z : V
  tm : TypeId
  tk : TypeId
  tv : TypeId
  inj : ∀ a b, kE a = kE b → a = b
  under : Try.prog.underlying tm = some (.map tk tv)
  check : ∀ b k w, (Instr.checkKey b 10000 tk (kE k)).run Try.prog w = .ok () w
  stays : ∀ k w, (Instr.keyThatStays (kE k) (kE k)).run Try.prog w = .ok (kE k) w
  zero : ∀ w, (zeroValue tv).run Try.prog w = .ok (vE z) w
  find : ∀ (k : K) (w : World) (es : List MapEntry) (L : List (K × V)), es.map kv = L.map (encP kE vE) → (Instr.findKey tk (kE k) es).run Try.prog w = .ok ((fnd k L 0).map fun p => (p.1, vE p.2.2)) w
section
variable {K V : Type} [DecidableEq K] (M : ML K V)
/-- Block mb is the map of L, in the order in which the keys came. -/
def HMap (w : World) (mb : Nat) (L : List (K × V)) : Prop := ∃ es clock, w.heap[mb]? = some (.map es clock) ∧ Stamped es clock ∧ es.toList.map kv = L.map (encP M.kE M.vE)
variable {M}
theorem HMap.lt {w : World} {mb : Nat} {L : List (K × V)} (h : HMap M w mb L) : mb < w.heap.size := by
  obtain ⟨es, c, h, _⟩ := h
  exact (Array.getElem?_eq_some_iff.1 h).1
theorem HMap.same {w w' : World} {mb : Nat} {L : List (K × V)} (h : HMap M w mb L) (he : w'.heap[mb]? = w.heap[mb]?) : HMap M w' mb L := by
  obtain ⟨es, c, h, r⟩ := h
  exact ⟨es, c, he.trans h, r⟩
theorem HMap.ne_b {w : World} {mb b : Nat} {L : List (K × V)} {C : Array Value} {T : TypeId} (h : HMap M w mb L) (hB : Blk w b C T) : b ≠ mb := by
  obtain ⟨es, c, h, _⟩ := h
  intro e
  subst e
  have := h.symm.trans hB
  cases this
theorem HMap.made (w : World) : HMap M (w.alloc (.map #[] 0)) w.heap.size [] := ⟨#[], 0, heap_alloc_new w _, stamped_empty 0, rfl⟩
def look (k : K) (L : List (K × V)) : Option V := (L.find? fun p => decide (k = p.1)).map (·.2)
theorem fnd_look (k : K) : ∀ (L : List (K × V)) (i : Nat), (fnd k L i).map (·.2.2) = look k L
  | [], _ => rfl
  | h :: t, i => by
    have := fnd_look k t (i + 1)
    by_cases e : k = h.1
    · simp [fnd, look, e]
    · simp only [fnd, e, if_false, look, List.find?_cons, decide_false] at this ⊢
      exact this
theorem HMap.look_ok {w : World} {mb : Nat} {L : List (K × V)} (h : HMap M w mb L) (k : K) (b : Bool) :
    (Instr.lookup M.tm (.map (some mb)) (M.kE k) b).run Try.prog w = .ok (bif b then .tuple #[M.vE ((look k L).getD M.z), .bool (look k L).isSome] else M.vE ((look k L).getD M.z)) w := by
  obtain ⟨es, c, hb, hs, he⟩ := h
  have hf := M.find k w es.toList L he
  rw [← fnd_look k L 0]
  cases hq : fnd k L 0 with
  | none =>
    rw [hq] at hf
    simp [Instr.lookup, run_underlying M.under, MapKept.run_getObj_map hb, M.check, hf, M.zero, Result.andThen]
    try (cases b <;> rfl)
  | some p =>
    rw [hq] at hf
    simp [Instr.lookup, run_underlying M.under, MapKept.run_getObj_map hb, M.check, hf, M.zero, Result.andThen]
    try (cases b <;> rfl)
theorem Chg.setBlock {w : World} {r : Nat} {o : Obj} : Chg (fun k => k = r) w (setBlock w r o) :=
  ⟨rfl, rfl, rfl, by simp [ChangeMaps.setBlock], fun k hk hn => by simp only [ChangeMaps.setBlock]; rw [Array.getElem?_setIfInBounds_ne (fun e => hn e.symm)]⟩
theorem setBlock_at {w : World} {r : Nat} {o : Obj} (h : r < w.heap.size) : (setBlock w r o).heap[r]? = some o := by
  simp [ChangeMaps.setBlock, h]
theorem fnd_none {k : K} : ∀ {L : List (K × V)} {i : Nat}, fnd k L i = none → ∀ p ∈ L, k ≠ p.1
  | [], _, _ => fun p h => by cases h
  | h :: t, i, hf => by
    by_cases e : k = h.1
    · simp [fnd, e] at hf
    · simp only [fnd, e, if_false] at hf
      intro p hp
      rcases List.mem_cons.1 hp with rfl | hp
      · exact e
      · exact fnd_none hf p hp
/-- A new key comes last. -/
theorem HMap.put {w : World} {mb : Nat} {L : List (K × V)} (h : HMap M w mb L) (k : K) (v : V) (hn : ∀ p ∈ L, k ≠ p.1) :
    ∃ w', (Instr.mapUpdate M.tm (.map (some mb)) (M.kE k) (M.vE v)).run Try.prog w = .ok () w' ∧ HMap M w' mb (L ++ [(k, v)]) ∧ Chg (fun k => k = mb) w w' ∧ w'.heap.size = w.heap.size := by
  have hlt := h.lt
  obtain ⟨es, c, hb, hs, he⟩ := h
  have hf := M.find k w es.toList L he
  have hq : fnd k L 0 = none := by
    cases hq : fnd k L 0 with
    | none => rfl
    | some p =>
      have key : ∀ (L : List (K × V)) (i : Nat), (∀ p ∈ L, k ≠ p.1) → fnd k L i = none := fun L => by
        induction L with
        | nil => intro i _; rfl
        | cons x t ih => intro i h; simp only [fnd, if_neg (h x (by simp))]; exact ih _ (fun p hp => h p (List.mem_cons_of_mem _ hp))
      rw [key L 0 hn] at hq
      cases hq
  rw [hq] at hf
  refine ⟨ChangeMaps.setBlock w mb (.map (es.push { key := M.kE k, val := M.vE v, born := c }) (c + 1)), ?_, ⟨_, _, setBlock_at hlt, stamped_push hs ?_, ?_⟩, Chg.setBlock, by simp [ChangeMaps.setBlock]⟩
  · simp [Instr.mapUpdate, run_underlying M.under, MapKept.run_getObj_map hb, M.check, hf, MapKept.run_setObj_map _ hb, Result.andThen, ChangeMaps.setBlock]
  · intro x hx e1
    have : kv x ∈ L.map (encP M.kE M.vE) := he ▸ List.mem_map.2 ⟨x, hx, rfl⟩
    obtain ⟨y, hy, e2⟩ := List.mem_map.1 this
    have e3 : M.kE y.1 = M.kE k := (congrArg Prod.fst e2).trans e1
    exact hn y hy (M.inj _ _ e3).symm
  · simp [he, kv, encP]
def rmK (k : K) (L : List (K × V)) : List (K × V) := L.eraseP fun p => decide (k = p.1)
theorem fnd_rm (k : K) : ∀ (L : List (K × V)) (i : Nat) (p : Nat × (K × V)), fnd k L i = some p → i ≤ p.1 ∧ L.eraseIdx (p.1 - i) = rmK k L ∧ p.1 - i < L.length
  | [], _, _, h => by simp [fnd] at h
  | x :: t, i, p, h => by
    by_cases e : k = x.1
    · simp only [fnd, if_pos e, Option.some.injEq] at h
      subst h
      simp [rmK, e]
    · simp only [fnd, if_neg e] at h
      obtain ⟨h1, h2, h3⟩ := fnd_rm k t (i + 1) p h
      refine ⟨by omega, ?_, by simp; omega⟩
      rw [show p.1 - i = (p.1 - (i + 1)) + 1 by omega]
      simp only [List.eraseIdx_cons_succ, h2, rmK, List.eraseP_cons, e, decide_false, cond_false]
theorem HMap.del {w : World} {mb : Nat} {L : List (K × V)} (h : HMap M w mb L) (k : K) :
    ∃ w', (∀ ty, (Builtin.delete_ #[M.tm, M.tk] ty #[.map (some mb), M.kE k]).run Try.prog w = .ok (.tuple #[]) w') ∧ HMap M w' mb (rmK k L) ∧ Chg (fun k => k = mb) w w' ∧ w'.heap.size = w.heap.size := by
  have hlt := h.lt
  obtain ⟨es, c, hb, hs, he⟩ := h
  have hf := M.find k w es.toList L he
  have e1 : es.size = L.length := by simpa using congrArg List.length he
  cases hq : fnd k L 0 with
  | none =>
    rw [hq] at hf
    have hn : rmK k L = L := by
      unfold rmK
      rw [List.eraseP_of_forall_not]
      intro x hx
      have := fnd_none hq x hx
      simpa using this
    refine ⟨ChangeMaps.setBlock w mb (.map es c), ?_, ⟨_, _, setBlock_at hlt, hs, by rw [hn]; exact he⟩, Chg.setBlock, by simp [ChangeMaps.setBlock]⟩
    intro ty
    simp [Builtin.delete_, run_underlying M.under, MapKept.run_getObj_map hb, M.check, hf, MapKept.run_setObj_map _ hb, Result.andThen, ChangeMaps.setBlock]
  | some p =>
    rw [hq] at hf
    obtain ⟨_, h2, h3⟩ := fnd_rm k L 0 p hq
    simp only [Nat.sub_zero] at h2 h3
    refine ⟨ChangeMaps.setBlock w mb (.map (es.eraseIdxIfInBounds p.1) c), ?_, ⟨_, _, setBlock_at hlt, stamped_erase hs p.1, ?_⟩, Chg.setBlock, by simp [ChangeMaps.setBlock]⟩
    · intro ty
      simp [Builtin.delete_, run_underlying M.under, MapKept.run_getObj_map hb, M.check, hf, MapKept.run_setObj_map _ hb, Result.andThen, ChangeMaps.setBlock]
    · have hsub : (es.eraseIdxIfInBounds p.1).toList = es.toList.eraseIdx p.1 := by
        unfold Array.eraseIdxIfInBounds
        rw [dif_pos (by omega)]
        simp
      rw [hsub, ChangeMaps.map_eraseIdx, he, ← ChangeMaps.map_eraseIdx, h2]
variable (M) in
/-- A range over the map under way: D has come, T is still to come. -/
def Rng (w : World) (mb r : Nat) (L D T : List (K × V)) : Prop :=
  ∃ es clock since seen c0, w.heap[mb]? = some (.map es clock) ∧ Stamped es clock ∧ es.toList.map kv = L.map (encP M.kE M.vE) ∧ w.heap[r]? = some (.mapIter (some mb) since seen c0) ∧ (∀ x ∈ es.toList, x.born < since) ∧ since ≤ c0 ∧ since ≤ clock ∧
    (leftOf es seen).toList.map kv = T.map (encP M.kE M.vE) ∧ (D ++ T).Perm L
theorem Rng.map {w : World} {mb r : Nat} {L D T : List (K × V)} (h : Rng M w mb r L D T) : HMap M w mb L := by
  obtain ⟨es, c, _, _, _, h1, h2, h3, _⟩ := h
  exact ⟨es, c, h1, h2, h3⟩
theorem Rng.perm {w : World} {mb r : Nat} {L D T : List (K × V)} (h : Rng M w mb r L D T) : (D ++ T).Perm L := by
  obtain ⟨_, _, _, _, _, _, _, _, _, _, _, _, _, h⟩ := h
  exact h
theorem Rng.lt {w : World} {mb r : Nat} {L D T : List (K × V)} (h : Rng M w mb r L D T) : r < w.heap.size := by
  obtain ⟨_, _, _, _, _, _, _, _, h, _⟩ := h
  exact (Array.getElem?_eq_some_iff.1 h).1
theorem Rng.ne {w : World} {mb r : Nat} {L D T : List (K × V)} (h : Rng M w mb r L D T) : r ≠ mb := by
  obtain ⟨_, _, _, _, _, h1, _, _, h, _⟩ := h
  intro e
  rw [e, h1] at h
  cases h
theorem Rng.ne_b {w : World} {mb r b : Nat} {L D T : List (K × V)} {C : Array Value} {ty : TypeId} (h : Rng M w mb r L D T) (hB : Blk w b C ty) : b ≠ r := by
  obtain ⟨_, _, _, _, _, h1, _, _, h, _⟩ := h
  intro e
  rw [← e] at h
  have := h.symm.trans hB
  cases this
theorem Rng.same {w w' : World} {mb r : Nat} {L D T : List (K × V)} (h : Rng M w mb r L D T) (h1 : w'.heap[mb]? = w.heap[mb]?) (h2 : w'.heap[r]? = w.heap[r]?) : Rng M w' mb r L D T := by
  obtain ⟨es, c, s, sn, c0, a, b, d, e, f⟩ := h
  exact ⟨es, c, s, sn, c0, h1.trans a, b, d, h2.trans e, f⟩
theorem HMap.range {w : World} {mb : Nat} {L : List (K × V)} (h : HMap M w mb L) :
    ∃ w', (Instr.range M.tm (.map (some mb))).run Try.prog w = .ok (.pointer (some ⟨w.heap.size, 0, none⟩)) w' ∧ Rng M w' mb w.heap.size L [] L ∧ Below w.heap.size w w' ∧ w'.heap.size = w.heap.size + 1 := by
  have hlt := h.lt
  obtain ⟨es, c, hb, hs, he⟩ := h
  refine ⟨_, run_range_map w M.tm M.tk M.tv mb es c M.under hb, ⟨es, c, c, #[], c, ((MapKept.heap_alloc w _).2 mb hlt).trans hb, hs, he, (MapKept.heap_alloc w _).1, hs.1, Nat.le_refl _, Nat.le_refl _, ?_, by simp⟩, (Below.refl _ _).alloc (Nat.le_refl _) _, by simp⟩
  rw [← he]
  have e0 : (leftOf es #[]).toList = es.toList := by
    simp only [leftOf, Array.toList_filter]
    exact List.filter_eq_self.2 (fun x _ => by simp)
  rw [e0]
theorem left_push (es : Array MapEntry) (seen : Array Nat) (b : Nat) : (leftOf es (seen.push b)).toList = (leftOf es seen).toList.filter (fun x => x.born != b) := by
  simp only [leftOf, Array.toList_filter, List.filter_filter]
  congr 1
  funext x
  simp only [Array.contains_push]
  cases seen.contains x.born <;> cases h : (x.born == b) <;> simp_all
theorem take_one (e : MapEntry) : ∀ (l : List MapEntry) (T : List (K × V)), l.map kv = T.map (encP M.kE M.vE) → (l.map (·.born)).Nodup → e ∈ l → ∃ h T', kv e = encP M.kE M.vE h ∧ (l.filter (fun x => x.born != e.born)).map kv = T'.map (encP M.kE M.vE) ∧ (h :: T').Perm T
  | [], _, _, _, h => by simp at h
  | x :: l, [], h, _, _ => by simp at h
  | x :: l, t :: T, h, hn, hm => by
    simp only [List.map_cons, List.cons.injEq] at h
    simp only [List.map_cons, List.nodup_cons] at hn
    by_cases e1 : x.born = e.born
    · have hx : e = x := by
        rcases List.mem_cons.1 hm with h' | h'
        · exact h'
        · exact absurd (List.mem_map.2 ⟨e, h', e1.symm⟩) hn.1
      subst hx
      refine ⟨t, T, h.1, ?_, List.Perm.refl _⟩
      rw [List.filter_cons_of_neg (by simp)]
      rw [List.filter_eq_self.2]
      · exact h.2
      · intro y hy
        have : y.born ≠ e.born := fun e2 => hn.1 (List.mem_map.2 ⟨y, hy, e2⟩)
        simpa using this
    · have hm2 : e ∈ l := by
        rcases List.mem_cons.1 hm with h' | h'
        · exact absurd (congrArg MapEntry.born h'.symm) e1
        · exact h'
      obtain ⟨g, T', h1, h2, h3⟩ := take_one e l T h.2 hn.2 hm2
      refine ⟨g, t :: T', h1, ?_, ?_⟩
      · rw [List.filter_cons_of_pos (by simpa using e1)]
        simp only [List.map_cons, h.1, h2]
      · exact (List.Perm.swap _ _ _).trans (h3.cons t)
theorem Rng.next {w : World} {mb r : Nat} {L D T : List (K × V)} (h : Rng M w mb r L D T) (ty : TypeId) :
    (T = [] ∧ (Instr.next (.pointer (some ⟨r, 0, none⟩)) false ty).run Try.prog w = .ok (.tuple #[.bool false]) w) ∨
    ∃ x T' w', (Instr.next (.pointer (some ⟨r, 0, none⟩)) false ty).run Try.prog w = .ok (.tuple #[.bool true, M.kE x.1, M.vE x.2]) w' ∧ (Instr.entry (.pointer (some ⟨r, 0, none⟩))).run Try.prog w' = .ok (.tuple #[M.kE x.1, M.vE x.2]) w' ∧
      Rng M w' mb r L (D ++ [x]) T' ∧ T'.length < T.length ∧ Chg (fun k => k = r) w w' ∧ w'.heap.size = w.heap.size := by
  have hne := h.ne
  have hlt := h.lt
  obtain ⟨es, c, s, sn, c0, hb, hs, he, hr, hold, hsc, hsk, hl, hp⟩ := h
  rcases run_next_at (P := Try.prog) w ty r mb s c0 sn es c hr hb hold hsc with ⟨h0, hrun⟩ | ⟨e, hem, w1, hal, hrun⟩
  · refine Or.inl ⟨?_, hrun⟩
    have := congrArg List.length hl
    simp at this
    exact List.length_eq_zero_iff.1 (by omega)
  · have hst := (stamped_iff es c).1 hs
    have hmem : e ∈ es.toList := by
      simp only [leftOf, Array.toList_filter, List.mem_filter] at hem
      exact hem.1
    have hnl : ((leftOf es sn).toList.map (·.born)).Nodup := by
      simp only [leftOf, Array.toList_filter]
      exact (List.filter_sublist.map _).nodup hst.2.1
    obtain ⟨x, T', h1, h2, h3⟩ := take_one e _ T hl hnl hem
    have ek : e.key = M.kE x.1 := congrArg Prod.fst h1
    have ev : e.val = M.vE x.2 := congrArg Prod.snd h1
    have hr1 : w1.heap[r]? = some (.mapIter (some mb) s sn c0) := by rcases hal with rfl | rfl <;> exact hr
    have hb1 : w1.heap[mb]? = some (.map es c) := by rcases hal with rfl | rfl <;> exact hb
    have hl1 : r < w1.heap.size := by rcases hal with rfl | rfl <;> exact hlt
    have hbx : (ChangeMaps.setBlock w1 r (.mapIter (some mb) s (sn.push e.born) c)).heap[mb]? = some (.map es c) := (Chg.setBlock.block mb (Array.getElem?_eq_some_iff.1 hb1).1 (Ne.symm hne)).trans hb1
    have hrx : (ChangeMaps.setBlock w1 r (.mapIter (some mb) s (sn.push e.born) c)).heap[r]? = _ := setBlock_at hl1
    have hen := run_entry_at (P := Try.prog) _ r mb s sn es c e hrx hbx hmem hst.2.1
    rw [ek, ev] at hrun hen
    refine Or.inr ⟨x, T', _, hrun, hen, ⟨es, c, s, _, c, hbx, hs, he, hrx, hold, hsk, hsk, by rw [left_push]; exact h2, ?_⟩, ?_, ?_, ?_⟩
    · rw [List.append_assoc]
      exact (List.Perm.append_left D h3).trans hp
    · have := h3.length_eq
      simp at this
      omega
    · rcases hal with rfl | rfl
      · exact Chg.setBlock
      · exact ⟨rfl, rfl, rfl, by simp [ChangeMaps.setBlock], fun k hk hn => (Chg.setBlock (w := w.drew)).block k hk hn⟩
    · rcases hal with rfl | rfl <;> simp [ChangeMaps.setBlock]
end
end Go.Proofs.Ytaiknlnjahjeiaa.Gm
namespace Go.Proofs.Ytaiknlnjahjeiaa.Gm
open Go.RowKit Go.PlainAid Go.MapKept
open Go.ChangeMaps (setBlock)
set_option linter.unusedVariables false
set_option linter.unusedSimpArgs false
section
variable {K V : Type} [DecidableEq K] {M : ML K V}
def putM (k : K) (v : V) : List (K × V) → List (K × V)
  | [] => [(k, v)]
  | x :: t => if k = x.1 then (k, v) :: t else x :: putM k v t
theorem fnd_put (k : K) (v : V) : ∀ (L : List (K × V)) (i : Nat), match fnd k L i with
    | none => putM k v L = L ++ [(k, v)]
    | some p => i ≤ p.1 ∧ p.1 - i < L.length ∧ putM k v L = L.set (p.1 - i) (k, v) ∧ k = p.2.1 ∧ L[p.1 - i]? = some p.2
  | [], i => by simp [fnd, putM]
  | x :: t, i => by
    have ih := fnd_put k v t (i + 1)
    by_cases hk : k = x.1
    · simp [fnd, putM, hk]
    · simp only [fnd, hk, if_false, putM]
      cases hq : fnd k t (i + 1) with
      | none =>
        rw [hq] at ih
        simp only at ih ⊢
        rw [ih]
        rfl
      | some p =>
        rw [hq] at ih
        simp only at ih ⊢
        obtain ⟨h1, h2, h3, h4, h6⟩ := ih
        have e1 : p.1 - i = (p.1 - (i + 1)) + 1 := by omega
        refine ⟨by omega, by simp; omega, ?_, h4, ?_⟩
        · rw [e1, h3]; rfl
        · rw [e1]; simpa using h6
theorem HMap.putM {w : World} {mb : Nat} {L : List (K × V)} (h : HMap M w mb L) (k : K) (v : V) :
    ∃ w', (Instr.mapUpdate M.tm (.map (some mb)) (M.kE k) (M.vE v)).run Try.prog w = .ok () w' ∧ HMap M w' mb (Gm.putM k v L) ∧ Chg (fun k => k = mb) w w' ∧ w'.heap.size = w.heap.size := by
  have h0 := h
  have hlt := h.lt
  obtain ⟨es, c, hb, hs, he⟩ := h
  have hf := M.find k w es.toList L he
  have hp := fnd_put k v L 0
  have hsz : es.size = L.length := by simpa using congrArg List.length he
  cases hq : fnd k L 0 with
  | none =>
    rw [hq] at hp
    simp only at hp
    rw [hp]
    exact h0.put k v (fnd_none hq)
  | some p =>
    rw [hq] at hf hp
    simp only [Nat.sub_zero] at hp
    obtain ⟨_, h2, h3, h4, h6⟩ := hp
    obtain ⟨x, hx⟩ : ∃ x, es[p.1]? = some x := ⟨es[p.1]'(by omega), Array.getElem?_eq_getElem _⟩
    have hkx : kv x = encP M.kE M.vE p.2 := by
      have e1 : (es.toList.map kv)[p.1]? = some (kv x) := by rw [List.getElem?_map, Array.getElem?_toList, hx]; rfl
      rw [he, List.getElem?_map, h6] at e1
      exact (Option.some.inj e1).symm
    have ek : x.key = M.kE k := by rw [h4]; exact congrArg Prod.fst hkx
    have hst := M.stays k w
    refine ⟨ChangeMaps.setBlock w mb (.map (es.modify p.1 fun q => { q with key := M.kE k, val := M.vE v }) c), ?_, ⟨_, _, setBlock_at hlt, stamped_modify hs p.1 _ (fun _ _ => rfl) (fun q _ hq => ?_), ?_⟩, Chg.setBlock, by simp [ChangeMaps.setBlock]⟩
    · simp [Instr.mapUpdate, run_underlying M.under, MapKept.run_getObj_map hb, M.check, hf, hx, ek, hst, MapKept.run_setObj_map _ hb, Result.andThen, ChangeMaps.setBlock]
    · rw [hx] at hq
      cases hq
      exact ek.symm
    · rw [h3, List.map_set]
      rw [← he]
      apply List.ext_getElem?
      intro j
      simp only [List.getElem?_map, Array.getElem?_toList, Array.getElem?_modify, List.getElem?_set, List.length_map, Array.length_toList]
      by_cases hj : p.1 = j
      · subst hj
        simp [hx, hsz, h2, kv, encP]
      · simp [hj]
def KD (L : List (K × V)) : Prop := L.Pairwise fun a b => a.1 ≠ b.1
theorem look_cons (k : K) (x : K × V) (t : List (K × V)) : look k (x :: t) = if k = x.1 then some x.2 else look k t := by
  unfold look
  by_cases h : k = x.1
  · rw [List.find?_cons_of_pos (by simpa using h), if_pos h]; rfl
  · rw [List.find?_cons_of_neg (by simpa using h), if_neg h]
theorem look_putM (k n : K) (v : V) : ∀ L : List (K × V), look n (putM k v L) = if n = k then some v else look n L
  | [] => by
    rw [putM, look_cons]
  | x :: t => by
    unfold putM
    by_cases h : k = x.1
    · rw [if_pos h, look_cons, look_cons]
      by_cases hn : n = k
      · rw [if_pos hn, if_pos hn]
      · rw [if_neg hn, if_neg hn, if_neg (fun e => hn (e.trans h.symm))]
    · rw [if_neg h, look_cons, look_cons, look_putM k n v t]
      by_cases hx : n = x.1
      · rw [if_pos hx, if_pos hx, if_neg (fun e => h (e.symm.trans hx))]
      · rw [if_neg hx, if_neg hx]
theorem mem_putM {k : K} {v : V} {y : K × V} : ∀ {L : List (K × V)}, y ∈ putM k v L → y = (k, v) ∨ y ∈ L
  | [], h => by simp [putM] at h; exact Or.inl h
  | x :: t, h => by
    simp only [putM] at h
    split at h
    · rcases List.mem_cons.1 h with h | h
      · exact Or.inl h
      · exact Or.inr (List.mem_cons_of_mem _ h)
    · rcases List.mem_cons.1 h with h | h
      · exact Or.inr (h ▸ List.mem_cons_self ..)
      · rcases mem_putM h with h | h
        · exact Or.inl h
        · exact Or.inr (List.mem_cons_of_mem _ h)
theorem KD.putM {k : K} {v : V} : ∀ {L : List (K × V)}, KD L → KD (Gm.putM k v L)
  | [], h => by simp [KD, Gm.putM]
  | x :: t, h => by
    obtain ⟨h1, h2⟩ := List.pairwise_cons.1 h
    unfold KD Gm.putM
    split
    · rename_i e
      exact List.pairwise_cons.2 ⟨fun y hy => by rw [e]; exact h1 y hy, h2⟩
    · rename_i e
      refine List.pairwise_cons.2 ⟨fun y hy => ?_, KD.putM h2⟩
      rcases mem_putM hy with rfl | hy
      · exact fun e2 => e e2.symm
      · exact h1 y hy
theorem look_rmK (k n : K) : ∀ L : List (K × V), KD L → look n (rmK k L) = if n = k then none else look n L
  | [], _ => by
    unfold rmK look
    simp
  | x :: t, h => by
    obtain ⟨h1, h2⟩ := List.pairwise_cons.1 h
    by_cases hx : k = x.1
    · have e1 : rmK k (x :: t) = t := by unfold rmK; rw [List.eraseP_cons_of_pos (by simpa using hx)]
      rw [e1, look_cons]
      by_cases hn : n = k
      · rw [if_pos hn]
        unfold look
        rw [List.find?_eq_none.2 (fun y hy => by simp only [decide_eq_true_eq]; rw [hn, hx]; exact h1 y hy)]
        rfl
      · rw [if_neg hn, if_neg (fun e => hn (e.trans hx.symm))]
    · have e1 : rmK k (x :: t) = x :: rmK k t := by unfold rmK; rw [List.eraseP_cons_of_neg (by simpa using hx)]
      rw [e1, look_cons, look_cons, look_rmK k n t h2]
      by_cases hn : n = x.1
      · rw [if_pos hn, if_pos hn, if_neg (fun e => hx (e.symm.trans hn))]
      · rw [if_neg hn, if_neg hn]
theorem KD.rmK {k : K} {L : List (K × V)} (h : KD L) : KD (Gm.rmK k L) := h.sublist (List.eraseP_sublist)
end
end Go.Proofs.Ytaiknlnjahjeiaa.Gm
namespace Go.Proofs.Ytaiknlnjahjeiaa
open Go.RowKit Go.PlainAid Go.MapKept
set_option linter.unusedVariables false
set_option linter.unusedSimpArgs false
def Str (n : List UInt8) : Value := .string ⟨n.toArray⟩
/-- A counter as it stands in memory, and what its map of holds holds. -/
structure Ct where
  nm : List UInt8
  lim : Int
  val : Int
  held : Int
  hb : Option Nat
  H : List (Int × Int)
def Ct.cs (c : Ct) : Array Value := #[.string ⟨c.nm.toArray⟩, .int .i64 c.lim, .int .i64 c.val, .int .i64 c.held, .map c.hb]
def ctV (c : Ct) : Value := .agg c.cs
theorem bytesD (b d : List UInt8) : ((⟨b.toArray⟩ : ByteArray) == ⟨d.toArray⟩) = decide (b = d) := by
  have h : ((⟨b.toArray⟩ : ByteArray) == ⟨d.toArray⟩) = (b == d) := by
    show (b.toArray == d.toArray) = (b == d)
    simp
  rw [h]
  by_cases h : b = d <;> simp [h]
theorem checkS (n : Nat) (b : Bool) (k : List UInt8) (w : World) : (Instr.checkKey b (n + 2) 9 (Str k)).run Try.prog w = .ok () w := by
  unfold Str
  simp [Instr.checkKey, go_sem, Result.andThen, run_underlying Try.underlying9]
theorem str_inj {a b : List UInt8} (h : Str a = Str b) : a = b := by
  unfold Str at h
  simpa using h
theorem findNow_str (k : List UInt8) : ∀ (es : List MapEntry) (L : List (List UInt8 × Ct)) (i : Nat), es.map Gm.kv = L.map (Gm.encP Str ctV) → Instr.findNow .string (Str k) es i = some ((Gm.fnd k L i).map fun p => (p.1, ctV p.2.2))
  | [], [], i, _ => rfl
  | [], _ :: _, i, h => by simp at h
  | _ :: _, [], i, h => by simp at h
  | e :: es, x :: L, i, h => by
    simp only [List.map_cons, List.cons.injEq] at h
    obtain ⟨h1, h2⟩ := h
    have ek : e.key = Str x.1 := congrArg Prod.fst h1
    have ev : e.val = ctV x.2 := congrArg Prod.snd h1
    have ih := findNow_str k es L (i + 1) h2
    by_cases hk : k = x.1
    · simp [Instr.findNow, ek, Str, Instr.sameNow, bytesD, hk, Gm.fnd, ev]
    · simp only [Instr.findNow, ek, Str, Instr.sameNow, bytesD, hk, Gm.fnd, decide_false, if_false]
      exact ih
def zedC : Ct := ⟨[], 0, 0, 0, none, []⟩
def MC : Gm.ML (List UInt8) Ct where
  kE := Str
  vE := ctV
  z := zedC
  tm := 57
  tk := 9
  tv := 67
  inj := fun a b h => str_inj h
  under := Try.underlying57
  check := fun b k w => checkS 9998 b k w
  stays := fun k w => by
    have h : Instr.sameBits 10000 (Str k) (Str k) = true := by
      unfold Str
      simp [Instr.sameBits, bytesD]
    simp [Instr.keyThatStays, h]
  zero := fun w => by kernel_rfl
  find := fun k w es L h => by
    unfold Instr.findKey
    rw [Sem.run_bind, run_underlying Try.underlying9]
    simp only [Result.andThen]
    rw [findNow_str k es L 0 h]
    rfl
theorem findNow_int (k : Int) : ∀ (es : List MapEntry) (L : List (Int × Int)) (i : Nat), es.map Gm.kv = L.map (Gm.encP (fun z => Value.int .i64 z) (fun z => Value.int .i64 z)) → Instr.findNow (.int .i64) (.int .i64 k) es i = some ((Gm.fnd k L i).map fun p => (p.1, .int .i64 p.2.2))
  | [], [], i, _ => rfl
  | [], _ :: _, i, h => by simp at h
  | _ :: _, [], i, h => by simp at h
  | e :: es, x :: L, i, h => by
    simp only [List.map_cons, List.cons.injEq] at h
    obtain ⟨h1, h2⟩ := h
    have ek : e.key = .int .i64 x.1 := congrArg Prod.fst h1
    have ev : e.val = .int .i64 x.2 := congrArg Prod.snd h1
    have ih := findNow_int k es L (i + 1) h2
    by_cases hk : k = x.1
    · simp [Instr.findNow, ek, Instr.sameNow, hk, Gm.fnd, ev]
    · have hb : (k == x.1) = false := by simpa using hk
      simp only [Instr.findNow, ek, Instr.sameNow, Gm.fnd, hb, if_neg hk]
      exact ih
theorem checkI (n : Nat) (b : Bool) (k : Int) (w : World) : (Instr.checkKey b (n + 1) 3 (.int .i64 k)).run Try.prog w = .ok () w := by
  simp [Instr.checkKey, go_sem, Result.andThen, run_underlying Try.underlying3]
def MI : Gm.ML Int Int where
  kE := fun z => .int .i64 z
  vE := fun z => .int .i64 z
  z := 0
  tm := 65
  tk := 3
  tv := 3
  inj := fun a b h => by simpa using h
  under := Try.underlying65
  check := fun b k w => checkI 9999 b k w
  stays := fun k w => by
    have h : Instr.sameBits 10000 (.int .i64 k) (.int .i64 k) = true := by simp [Instr.sameBits]
    simp [Instr.keyThatStays, h]
  zero := fun w => by kernel_rfl
  find := fun k w es L h => by
    unfold Instr.findKey
    rw [Sem.run_bind, run_underlying Try.underlying3]
    simp only [Result.andThen]
    rw [findNow_int k es L 0 h]
    rfl
abbrev HI (w : World) (hb : Nat) (H : List (Int × Int)) : Prop := Gm.HMap MI w hb H
/-- What the closure of a deed does: it hands the counter back as it is then. -/
def DoPost (L0 U : Nat) (hb0 : Option Nat) (n : List UInt8) (lim val held : Int) (H : List (Int × Int)) (W : World) (e : Ending) (W' : World) : Prop :=
  ∃ hb' : Nat, e = .returned (ctV ⟨n, lim, val, held, some hb', H⟩) ∧ HI W' hb' H ∧ (hb0 = some hb' ∨ hb0 = none ∧ W.heap.size ≤ hb') ∧ Chg (fun k => hb0 = some k ∨ L0 ≤ k ∧ k < U) W W'
/-- What was laid since L0, and the map of holds, stand in W as in w. -/
structure Since (L0 : Nat) (hb0 : Option Nat) (w W : World) : Prop where
  size : w.heap.size ≤ W.heap.size
  new : ∀ k, L0 ≤ k → k < w.heap.size → W.heap[k]? = w.heap[k]?
  hb : ∀ k, hb0 = some k → W.heap[k]? = w.heap[k]?
theorem Since.blk {L0 : Nat} {hb0 : Option Nat} {w W : World} {b : Nat} {C : Array Value} {T : TypeId} (h : Since L0 hb0 w W) (hB : Blk w b C T) (hl : L0 ≤ b) : Blk W b C T := (h.new b hl hB.lt).trans hB
theorem Since.hi {L0 hb : Nat} {w W : World} {H : List (Int × Int)} (h : Since L0 (some hb) w W) (hI : HI w hb H) : HI W hb H := hI.same (h.hb hb rfl)
theorem Since.below {L0 L1 : Nat} {hb0 : Option Nat} {w W : World} (h : Below L1 w W) (hl : w.heap.size ≤ L1) (hh : ∀ k, hb0 = some k → k < w.heap.size) : Since L0 hb0 w W := ⟨h.size, fun k _ hk => h.block k (Nat.lt_of_lt_of_le hk hl), fun k hk => h.block k (Nat.lt_of_lt_of_le (hh k hk) hl)⟩
def Doer (L0 : Nat) (hb0 : Option Nat) (n : List UInt8) (lim val held : Int) (H : List (Int × Int)) (fv : Value) (w : World) : Prop :=
  ∃ (K : Nat) (cs : Array Value), fv = .func (.func K) #[] cs ∧ (∀ args w, (callFunc K args).run Try.prog w = .ok (.enter K args) w) ∧ ∀ W, Since L0 hb0 w W → Calls Try.prog K cs W (DoPost L0 w.heap.size hb0 n lim val held H W)
/-- A deed that is handed on: the world has gone from w to w', the blocks of A alone have changed. -/
theorem Doer.later {L0 L1 : Nat} {hb0 : Option Nat} {n : List UInt8} {lim val held : Int} {H : List (Int × Int)} {fv : Value} {w w' : World} {A : Nat → Prop} (h : Doer L0 hb0 n lim val held H fv w) (hc : Chg A w w') (hl : L1 ≤ L0) (h1 : ∀ k, L0 ≤ k → ¬ A k) (h2 : ∀ k, hb0 = some k → k < w.heap.size ∧ ¬ A k) : Doer L1 hb0 n lim val held H fv w' := by
  obtain ⟨K, cs, e1, e2, e3⟩ := h
  refine ⟨K, cs, e1, e2, fun W hs => (e3 W ⟨Nat.le_trans hc.size hs.size, fun k h3 h4 => ?_, fun k hk => ?_⟩).mono ?_⟩
  · exact (hs.new k (Nat.le_trans hl h3) (Nat.lt_of_lt_of_le h4 hc.size)).trans (hc.block k h4 (h1 k h3))
  · exact (hs.hb k hk).trans (hc.block k (h2 k hk).1 (h2 k hk).2)
  · rintro e W' ⟨hb', a1, a2, a3, a4⟩
    exact ⟨hb', a1, a2, a3, a4.mono (fun k _ e => e.imp id (fun e => ⟨Nat.le_trans hl e.1, Nat.lt_of_lt_of_le e.2 hc.size⟩))⟩
/-- What a plan comes to: an answer, an error, and the counter as it would be. -/
abbrev Out := (Int × Int) × (Int × Int × Int × List (Int × Int))
def PlPost (hb0 : Option Nat) (n : List UInt8) (r : Out) (w : World) (e : Ending) (w' : World) : Prop :=
  ∃ fv, e = .returned (.agg #[.int .i64 r.1.1, .int .i64 r.1.2, fv]) ∧ fv.oneCell' = true ∧ Below w.heap.size w w' ∧ (r.1.2 = 0 → Doer w.heap.size hb0 n r.2.1 r.2.2.1 r.2.2.2.1 r.2.2.2.2 fv w')
end Go.Proofs.Ytaiknlnjahjeiaa
