import Derived.Test.YtehjdkdoalmaeaaMove
import Derived.Test.YtehjdkdoalmaeaaOrder
namespace Go.Proofs.Ytehjdkdoalmaeaa
open Go.RowKit Go.PlainAid
set_option linter.unusedVariables false
set_option linter.unusedSimpArgs false

def ArgL.v (c : ArgL) : LetV := ⟨c.f, c.t, c.d, c.bs⟩
theorem flat_at {W : World} {b : Nat} : ∀ (cs : List ArgL) (off : Nat), (∀ i c, cs[i]? = some c → LetAt W b (off + i * 3) c) → ∀ j u, (flat (cs.map ArgL.v))[j]? = some u → W.cell? ⟨b, off + j, none⟩ = some u
  | [], _, _, j, u, h => by simp [flat] at h
  | c :: cs, off, hc, j, u, h => by
    have h0 := hc 0 c rfl
    rw [Nat.zero_mul, Nat.add_zero] at h0
    have ih := flat_at cs (off + 3) (fun i x hx => by
      have := hc (i + 1) x hx
      rwa [show off + (i + 1) * 3 = off + 3 + i * 3 from by omega] at this)
    match j with
    | 0 => cases h; exact h0.c0
    | 1 => cases h; exact h0.c1
    | 2 => cases h; exact h0.c2
    | j + 3 =>
      simp only [List.map_cons, flat, List.getElem?_cons_succ] at h
      have := ih j u h
      rwa [show off + 3 + j = off + (j + 3) from by omega] at this
theorem LetAt.same {w w' : World} {b off : Nat} {c : ArgL} (h : LetAt w b off c) (hb : w'.heap[b]? = w.heap[b]?) : LetAt w' b off c :=
  ⟨(World.cell?_of_block (w := w) hb).trans h.c0, (World.cell?_of_block (w := w) hb).trans h.c1, (World.cell?_of_block (w := w) hb).trans h.c2⟩
/-- The law's own list: a letter, and behind it those that came in. -/
theorem list_made {W w1 : World} {ao : Option Addr} {N cap : Nat} {cs : List ArgL} (hN : cs.length = N) (hle : N ≤ 1023) (hb1 : Below W.heap.size W w1) (hat : 0 < N → ∃ b off, ao = some ⟨b, off, none⟩ ∧ ∀ i c, cs[i]? = some c → LetAt W b (off + i * 3) c) (hcap : N ≤ cap) (hnil : ao = none → N = 0 ∧ cap = 0) (hld : ∀ c ∈ cs, True) (ty : TypeId) :
    ∃ lb c9 w2, (Builtin.append_ #[22, 22] ty #[.slice (some ⟨w1.heap.size, 0, none⟩) 1 1, .slice ao N cap]).run Try.prog (w1.alloc (.cells #[.int .i64 9, .int .i64 9, .slice none 0 0] 31)) = .ok (.slice (some ⟨lb, 0, none⟩) (1 + N) c9) w2 ∧ w1.heap.size ≤ lb ∧ lb < w2.heap.size ∧ Below w1.heap.size w1 w2 ∧
      ∀ i c, ((⟨9, 9, none, 0, []⟩ : ArgL) :: cs)[i]? = some c → LetAt w2 lb (i * 3) c := by
  obtain ⟨i0, hi, hz0, hz1, hz2⟩ := info_parts Try.info31
  have hown : (w1.alloc (.cells #[.int .i64 9, .int .i64 9, .slice none 0 0] 31)).ownsRow w1.heap.size 31 3 (.slice (some ⟨w1.heap.size, 0, none⟩) 1 1) 1 (flat [⟨9, 9, .slice none 0 0, []⟩]) :=
    ⟨rfl, Or.inr ⟨w1.heap.size, 1, _, rfl, Nat.le_refl _, heap_alloc_new w1 _, Nat.le_refl _, by decide, rfl, rfl⟩⟩
  have key : ∃ v9 w2, (Builtin.append_ #[22, 22] ty #[.slice (some ⟨w1.heap.size, 0, none⟩) 1 1, .slice ao N cap]).run Try.prog (w1.alloc (.cells #[.int .i64 9, .int .i64 9, .slice none 0 0] 31)) = .ok v9 w2 ∧ w2.ownsRow w1.heap.size 31 3 v9 (1 + N) (flat (⟨9, 9, .slice none 0 0, []⟩ :: cs.map ArgL.v)) ∧ (w1.alloc (.cells #[.int .i64 9, .int .i64 9, .slice none 0 0] 31)).grownBy w2 (some w1.heap.size) := by
    cases ao with
    | none =>
      obtain ⟨rfl, rfl⟩ := hnil rfl
      obtain rfl : cs = [] := List.eq_nil_of_length_eq_zero hN
      refine ⟨_, _, ?_, hown, ⟨rfl, rfl, rfl, Nat.le_refl _, fun _ _ _ => rfl⟩⟩
      simp [Builtin.append_, run_underlying Try.underlying22, sizeOf, typeInfo, hi, Builtin.lenOf, Builtin.firstCells, loadCells, loadCellsFrom]
      simp [storeCells]
    | some ad =>
      have hnews : ∀ j u, (flat (cs.map ArgL.v))[j]? = some u → (w1.alloc (.cells #[.int .i64 9, .int .i64 9, .slice none 0 0] 31)).cell? (ad.add j) = some u := fun j u hu => by
        have hj := (List.getElem?_eq_some_iff.1 hu).1
        rw [flat_len, List.length_map, hN] at hj
        obtain ⟨b, off, e, hc⟩ := hat (by omega)
        cases e
        rw [addr_add]
        have h1 := flat_at cs off hc j u hu
        have hlt := World.block_lt_of_cell? W _ h1
        have hsz := hb1.size
        exact (World.cell?_of_block (w := W) ((Below.heap_alloc _ _ _ (by show b < _; simp only at hlt; omega)).trans (hb1.block b hlt))).trans h1
      obtain ⟨v9, w2, hr, ho, hg, _⟩ := run_append_own (P := Try.prog) (w1.alloc (.cells #[.int .i64 9, .int .i64 9, .slice none 0 0] 31)) w1.heap.size 22 ty 31 i0 _ 3 40 Try.underlying22 hi hz0 hz1 hz2 rfl (by decide) _ 1 _ hown ad N cap (flat (cs.map ArgL.v)) (by rw [flat_len, List.length_map, hN]) hnews (flat_ones _ (by
        intro x hx
        obtain ⟨c, _, rfl⟩ := List.mem_map.1 hx
        rfl)) (by unfold maxLen; omega) (by omega) (by simp)
      exact ⟨v9, w2, hr, ho, hg⟩
  obtain ⟨v9, w2, hr, ho, hg⟩ := key
  rcases ho.2 with ⟨_, h⟩ | ⟨lb, c9, cur, rfl, hlb, hrow, hc, _, hcs, htk⟩
  · omega
  refine ⟨lb, c9, w2, hr, hlb, (Array.getElem?_eq_some_iff.1 hrow).1, ?_, fun i c hic => ?_⟩
  · refine ⟨hg.os, hg.tape, hg.output, by have := hg.size; rw [World.size_alloc] at this; omega, fun k hk => ?_⟩
    exact (hg.block k (by rw [World.size_alloc]; omega) (fun e => by cases e; omega)).trans (Below.heap_alloc _ _ _ hk)
  · have hcell := ho.cells (g := lb) rfl
    have hic' : ((⟨9, 9, .slice none 0 0, []⟩ : LetV) :: cs.map ArgL.v)[i]? = some c.v := by
      have : (((⟨9, 9, none, 0, []⟩ : ArgL) :: cs).map ArgL.v)[i]? = some c.v := by rw [List.getElem?_map, hic]; rfl
      exact this
    obtain ⟨q0, q1, q2⟩ := flat_get _ i c.v hic'
    have p0 := hcell _ _ q0
    have p1 := hcell _ _ q1
    have p2 := hcell _ _ q2
    rw [addr_add, Nat.zero_add] at p0 p1 p2
    exact ⟨p0, p1, p2⟩

/-- What holds of the bag while its letters are looked at and moved. -/
structure MovI (W : World) (L2 lb : Nat) (rowb : Option Obj) (ks : List (Int × Int × List UInt8)) (wr : World) : Prop where
  bag : ∃ v lv, Bag L2 W.heap.size 1024 v lv wr ∧ lv.map LetV.k = ks
  below : Below W.heap.size W wr
  row : wr.heap[lb]? = rowb
  size : L2 ≤ wr.heap.size
theorem MovI.up {W : World} {L2 lb : Nat} {rowb : Option Obj} {ks : List (Int × Int × List UInt8)} {wr w' : World} (h : MovI W L2 lb rowb ks wr) (hl : lb < L2) (hb : Below wr.heap.size wr w') : MovI W L2 lb rowb ks w' := by
  obtain ⟨v, lv, hB, hk⟩ := h.bag
  have hs := h.size
  have hz := h.below.size
  exact ⟨⟨v, lv, hB.below hb, hk⟩, h.below.trans (hb.mono hz), (hb.block lb (by omega)).trans h.row, Nat.le_trans hs hb.size⟩
theorem MovI.step {W : World} {L2 lb : Nat} {rowb : Option Obj} {ks : List (Int × Int × List UInt8)} {wr w' : World} {v v' : Value} {lv lv' : List LetV} (h : MovI W L2 lb rowb ks wr) (hl : lb < L2) (hne : lb ≠ W.heap.size) (hB : Bag L2 W.heap.size 1024 v lv wr) (hW : W.heap.size ≤ L2) (hB' : Bag L2 W.heap.size 1024 v' lv' w') (hst : Stp W.heap.size v v' wr w') : MovI W L2 lb rowb (lv'.map LetV.k) w' := by
  have hs := h.size
  refine ⟨⟨v', lv', hB', rfl⟩, h.below.trans (hst.below h.below.size (Nat.le_refl _) fun j hj => ?_), (hst.block lb (by omega) hne fun e => ?_).trans h.row, Nat.le_trans hs hst.size⟩
  · have := (hB.own.lt j hj).1; omega
  · have := (hB.own.lt lb e).1; omega

/- The lists. -/
section
variable {α : Type}
theorem ins_at (l : List α) (j : Nat) (a : α) (h : j ≤ l.length) : (l.insertIdx j a)[j]? = some a := by
  rw [insert_split _ _ _ h, List.getElem?_append_right (by simp; omega)]
  simp [Nat.min_eq_left h]
theorem ins_low (l : List α) (j k : Nat) (a : α) (h : j ≤ l.length) (hk : k < j) : (l.insertIdx j a)[k]? = l[k]? := by
  rw [insert_split _ _ _ h, List.getElem?_append_left (by simp; omega), List.getElem?_take, if_pos hk]
theorem ins_high (l : List α) (j k : Nat) (a : α) (h : j ≤ l.length) (hk : j < k) : (l.insertIdx j a)[k]? = l[k - 1]? := by
  obtain ⟨m, rfl⟩ : ∃ m, k = j + (m + 1) := ⟨k - j - 1, by omega⟩
  have hl : (l.take j).length = j := by simp; omega
  rw [insert_split _ _ _ h, List.getElem?_append_right (by omega), hl, show j + (m + 1) - j = m + 1 from by omega, List.getElem?_cons_succ, List.getElem?_drop, show j + (m + 1) - 1 = j + m from by omega]
theorem er_low (l : List α) (i k : Nat) (hk : k < i) : (l.eraseIdx i)[k]? = l[k]? := by
  rw [List.getElem?_eraseIdx, if_pos hk]
theorem er_high (l : List α) (i k : Nat) (hk : i ≤ k) : (l.eraseIdx i)[k]? = l[k + 1]? := by
  rw [List.getElem?_eraseIdx, if_neg (by omega)]
theorem er_len (l : List α) (i : Nat) (h : i < l.length) : (l.eraseIdx i).length + 1 = l.length := by
  rw [List.length_eraseIdx, if_pos h]; omega
theorem ins_len (l : List α) (i : Nat) (a : α) (h : i ≤ l.length) : (l.insertIdx i a).length = l.length + 1 := by
  rw [insert_split _ _ _ h]; simp; omega
theorem moved_back (l : List α) (i j : Nat) (a : α) (hi : l[i]? = some a) (hj : j < l.length) : ((((l.eraseIdx i).insertIdx j a).eraseIdx j).insertIdx i a) = l := by
  have hil := (List.getElem?_eq_some_iff.1 hi).1
  have e1 := er_len l i hil
  have e2 : ((l.eraseIdx i).insertIdx j a).eraseIdx j = l.eraseIdx i := by
    apply List.ext_getElem?
    intro k
    by_cases hk : k < j
    · rw [er_low _ _ _ hk, ins_low _ _ _ _ (by omega) hk]
    · rw [er_high _ _ _ (by omega), ins_high _ _ _ _ (by omega) (by omega), Nat.add_sub_cancel]
  rw [e2]
  apply List.ext_getElem?
  intro k
  rcases Nat.lt_trichotomy k i with hk | rfl | hk
  · rw [ins_low _ _ _ _ (by omega) hk, er_low _ _ _ hk]
  · rw [ins_at _ _ _ (by omega), hi]
  · rw [ins_high _ _ _ _ (by omega) hk, er_high _ _ _ (by omega), show k - 1 + 1 = k from by omega]
theorem map_er (f : α → Int × Int × List UInt8) (l : List α) (i : Nat) : (l.eraseIdx i).map f = (l.map f).eraseIdx i := by
  simp [erase_split, List.map_take, List.map_drop]
theorem map_ins (f : α → Int × Int × List UInt8) (l : List α) (i : Nat) (a : α) (h : i ≤ l.length) : (l.insertIdx i a).map f = (l.map f).insertIdx i (f a) := by
  rw [insert_split _ _ _ h, insert_split _ _ _ (by simpa using h)]
  simp [List.map_take, List.map_drop]
end
end Go.Proofs.Ytehjdkdoalmaeaa
