import Derived.Test.YtehjdkdoalmaeaaFun
import Derived.Laws.CopyRow
namespace Go.Proofs.Ytehjdkdoalmaeaa
open Go.RowKit Go.PlainAid
set_option linter.unusedVariables false
set_option linter.unusedSimpArgs false

/-- The letters from the l-th on, of a row. -/
def from_ (g n cap l : Nat) : Value := .slice (if cap = l then some ⟨g, 0, none⟩ else some ⟨g, l * 3, none⟩) (n - l) (cap - l)
theorem size31 : (Try.prog.info? 31).map (·.size) = some 3 := by kernel_rfl
theorem run_size31 (w : World) : (sizeOf 31).run Try.prog w = .ok 3 w := by
  cases hq : Try.prog.info? 31 with
  | none => have := size31; rw [hq] at this; cases this
  | some i =>
    have hi : i.size = 3 := by have := size31; rw [hq] at this; simpa using this
    simp [sizeOf, typeInfo, hq, hi]
theorem slice_from (g n cap l : Nat) (h : l ≤ n) (hc : n ≤ cap) (w : World) : (Instr.sliceAt 22 (.slice (some ⟨g, 0, none⟩) n cap) (some (.int .i64 (l : Nat))) none none).run Try.prog w = .ok (from_ g n cap l) w := by
  have hb : (Instr.sliceBound (.int .i64 (l : Nat)) n .sliceB).run Try.prog w = .ok l w := by
    rw [run_sliceBound (P := Try.prog) w .i64 (l : Nat) n .sliceB (by omega) (by omega)]
    simp
  simp only [Instr.sliceAt, Instr.slice, Instr.sliceBounds, Sem.run_bind, run_underlying Try.underlying22, Result.andThen_ok, Sem.run_pure, Option.isSome_none, Bool.false_eq_true, if_false, hb, run_size31]
  simp only [from_, Option.map_some, addr_add, Nat.zero_add]
theorem slice_to (g n cap l : Nat) (hl : l ≤ cap) (w : World) : (Instr.sliceAt 22 (.slice (some ⟨g, 0, none⟩) n cap) none (some (.int .i64 (l : Nat))) none).run Try.prog w = .ok (.slice (some ⟨g, 0, none⟩) l cap) w := by
  have hb : (Instr.sliceBound (.int .i64 (l : Nat)) cap .sliceAcap).run Try.prog w = .ok l w := by
    rw [run_sliceBound (P := Try.prog) w .i64 (l : Nat) cap .sliceAcap (by omega) (by omega)]
    simp
  simp only [Instr.sliceAt, Instr.slice, Instr.sliceBounds, Sem.run_bind, run_underlying Try.underlying22, Result.andThen_ok, Sem.run_pure, if_true, hb, run_size31]
  simp only [Option.map_some, addr_add, Nat.zero_mul, Nat.add_zero, Nat.sub_zero, ite_self]
def over (cur : Array Value) (o : Nat) (cs : List Value) : Array Value := (cur.toList.take o ++ cs ++ cur.toList.drop (o + cs.length)).toArray
theorem over_size (cur : Array Value) (o : Nat) (cs : List Value) (h : o + cs.length ≤ cur.size) : (over cur o cs).size = cur.size := by
  simp [over]; omega
theorem flat_ones (ls : List LetV) (h : ∀ l ∈ ls, l.d.oneCell' = true) : ∀ u ∈ flat ls, u.oneCell' = true := by
  induction ls with
  | nil => intro u hu; cases hu
  | cons l ls ih =>
    intro u hu
    simp only [flat, List.mem_cons] at hu
    rcases hu with rfl | rfl | rfl | hu
    · rfl
    · rfl
    · exact h l (by simp)
    · exact ih (fun x hx => h x (by simp [hx])) u hu
/-- 'copy' within a row of letters, or into it. -/
theorem copy3 {w : World} {g : Nat} {cur : Array Value} (hR : Blk w g cur 31) (o dLen dCap sLen sCap m : Nat) (ao : Option Addr) (xs : List LetV) (hm : Nat.min sLen dLen = m) (hx : xs.length = m) (hfit : o + m * 3 ≤ cur.size)
    (hsrc : 0 < m → ∃ ad, ao = some ad ∧ ∀ j u, (flat xs)[j]? = some u → w.cell? (ad.add j) = some u) (h1 : ∀ l ∈ xs, l.d.oneCell' = true) (ty : TypeId) :
    (Builtin.copy_ #[22, 22] ty #[.slice (some ⟨g, o, none⟩) dLen dCap, .slice ao sLen sCap]).run Try.prog w = .ok (.int .i64 (m : Nat)) (w.setRow g (over cur o (flat xs))) := by
  have hfl : (flat xs).length = m * 3 := by rw [flat_len, hx]
  have hst := run_storeCells_at Try.prog g o 31 (flat xs) 0 cur w hR (by rw [hfl]; omega) (flat_ones xs h1)
  simp only [Nat.add_zero] at hst
  have e : ∀ cs : Array Value, cs.toList = flat xs → (Builtin.firstCells 3 m (.slice ao sLen sCap)).run Try.prog w = .ok cs w → (Builtin.copy_ #[22, 22] ty #[.slice (some ⟨g, o, none⟩) dLen dCap, .slice ao sLen sCap]).run Try.prog w = .ok (.int .i64 (m : Nat)) (w.setRow g (over cur o (flat xs))) := fun cs hcs hf => by
    simp only [Builtin.copy_, List.getElem?_toArray, List.getElem?_cons_zero, List.getElem?_cons_succ, Sem.run_bind, run_underlying Try.underlying22, Result.andThen_ok, Builtin.lenOf, Sem.run_pure, hm, run_size31, hf, hcs, hst]
    rfl
  by_cases h0 : 0 < m
  · obtain ⟨ad, rfl, hc⟩ := hsrc h0
    refine e (flat xs).toArray (by simp) ?_
    have hl := run_loadCells_list (P := Try.prog) w ad (flat xs) hc
    simp only [Builtin.firstCells]
    rw [← hfl]
    exact hl
  · obtain rfl : m = 0 := by omega
    obtain rfl : xs = [] := List.eq_nil_of_length_eq_zero hx
    refine e #[] rfl ?_
    cases ao with
    | none => rfl
    | some ad => rfl
theorem run_zero31 (w : World) : (zeroValue 31).run Try.prog w = .ok (.agg #[.int .i64 0, .int .i64 0, .slice none 0 0]) w := by
  obtain ⟨i0, hi, hz0, _, _⟩ := info_parts Try.info31
  simp [zeroValue, typeInfo, hi, hz0]
/-- 'clear' of the last one. -/
theorem clear3 {w : World} {g : Nat} {cur : Array Value} (hR : Blk w g cur 31) (o c : Nat) (hfit : o + 3 ≤ cur.size) (ty : TypeId) :
    (Builtin.clear_ #[22] ty #[.slice (some ⟨g, o, none⟩) 1 c]).run Try.prog w = .ok (.tuple #[]) (w.setRow g (over cur o [.int .i64 0, .int .i64 0, .slice none 0 0])) := by
  have hst := run_storeCells_at Try.prog g o 31 [.int .i64 0, .int .i64 0, .slice none 0 0] 0 cur w hR (by simpa using hfit) (by simp [Value.oneCell'])
  simp only [Nat.add_zero] at hst
  have hz : (Builtin.zeroCells (Value.agg #[.int .i64 0, .int .i64 0, .slice none 0 0]).cells 1).toList = [.int .i64 0, .int .i64 0, .slice none 0 0] := by kernel_rfl
  simp only [Builtin.clear_, List.getElem?_toArray, List.getElem?_cons_zero, Sem.run_bind, run_underlying Try.underlying22, Result.andThen_ok, Sem.run_pure, run_zero31, hz, hst]
  rfl
theorem over_take (cur : Array Value) (o n : Nat) (cs : List Value) (h1 : o ≤ cur.size) (h2 : o ≤ n) (h3 : n ≤ o + cs.length) : (over cur o cs).toList.take n = cur.toList.take o ++ cs.take (n - o) := by
  have hl : (cur.toList.take o).length = o := by simp; omega
  simp only [over, List.append_assoc]
  rw [List.take_append, hl, List.take_of_length_le (by rw [hl]; exact h2), List.take_append_of_le_length (by omega)]
theorem over_take_low (cur : Array Value) (o n : Nat) (cs : List Value) (h1 : o ≤ cur.size) (h2 : n ≤ o) : (over cur o cs).toList.take n = cur.toList.take n := by
  simp only [over, List.append_assoc]
  rw [List.take_append_of_le_length (by simp; omega), List.take_take, Nat.min_eq_left h2]
theorem erase_split {α : Type} (ls : List α) (i : Nat) : ls.eraseIdx i = ls.take i ++ ls.drop (i + 1) := List.eraseIdx_eq_take_drop_succ ls i
end Go.Proofs.Ytehjdkdoalmaeaa
