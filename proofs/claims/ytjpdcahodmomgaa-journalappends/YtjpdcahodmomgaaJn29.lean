import Derived.Test.YtjpdcahodmomgaaJoinC
import Derived.Test.YtjpdcahodmomgaaJn25
import Derived.BigQuiet
import Derived.Deep.CutRange
namespace Go.Proofs.Ytjpdcahodmomgaa
open Go.RowKit Go.PlainAid
set_option linter.unusedVariables false
set_option linter.unusedSimpArgs false
set_option maxRecDepth 100000
theorem slice38hm (g len cap m : Nat) (h : m ≤ cap) (w : World) : (Instr.sliceAt 38 (.slice (some ⟨g, 0, none⟩) len cap) none (some (.int .i64 (m : Int))) (some (.int .i64 (m : Int)))).run Try.prog w = .ok (.slice (some ⟨g, 0, none⟩) m m) w := by
  have hs : (sizeOf 5).run Try.prog w = .ok 1 w := by kernel_rfl
  have he : Try.prog.elem 38 = 5 := by kernel_rfl
  have hu2 : Try.prog.underlying 38 = some (.slice (Try.prog.elem 38)) := by rw [he]; exact Try.underlying38
  rw [run_sliceAt_slice _ _ _ _ _ _ hu2, run_slice_hm _ _ _ _ _ hu2 .i64 .i64 (m : Int) (m : Int) (by omega) (by omega) (by omega), he, hs]
  simp [Result.andThen, sliced, Addr.add]
theorem recB_more (b : Nat → UInt8) (next i : Nat) : recB b next ((i + 1) * 496) = recB b next (i * 496) ++ ((secL b (next + i)).drop 8).take 496 := by
  apply List.ext_getElem?
  intro j
  by_cases h1 : j < i * 496
  · rw [List.getElem?_append_left (by rw [recB_len]; exact h1), recB, recB, List.getElem?_map, List.getElem?_map, List.getElem?_range (by omega), List.getElem?_range h1]
  · by_cases h2 : j < (i + 1) * 496
    · rw [List.getElem?_append_right (by rw [recB_len]; omega), recB_len, recB, List.getElem?_map, List.getElem?_range h2, List.getElem?_take, if_pos (by omega), List.getElem?_drop, secL_get _ _ _ (by omega)]
      have e1 : j / 496 = i := by omega
      have e2 : j % 496 = j - i * 496 := by omega
      rw [Option.map_some, e1, e2, Nat.add_assoc]
    · rw [List.getElem?_eq_none (by rw [recB_len]; omega), List.getElem?_eq_none (by rw [List.length_append, recB_len, List.length_take, List.length_drop, secL_len]; omega)]
theorem recB_take (b : Nat → UInt8) (next n m : Nat) (h : n ≤ m) : (recB b next m).take n = recB b next n := by
  apply List.ext_getElem?
  intro j
  rw [List.getElem?_take]
  split
  · rw [recB, recB, List.getElem?_map, List.getElem?_map, List.getElem?_range (by omega), List.getElem?_range (by omega)]
  · rw [List.getElem?_eq_none (by rw [recB_len]; omega)]
theorem img_body (x : DV) (i : Nat) (hi : i < x.n) : ((imgL x).drop (i * 512 + 8)).take 496 = ((secL x.b i).drop 8).take 496 := by
  apply List.ext_getElem?
  intro j
  rw [List.getElem?_take, List.getElem?_take]
  split
  · rw [List.getElem?_drop, List.getElem?_drop, imgL_get _ _ (by omega), secL_get _ _ _ (by omega), Nat.add_assoc]
  · rfl
/-- What `stands` tells. -/
def StPost (w : World) (ok : Prop) (bs : List UInt8) (e : Ending) (w' : World) : Prop := (ok → ∃ g, e = .returned (.tuple #[.slice (some ⟨g, 0, none⟩) bs.length bs.length, .bool true]) ∧ w.heap.size ≤ g ∧ g < w'.heap.size ∧ By w' (.slice (some ⟨g, 0, none⟩) bs.length bs.length) bs) ∧ (¬ ok → e = .returned (.tuple #[.slice none 0 0, .bool false])) ∧ Below w.heap.size w w'
set_option maxRecDepth 100000
set_option maxHeartbeats 6400000
theorem stands_far {x : DV} {g c at' num : Nat} (w : World) (hat : x.n ≤ at') (hb : at' ≤ 100000) (hxn : x.n ≤ 65536) : Calls Try.prog 63 #[.slice (some ⟨g, 0, none⟩) (x.n * 512) c, .int .i64 (at' : Int), .int .i64 (num : Int)] w fun e w' => e = .returned (.tuple #[.slice none 0 0, .bool false]) ∧ Below w.heap.size w w' := by
  have hq : Int.tdiv ((x.n * 512 : Nat) : Int) 512 = (x.n : Int) := by rw [Int.tdiv_eq_ediv_of_nonneg (by omega)]; omega
  have hlt : (x.n : Int) - (at' : Int) < 1 := by omega
  go_enter Try.func63, Try.ntmps63
  go_wp2_with fail
  go_ret2
  exact ⟨rfl, Below.refl _ _⟩
end Go.Proofs.Ytjpdcahodmomgaa
