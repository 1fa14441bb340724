import Derived.Test.YtadfmnlkfcigoaaEn
namespace Go.Proofs.Ytadfmnlkfcigoaa
open Go.RowKit Go.PlainAid Go.MapKept
set_option linter.unusedVariables false
set_option linter.unusedSimpArgs false
set_option maxRecDepth 100000 in
set_option maxHeartbeats 1600000 in
theorem seatOf_blk {cb : Nat} {rep : Int} {C : Array Value} {T : TypeId} (s : Int) (w : World) (hB : Blk w cb C T) (hC : C[0]? = some (.int .i64 rep)) (hr : 2 ≤ rep ∧ rep ≤ 16) (hs : In64 s) :
    Calls Try.prog 20 #[.pointer (some ⟨cb, 0, none⟩), .int .i64 s] w fun e w' => e = .returned (callV (Int.tmod s rep, Int.tdiv s rep)) ∧ Below w.heap.size w w' := by
  have e1 := wrap_mod (s := s) hr
  have e2 := wrap_div hs hr
  have c0 : w.cell? ⟨cb, 0, none⟩ = some (.int .i64 rep) := (hB.cell 0).trans hC
  have d0 : (w.alloc (.cells #[.int .i64 0, .int .i64 0] 69)).cell? ⟨cb, 0, none⟩ = some (.int .i64 rep) := (((Below.refl _ w).alloc (Nat.le_refl _) _).cell (p := ⟨cb, 0, none⟩) hB.lt).trans c0
  have hne : rep ≠ 0 := by omega
  have hz := zero69
  unfold callV
  clear hB hC hs
  go_enter Try.func20, Try.ntmps20
  go_wp2_with fail
  go_region
  rename_i K hK
  refine hK _ _ ?_
  go_wp2_with fail
  refine bodyPost_ret (results_cell_row Try.results20 _ _ w.heap.size 69 #[.int .i64 (Int.tmod s rep), .int .i64 (Int.tdiv s rep)] (0, 0) _ rfl (heap_alloc_new w _) Try.underlying69 rfl (by kernel_rfl)) rfl ?_
  exact ⟨rfl, (((Below.refl _ w).alloc (Nat.le_refl _) _)).drew⟩
def zc (room : Int) : Array Value := Array.replicate 65 (.int .i64 0) ++ #[.int .i64 room, .int .i64 0, .int .i64 0]
theorem hc_zero (room : Nat) : HC (zc room) 0 (fun _ => zrp) room 0 0 := by
  refine ⟨rfl, rfl, fun k t u hk hu => ?_, rfl, rfl, rfl⟩
  have ht := rpv_lt hu
  unfold zc
  rw [Array.getElem?_append_left (by simp; omega), Array.getElem?_replicate, if_pos (by omega)]
  rw [← hu]
  rcases (show t = 0 ∨ t = 1 ∨ t = 2 ∨ t = 3 by omega) with rfl | rfl | rfl | rfl <;> rfl
theorem build65 (room : Int) (ev : Operand → Value) (o : Oper) (x : Operand) (ho : o.op = .build 65 #[(1, x)]) (hx : ev x = .int .i64 room) (w : World) : (execOp ev o).run Try.prog w = .ok (.value (.agg (Array.replicate 64 (.int .i64 0) ++ #[.int .i64 room, .int .i64 0, .int .i64 0]))) w := by
  simp only [execOp, ho]
  simp only [List.map_toArray, List.map_cons, List.map_nil, hx]
  kernel_rfl
theorem build67 (room : Int) (ev : Operand → Value) (o : Oper) (x : Operand) (ho : o.op = .build 67 #[(1, x)]) (hx : ev x = .agg (Array.replicate 64 (.int .i64 0) ++ #[.int .i64 room, .int .i64 0, .int .i64 0])) (w : World) : (execOp ev o).run Try.prog w = .ok (.value (.agg (zc room))) w := by
  simp only [execOp, ho]
  simp only [List.map_toArray, List.map_cons, List.map_nil, hx]
  kernel_rfl
theorem box67 (room : Int) (ev : Operand → Value) (o : Oper) (x : Operand) (ho : o.op = .box 67 x) (hx : ev x = .agg (zc room)) (w : World) : (execOp ev o).run Try.prog w = .ok (.value (.pointer (some ⟨w.heap.size, 0, none⟩))) (w.alloc (.cells (zc room) 67)) := by
  simp only [execOp, ho, hx]
  first | rfl | (simp [go_sem]; done) | kernel_rfl
end Go.Proofs.Ytadfmnlkfcigoaa
