import Derived.Test.YtfgnlfemckdfnaaBare1a
import Derived.Test.YtfgnlfemckdfnaaBare1b
import Derived.Test.YtfgnlfemckdfnaaBare1c
import Derived.Test.YtfgnlfemckdfnaaBare1d
namespace Go.Proofs.Ytfgnlfemckdfnaa
open Go.RowKit Go.PlainAid
def bit (has k : Int) : Bool := bits .and .u64 has k != 0
def bareB (m : Msg) (nv : Nat) (has : Int) : Bool :=
  (((((((((((m.value == 0) && (bit has 1 || (m.session == 0 && m.id == 0))) && (bit has 2 || (m.okind == 0 && (m.oname == [] && (m.oa == 0 && m.ob == 0))))) && (bit has 4 || (m.name == []))) && (bit has 8 || (m.err == 0))) && (bit has 16 || (m.cap == 0 && m.recaps == 0)))
    && (bit has 32 || (m.round == 0 && m.rank == 0))) && (bit has 64 || (m.down == 0 && m.up == 0))) && (bit has 128 || (m.held == 0))) && (bit has 256 || (m.oround == 0 && m.orank == 0))) && (bit has 512 || ((nv : Int) == 0)))
theorem run_box (cs : Array Value) (w : World) (_h : cs.size = 20) : (Instr.box 35 (.agg cs)).run Try.prog w = .ok (.pointer (some ⟨w.heap.size, 0, none⟩)) (w.alloc (.cells cs 35)) := by
  simp [go_sem]
theorem run_alloc35 (w : World) : (Instr.alloc 35 true (.tuple #[])).run Try.prog w = .ok (.pointer (some ⟨w.heap.size, 0, none⟩)) (w.alloc (.cells zeroC 35)) := by
  simp [go_sem]
  rfl
theorem run_build35 (w : World) : (Instr.build 35 #[]).run Try.prog w = .ok (.agg zeroC) w := by
  simp [go_sem]
  rfl
section
variable {ops : Array Oper} {Q : Exit → Act → World → Prop} {a : Act} {w w' : World} {rest : List Oper} {o : Oper} {f : Nat → Value} {N d : Nat}
theorem sw (hF : Fr N a f) (hd : o.dst = some d) (hN : d < N) (hw : Region.wanted o (yielded ops a.tmps) = true) {v : Value} (hr : (execOp a.eval o).run Try.prog w = .ok (.value v) w') (h : ∀ a', Fr N a' (upd f d v) → wpList Try.prog ops Q rest a' w') : wpList Try.prog ops Q (o :: rest) a w :=
  wpList_step fun K hK => by
    rw [if_pos hw]
    unfold Oper.wp
    rw [hr]
    exact hK _ _ (by rw [hd]; exact h _ (hF.put d v hN))
theorem su (hd : o.dst = none) (hw : Region.wanted o (yielded ops a.tmps) = true) (hr : (execOp a.eval o).run Try.prog w = .ok .skip w') (h : wpList Try.prog ops Q rest a w') : wpList Try.prog ops Q (o :: rest) a w :=
  wpList_step fun K hK => by
    rw [if_pos hw]
    unfold Oper.wp
    rw [hr]
    exact hK _ _ (by rw [hd]; exact h)
end
theorem frame_init (x y : Value) (n : Nat) : Fr (n + 2) { tmps := #[x, y] ++ Array.replicate n undef, defers := [] } (fun j => if j = 0 then x else if j = 1 then y else undef) := by
  refine ⟨by simp; omega, rfl, fun j hj => ?_⟩
  by_cases h0 : j = 0
  · subst h0; rw [Array.getElem?_append_left (by simp)]; rfl
  · by_cases h1 : j = 1
    · subst h1; rw [Array.getElem?_append_left (by simp)]; rfl
    · rw [if_neg h0, if_neg h1, Array.getElem?_append_right (by simp; omega), Array.getElem?_replicate, if_pos (by simp; omega)]
set_option maxRecDepth 100000 in
set_option maxHeartbeats 800000 in
theorem bare_any (m : Msg) (ao : Option Addr) (nv cv : Nat) (has : Int) (w : World) :
    Calls Try.prog 36 #[.agg (msgCells m (.slice ao nv cv)), .int .u64 has] w fun e w' => e = .returned (.bool (bareB m nv has)) ∧ Below w.heap.size w w' := by
  refine calls_of_wp Try.func36 rfl ?_
  have e : Try.f36.ntmps - (#[Value.agg (msgCells m (.slice ao nv cv)), .int .u64 has] : Array Value).size = 114 := by rw [Try.ntmps36]; rfl
  rw [e]
  have hF := frame_init (.agg (msgCells m (.slice ao nv cv))) (.int .u64 has) 114
  generalize ({ tmps := #[Value.agg (msgCells m (.slice ao nv cv)), .int .u64 has] ++ Array.replicate 114 undef, defers := [] } : Act) = a at *
  have hsz : (msgCells m (.slice ao nv cv)).size = 20 := rfl
  have hbl : Below w.heap.size w ((w.alloc (.cells (msgCells m (.slice ao nv cv)) 35)).alloc (.cells zeroC 35)) := by go_grown
  have hM : Blk ((w.alloc (.cells (msgCells m (.slice ao nv cv)) 35)).alloc (.cells zeroC 35)) w.heap.size (msgCells m (.slice ao nv cv)) 35 := (Below.heap_alloc _ _ _ (by simp)).trans (heap_alloc_new w _)
  have hZ : Blk ((w.alloc (.cells (msgCells m (.slice ao nv cv)) 35)).alloc (.cells zeroC 35)) (w.heap.size + 1) zeroC 35 := by
    have := heap_alloc_new (w.alloc (.cells (msgCells m (.slice ao nv cv)) 35)) (.cells zeroC 35)
    rw [World.size_alloc] at this
    exact this
  refine wp_seq ?_
  refine wp_region_list ?_
  refine sw hF rfl (by omega) (wanted_none rfl) (v := .pointer (some ⟨w.heap.size, 0, none⟩)) (w' := w.alloc (.cells (msgCells m (.slice ao nv cv)) 35)) (by simp only [execOp, hF.eval 0 (by omega), if_true, Sem.run_bind, run_box _ _ hsz]; rfl) fun a1 hF1 => ?_
  refine sy hF1 rfl (by omega) (wanted_none rfl) (v := .bool false) (by simp [execOp, Act.eval]) fun a2 hF2 => ?_
  refine wpList_nil ?_
  show Code.wp _ _ _ _ _
  refine wp_seq ?_
  refine wp_region_list ?_
  refine sy hF2 rfl (by omega) (wanted_none rfl) (v := .agg zeroC) (by simp [execOp, run_build35]) fun a3 hF3 => ?_
  refine sw hF3 rfl (by omega) (wanted_none rfl) (v := .pointer (some ⟨w.heap.size + 1, 0, none⟩)) (w' := (w.alloc (.cells (msgCells m (.slice ao nv cv)) 35)).alloc (.cells zeroC 35)) (by simp only [execOp]; rw [Sem.run_bind, run_alloc35, World.size_alloc]; rfl) fun a4 hF4 => ?_
  generalize (w.alloc (.cells (msgCells m (.slice ao nv cv)) 35)).alloc (.cells zeroC 35) = w2 at *
  generalize hL : w.heap.size = L at *
  refine su rfl (wanted_none rfl) (w' := w2.setRow (L + 1) zeroC) (by
    simp only [execOp, hF4.eval 5 (by omega), hF4.eval 6 (by omega)]
    simp only [upd, Nat.reduceEqDiff, if_true, if_false, Instr.storeAt, Instr.sureAddr, Sem.run_bind, Sem.run_pure, Result.andThen_ok, run_storeVar_row (P := Try.prog) w2 (L + 1) 35 35 zeroC zeroC hZ (by kernel_rfl) rfl (by kernel_rfl)]) ?_
  refine wpList_nil ?_
  have hM3 : Blk (w2.setRow (L + 1) zeroC) L (msgCells m (.slice ao nv cv)) 35 := (setRow_other _ _ _ _ (by omega)).trans hM
  have hZ3 : Blk (w2.setRow (L + 1) zeroC) (L + 1) zeroC 35 := setRow_heap _ _ _ _ _ _ hZ
  have hB3 : Below L w (w2.setRow (L + 1) zeroC) := hbl.trans ⟨rfl, rfl, rfl, by simp [World.setRow], fun k hk => setRow_other _ _ _ _ (by omega)⟩
  clear hM hZ hbl
  have hM := hM3
  have hZ := hZ3
  clear hM3 hZ3
  generalize w2.setRow (L + 1) zeroC = w3 at *
  have h1 : (upd (upd (upd (upd (fun j => if j = 0 then Value.agg (msgCells m (.slice ao nv cv)) else if j = 1 then .int .u64 has else undef) 2 (.pointer (some ⟨L, 0, none⟩))) 4 (.bool false)) 6 (.agg zeroC)) 5 (.pointer (some ⟨L + 1, 0, none⟩))) 1 = .int .u64 has := by simp [upd]
  have h2 : (upd (upd (upd (upd (fun j => if j = 0 then Value.agg (msgCells m (.slice ao nv cv)) else if j = 1 then .int .u64 has else undef) 2 (.pointer (some ⟨L, 0, none⟩))) 4 (.bool false)) 6 (.agg zeroC)) 5 (.pointer (some ⟨L + 1, 0, none⟩))) 2 = .pointer (some ⟨L, 0, none⟩) := by simp [upd]
  have h5 : (upd (upd (upd (upd (fun j => if j = 0 then Value.agg (msgCells m (.slice ao nv cv)) else if j = 1 then .int .u64 has else undef) 2 (.pointer (some ⟨L, 0, none⟩))) 4 (.bool false)) 6 (.agg zeroC)) 5 (.pointer (some ⟨L + 1, 0, none⟩))) 5 = .pointer (some ⟨L + 1, 0, none⟩) := by simp [upd]
  generalize upd (upd (upd (upd (fun j => if j = 0 then Value.agg (msgCells m (.slice ao nv cv)) else if j = 1 then .int .u64 has else undef) 2 (.pointer (some ⟨L, 0, none⟩))) 4 (.bool false)) 6 (.agg zeroC)) 5 (.pointer (some ⟨L + 1, 0, none⟩)) = f at *
  clear hF hF1 hF2 hF3
  have c18 : w3.cell? ⟨L, 18, none⟩ = some (.int .i64 m.value) := by rw [hM.cell]; rfl
  show Code.wp _ _ _ _ _
  refine wp_seq ?_
  refine wp_region_list ?_
  refine sy hF4 rfl (by omega) (wanted_none rfl) (v := .pointer (some ⟨L, 18, none⟩)) (by simp only [execOp, hF4.eval 2 (by omega), h2]; simp [go_sem]) fun a5 hF5 => ?_
  refine sy hF5 rfl (by omega) (wanted_none rfl) (v := .int .i64 m.value) (by simp only [execOp, hF5.eval 7 (by omega)]; simp [upd, go_sem, c18]) fun a6 hF6 => ?_
  refine sy hF6 rfl (by omega) (wanted_none rfl) (v := .bool (m.value == 0)) (by simp only [execOp, hF6.eval 8 (by omega)]; simp [upd, go_sem, Act.eval]) fun a7 hF7 => ?_
  replace h1 : (upd (upd (upd f 7 (.pointer (some ⟨L, 18, none⟩))) 8 (.int .i64 m.value)) 9 (.bool (m.value == 0))) 1 = .int .u64 has := by simp [upd, h1]
  replace h2 : (upd (upd (upd f 7 (.pointer (some ⟨L, 18, none⟩))) 8 (.int .i64 m.value)) 9 (.bool (m.value == 0))) 2 = .pointer (some ⟨L, 0, none⟩) := by simp [upd, h2]
  replace h5 : (upd (upd (upd f 7 (.pointer (some ⟨L, 18, none⟩))) 8 (.int .i64 m.value)) 9 (.bool (m.value == 0))) 5 = .pointer (some ⟨L + 1, 0, none⟩) := by simp [upd, h5]
  have hp : (upd (upd (upd f 7 (.pointer (some ⟨L, 18, none⟩))) 8 (.int .i64 m.value)) 9 (.bool (m.value == 0))) 9 = .bool (m.value == 0) := by simp [upd]
  generalize upd (upd (upd f 7 (.pointer (some ⟨L, 18, none⟩))) 8 (.int .i64 m.value)) 9 (.bool (m.value == 0)) = f7 at *
  clear hF4 hF5 hF6 c18
  have hF := hF7
  clear hF7
  refine ck_call _ _ _ _ _ w3 hF L (L + 1) has _ m.session m.id h1 h2 h5 hp rfl rfl (by rw [hM.cell]; rfl) (by rw [hM.cell]; rfl) (by rw [hZ.cell]; rfl) (by rw [hZ.cell]; rfl) ?_
  intro a f hF h1 h2 h5 hp
  refine ck_op _ _ _ _ _ w3 hF L (L + 1) has _ m.okind m.oa m.ob m.oname h1 h2 h5 hp rfl rfl (by rw [hM.cell]; rfl) (by rw [hM.cell]; rfl) (by rw [hM.cell]; rfl) (by rw [hM.cell]; rfl) (by rw [hZ.cell]; rfl) (by rw [hZ.cell]; rfl) (by rw [hZ.cell]; rfl) (by rw [hZ.cell]; rfl) ?_
  intro a f hF h1 h2 h5 hp
  refine ck_name _ _ _ _ _ w3 hF L (L + 1) has _  m.name h1 h2 h5 hp rfl rfl (by rw [hM.cell]; rfl) ?_
  intro a f hF h1 h2 h5 hp
  refine ck_err _ _ _ _ _ w3 hF L (L + 1) has _ m.err h1 h2 h5 hp rfl rfl (by rw [hM.cell]; rfl) ?_
  intro a f hF h1 h2 h5 hp
  refine ck_cap _ _ _ _ _ w3 hF L (L + 1) has _ m.cap m.recaps h1 h2 h5 hp rfl rfl rfl (by rw [hM.cell]; rfl) (by rw [hM.cell]; rfl) ?_
  intro a f hF h1 h2 h5 hp
  refine ck_epoch _ _ _ _ _ w3 hF L (L + 1) has _ m.round m.rank h1 h2 h5 hp rfl rfl (by rw [hM.cell]; rfl) (by rw [hM.cell]; rfl) (by rw [hZ.cell]; rfl) (by rw [hZ.cell]; rfl) ?_
  intro a f hF h1 h2 h5 hp
  refine ck_rights _ _ _ _ _ w3 hF L (L + 1) has _ m.down m.up h1 h2 h5 hp rfl rfl (by rw [hM.cell]; rfl) (by rw [hM.cell]; rfl) (by rw [hZ.cell]; rfl) (by rw [hZ.cell]; rfl) ?_
  intro a f hF h1 h2 h5 hp
  refine ck_held _ _ _ _ _ w3 hF L (L + 1) has _ m.held h1 h2 h5 hp rfl rfl (by rw [hM.cell]; rfl) ?_
  intro a f hF h1 h2 h5 hp
  refine ck_over _ _ _ _ _ w3 hF L (L + 1) has _ m.oround m.orank h1 h2 h5 hp rfl rfl (by rw [hM.cell]; rfl) (by rw [hM.cell]; rfl) (by rw [hZ.cell]; rfl) (by rw [hZ.cell]; rfl) ?_
  intro a f hF h1 h2 h5 hp
  refine ck_views _ _ _ _ _ w3 hF L (L + 1) has _  ao nv cv h1 h2 h5 hp rfl rfl (by rw [hM.cell]; rfl) ?_
  intro a f hF h1 h2 h5 hp
  refine sy hF rfl (by omega) (wanted_none rfl) (v := .bool (bareB m nv has)) (by simp only [execOp, hF.eval 115 (by omega), hp]; rfl) fun a8 hF8 => ?_
  refine wpList_nil ?_
  show Code.wp _ _ _ _ _
  refine wp_ret ?_
  have h4 : a8.tmps.getD 4 undef = .bool (bareB m nv has) := by
    have := hF8.eval 4 (by omega)
    simpa [Act.eval, upd] using this
  refine bodyPost_ret (results_tmp Try.results36 _ _ _) hF8.defers ?_
  exact ⟨by rw [h4], hB3⟩
end Go.Proofs.Ytfgnlfemckdfnaa
