import Derived.Test.YtfgnlfemckdfnaaRefW
namespace Go.Proofs.Ytfgnlfemckdfnaa
open Go.RowKit Go.PlainAid
set_option linter.unusedSimpArgs false
set_option linter.unusedVariables false
section
variable {N : Nat} {a : Act} {f : Nat → Value} {o : Oper} {w : World}
theorem Fr.fa1 (hF : Fr N a f) (w0 : World) {v : Value} (h : f 1 = PW w0 0) (hr : ∀ ev : Operand → Value, ev (.tmp 1) = PW w0 0 → (execOp ev o).run Try.prog w = .ok (.value v) w := by intro ev h; simp only [execOp, h]; simp [go_sem]) (hN : 1 < N := by omega) : (execOp a.eval o).run Try.prog w = .ok (.value v) w := hr _ ((hF.eval 1 hN).trans h)
end
set_option maxRecDepth 100000 in
set_option maxHeartbeats 3200000 in
theorem rvalid1 (m : Msg) (ao : Option Addr) (cv : Nat) (w : World) (D : Array Value) (HD : Hid (msgCells m (.slice ao m.views.length cv) = D)) (hl : m.name.length ≤ 140737488355328) (hol : m.oname.length ≤ 140737488355328) (hsrc : VFrom w ao m.views) (hsb : ∀ b o, ao = some ⟨b, o, none⟩ → 0 < m.views.length → b < w.heap.size) (hnm : ∀ x ∈ m.views, x.name.length ≤ 140737488355328) (hkk : m.kind = 1) (hin : inB m.kind 1 10 = true) (hal : alikeB m (shapeM m) = true) :
    Calls Try.prog 23 #[.agg D] w (fun e w' => e = .returned (.bool (validB m)) ∧ Below w.heap.size w w') := by
  have HV : Hid _ := And.intro hsrc (And.intro hsb hnm)
  clear hsrc hsb hnm
  refine calls_of_wp Try.func23 rfl ?_
  have e : Try.f23.ntmps - (#[Value.agg D] : Array Value).size = 107 := by rw [Try.ntmps23]; rfl
  rw [e]
  have hF0 := frame_init1 (.agg D) 107
  generalize ({ tmps := #[Value.agg D] ++ Array.replicate 107 undef, defers := [] } : Act) = a0 at *
  have hC0 : CC w D (w.alloc (.cells D 35)) := ⟨by go_grown, heap_alloc_new w _⟩
  refine wp_seq (wp_region_list ?_)
  refine sw hF0 rfl (by omega) wn (v := .pointer (some ⟨w.heap.size, 0, none⟩)) (w' := w.alloc (.cells D 35)) (by simp only [execOp, hF0.eval 0 (by omega), if_true, Sem.run_bind, run_box']; rfl) fun a1 F1 => ?_
  refine sz F1 (v := .bool false) (by simp [execOp, Act.eval]) fun a2 F2 => ?_
  refine wpList_nil ?_
  show Code.wp _ _ _ _ _
  refine wp_seq ?_
  refine wp_seq ?_
  generalize w.alloc (.cells D 35) = W0 at *
  refine wp_region_quiet (C := CC w D) (by kernel_rfl) (by kernel_rfl) (by exact hC0.drew) ?_
  refine doneV (t := 2) (v1 := .pointer (some ⟨w.heap.size, 0, none⟩)) (v15 := undef) F2 (by simp [upd]) (by simp [upd]) (upd_eq _ _ _) fun f hF h1 h15 h2 => ?_
  clear hF0 F1 F2 h2
  have hi35 : (Try.prog.info? 35).map (·.size) = some D.size := by rw [← HD.out]; kernel_rfl
  have HS : Hid _ := (show ∀ wr, Calls Try.prog 48 #[.agg D] wr (fun e w' => e = .returned (.agg (msgCells (shapeM m) (.slice (shapeAo m.kind ao) (shapeM m).views.length (shapeCv m.kind cv)))) ∧ Below wr.heap.size wr w') from by rw [← HD.out]; exact fun wr => rshape_any m ao cv wr (by simpa [inB] using hin))
  have HK : Hid _ := (show ∀ wr, Calls Try.prog 47 #[.agg D, .agg (msgCells (shapeM m) (.slice (shapeAo m.kind ao) (shapeM m).views.length (shapeCv m.kind cv)))] wr (fun e w' => e = .returned (.bool (alikeB m (shapeM m))) ∧ Below wr.heap.size wr w') from by rw [← HD.out]; exact fun wr => ralike_any m (shapeM m) ao _ cv _ wr)
  have hinK : inB 1 1 10 = true := by decide
  refine qy hF rfl (by omega) wn (v := (PW w 0)) (fun W hC => by simp only [execOp, hF.ev 1 (v := (PW w 0)) (by simp [upd, h1, h15])]; simp [go_sem]) fun a1 F1 => ?_
  refine qy F1 rfl (by omega) wn (v := .int .i64 m.kind) (fun W hC => by simp only [execOp, F1.ev 3 (v := (PW w 0))]; simp [go_sem, (show W.cell? ⟨w.heap.size, 0, none⟩ = some (.int .i64 m.kind) from (hC.2.cell 0).trans (by rw [← HD.out]; rfl))]) fun a2 F2 => ?_
  refine qc F2 rfl (by omega) wn (k := 46) (args := #[Value.int .i64 m.kind, Value.int .i64 1, Value.int .i64 10]) (v := bT) (fun W hC => by simp only [execOp, resolve, invoke, List.map_toArray, List.map_cons, List.map_nil, F2.ev 4 (v := .int .i64 m.kind)]; simp [go_sem, Act.eval]) (fun wr hC => (rwithin_any m.kind 1 10 wr).mono fun e w' ⟨he, hw⟩ => ⟨by rw [he, hin], by rw [hw]; exact hC⟩) fun a3 F3 => ?_
  refine qy F3 rfl (by omega) wn (v := bF) (fun W hC => by simp only [execOp, F3.ev 5 (v := bT)]; simp [go_sem]) fun a4 F4 => ?_
  refine qy F4 rfl (by omega) wn (v := bF) (fun W hC => by simp only [execOp, F4.ev 6 (v := bF)]; rfl) fun a5 F5 => ?_
  refine qy F5 rfl (by omega) (F5.wg 7 false) (v := .agg D) (fun W hC => by simp only [execOp, F5.ev 1 (v := (PW w 0)) (by simp [upd, h1, h15]), Instr.loadAt, Instr.sureAddr, Sem.run_bind, Sem.run_pure, Result.andThen_ok, run_loadVar_row W w.heap.size 35 35 D (0, 0) _ hC.2 Try.underlying35 rfl hi35]) fun a6 F6 => ?_
  refine qy F6 rfl (by omega) (F6.wg 7 false) (v := .agg D) (fun W hC => by simp only [execOp, F6.ev 1 (v := (PW w 0)) (by simp [upd, h1, h15]), Instr.loadAt, Instr.sureAddr, Sem.run_bind, Sem.run_pure, Result.andThen_ok, run_loadVar_row W w.heap.size 35 35 D (0, 0) _ hC.2 Try.underlying35 rfl hi35]) fun a7 F7 => ?_
  refine qc F7 rfl (by omega) (F7.wg 7 false) (k := 48) (args := #[Value.agg D]) (v := .agg (msgCells (shapeM m) (.slice (shapeAo m.kind ao) (shapeM m).views.length (shapeCv m.kind cv)))) (fun W hC => by simp only [execOp, resolve, invoke, List.map_toArray, List.map_cons, List.map_nil, F7.ev 9 (v := .agg D)]; simp [go_sem, Act.eval]) (fun wr hC => (HS.out wr).mono fun e w' ⟨he, hb⟩ => ⟨he, hC.below hb⟩) fun a8 F8 => ?_
  refine qc F8 rfl (by omega) (F8.wg 7 false) (k := 47) (args := #[Value.agg D, Value.agg (msgCells (shapeM m) (.slice (shapeAo m.kind ao) (shapeM m).views.length (shapeCv m.kind cv)))]) (v := bT) (fun W hC => by simp only [execOp, resolve, invoke, List.map_toArray, List.map_cons, List.map_nil, F8.ev 8 (v := .agg D), F8.ev 10 (v := .agg (msgCells (shapeM m) (.slice (shapeAo m.kind ao) (shapeM m).views.length (shapeCv m.kind cv))))]; simp [go_sem, Act.eval]) (fun wr hC => (HK.out wr).mono fun e w' ⟨he, hb⟩ => ⟨by rw [he, hal], hC.below hb⟩) fun a9 F9 => ?_
  refine qy F9 rfl (by omega) (F9.wg 7 false) (v := bF) (fun W hC => by simp only [execOp, F9.ev 11 (v := bT)]; simp [go_sem]) fun a10 F10 => ?_
  refine qy F10 rfl (by omega) wn (v := bF) (fun W hC => pick_run _ rfl (P := false) (F10.ev 7 (v := bF)) W (by rw [if_neg (by decide)]; exact F10.ev 12 (v := bF))) fun a11 F11 => ?_
  refine wpQuiet_nil fun W hC => ?_
  show Code.wp _ _ _ _ _
  refine doneV (t := 13) (v1 := (PW w 0)) (v15 := undef) (vt := bF) F11 (by simp [upd, h1]) (by simp [upd, h15]) (upd_eq _ _ _) fun f hF h1 h15 hp => ?_
  clear F1 F2 F3 F4 F5 F6 F7 F8 F9 F10 F11
  refine wp_cond_false ((hF.eval 13 (by omega)).trans hp) ?_
  clear hp
  refine wp_skip ?_
  show Code.wp _ _ _ _ _
  refine wp_seq ?_
  refine wp_seq (wp_region_list ?_)
  refine sz hF (v := (PW w 0)) (hF.fa1 w (by simp [upd, h1, h15])) fun a1 F1 => ?_
  have c0 : W.cell? ⟨w.heap.size, 0, none⟩ = some (.int .i64 m.kind) := (hC.2.cell 0).trans (by rw [← HD.out]; rfl)
  refine sz F1 (v := .int .i64 m.kind) (by simp only [execOp, F1.ev 14 (v := (PW w 0))]; simp [go_sem, c0]) fun a2 F2 => ?_
  refine wpList_nil ?_
  show Code.wp _ _ _ _ _
  refine doneV (t := 14) (v1 := (PW w 0)) (v15 := Value.int .i64 m.kind) (vt := (PW w 0)) F2 (by simp [upd, h1]) (by simp [upd]) (by simp [upd]) fun f hF h1 h15 hp => ?_
  clear F1 F2 hp
  refine wp_block ?_
  refine wp_seq (wp_region_list ?_)
  refine sz hF (v := bT) (by simp only [execOp, hF.ev 15 (v := .int .i64 m.kind) (by simp [upd, h1, h15])]; simp [go_sem, Act.eval, hkk]) fun a1 F1 => ?_
  refine sz F1 (v := bT) (by simp only [execOp, F1.ev 17 (v := bT)]; rfl) fun a2 F2 => ?_
  refine wpList_nil ?_
  show Code.wp _ _ _ _ _
  refine doneV (t := 16) (v1 := (PW w 0)) (v15 := Value.int .i64 m.kind) (vt := bT) F2 (by simp [upd, h1]) (by simp [upd, h15]) (by simp [upd]) fun f hF h1 h15 hp => ?_
  clear F1 F2
  refine wp_cond_true ((hF.eval 16 (by omega)).trans hp) ?_
  clear hp
  cases hp1 : callB m.session m.id
  · cases hq1 : opB m.okind m.oname
    · refine wp_seq ?_
      refine wp_region_list ?_
      refine sz hF (v := (PW w 11)) (hF.fa1 w (by simp [upd, h1, h15])) fun a1 F1 => ?_
      have c11 : W.cell? ⟨w.heap.size, 11, none⟩ = some (.int .i64 m.session) := (hC.2.cell 11).trans (by rw [← HD.out]; rfl)
      have c12 : W.cell? ⟨w.heap.size, 12, none⟩ = some (.int .i64 m.id) := (hC.2.cell 12).trans (by rw [← HD.out]; rfl)
      refine sz F1 (v := .agg #[.int .i64 m.session, .int .i64 m.id]) (by simp only [execOp, F1.ev 18 (v := (PW w 11))]; simp [go_sem, c11, c12]) fun a2 F2 => ?_
      refine scC (C := CC w D) F2 rfl (by omega) wn (k := 49) (args := #[Value.agg #[.int .i64 m.session, .int .i64 m.id]]) (v := bF) (by simp only [execOp, resolve, invoke, List.map_toArray, List.map_cons, List.map_nil, F2.ev 19 (v := .agg #[.int .i64 m.session, .int .i64 m.id])]; simp [go_sem, Act.eval]) hC (fun wr hC => (rcall_any m.session m.id wr).mono fun e w' ⟨he, hb⟩ => ⟨by rw [he, hp1], hC.below hb⟩) fun a3 W hC F3 => ?_
      refine sz F3 (v := bF) (F3.mr 20) fun a4 F4 => ?_
      refine sm F4 (F4.wg 21 false) fun a5 F5 => ?_
      refine sm F5 (F5.wg 21 false) fun a6 F6 => ?_
      refine sm F6 (F6.wg 21 false) fun a7 F7 => ?_
      refine sz F7 (v := bF) (pick_run _ rfl (P := false) (F7.ev 21 (v := bF)) W rfl) fun a8 F8 => ?_
      refine sz F8 (v := bF) (by simp only [execOp, F8.ev 25 (v := bF)]; rfl) fun a9 F9 => ?_
      refine wpList_nil ?_
      show Code.wp _ _ _ _ _
      refine wp_ret ?_
      have h2 : a9.tmps.getD 2 undef = bF := by have := F9.eval 2 (by omega); simpa [Act.eval, upd] using this
      have hfin : bodyPost Try.prog Try.f23 (fun e w' => e = .returned (.bool (validB m)) ∧ Below w.heap.size w w') .ret a9 W := bodyPost_ret (results_tmp Try.results23 _ _ _) F9.defers ⟨by rw [h2]; exact ret_bool (by simp [validB, hin, hal, hkk, hasCap, hinK, hp1, hq1]), hC.1⟩
      exact hfin
    · refine wp_seq ?_
      refine wp_region_list ?_
      refine sz hF (v := (PW w 11)) (hF.fa1 w (by simp [upd, h1, h15])) fun a1 F1 => ?_
      have c11 : W.cell? ⟨w.heap.size, 11, none⟩ = some (.int .i64 m.session) := (hC.2.cell 11).trans (by rw [← HD.out]; rfl)
      have c12 : W.cell? ⟨w.heap.size, 12, none⟩ = some (.int .i64 m.id) := (hC.2.cell 12).trans (by rw [← HD.out]; rfl)
      refine sz F1 (v := .agg #[.int .i64 m.session, .int .i64 m.id]) (by simp only [execOp, F1.ev 18 (v := (PW w 11))]; simp [go_sem, c11, c12]) fun a2 F2 => ?_
      refine scC (C := CC w D) F2 rfl (by omega) wn (k := 49) (args := #[Value.agg #[.int .i64 m.session, .int .i64 m.id]]) (v := bF) (by simp only [execOp, resolve, invoke, List.map_toArray, List.map_cons, List.map_nil, F2.ev 19 (v := .agg #[.int .i64 m.session, .int .i64 m.id])]; simp [go_sem, Act.eval]) hC (fun wr hC => (rcall_any m.session m.id wr).mono fun e w' ⟨he, hb⟩ => ⟨by rw [he, hp1], hC.below hb⟩) fun a3 W hC F3 => ?_
      refine sz F3 (v := bF) (F3.mr 20) fun a4 F4 => ?_
      refine sm F4 (F4.wg 21 false) fun a5 F5 => ?_
      refine sm F5 (F5.wg 21 false) fun a6 F6 => ?_
      refine sm F6 (F6.wg 21 false) fun a7 F7 => ?_
      refine sz F7 (v := bF) (pick_run _ rfl (P := false) (F7.ev 21 (v := bF)) W rfl) fun a8 F8 => ?_
      refine sz F8 (v := bF) (by simp only [execOp, F8.ev 25 (v := bF)]; rfl) fun a9 F9 => ?_
      refine wpList_nil ?_
      show Code.wp _ _ _ _ _
      refine wp_ret ?_
      have h2 : a9.tmps.getD 2 undef = bF := by have := F9.eval 2 (by omega); simpa [Act.eval, upd] using this
      have hfin : bodyPost Try.prog Try.f23 (fun e w' => e = .returned (.bool (validB m)) ∧ Below w.heap.size w w') .ret a9 W := bodyPost_ret (results_tmp Try.results23 _ _ _) F9.defers ⟨by rw [h2]; exact ret_bool (by simp [validB, hin, hal, hkk, hasCap, hinK, hp1, hq1]), hC.1⟩
      exact hfin
  · cases hq1 : opB m.okind m.oname
    · refine wp_seq ?_
      refine wp_region_list ?_
      refine sz hF (v := (PW w 11)) (hF.fa1 w (by simp [upd, h1, h15])) fun a1 F1 => ?_
      have c11 : W.cell? ⟨w.heap.size, 11, none⟩ = some (.int .i64 m.session) := (hC.2.cell 11).trans (by rw [← HD.out]; rfl)
      have c12 : W.cell? ⟨w.heap.size, 12, none⟩ = some (.int .i64 m.id) := (hC.2.cell 12).trans (by rw [← HD.out]; rfl)
      refine sz F1 (v := .agg #[.int .i64 m.session, .int .i64 m.id]) (by simp only [execOp, F1.ev 18 (v := (PW w 11))]; simp [go_sem, c11, c12]) fun a2 F2 => ?_
      refine scC (C := CC w D) F2 rfl (by omega) wn (k := 49) (args := #[Value.agg #[.int .i64 m.session, .int .i64 m.id]]) (v := bT) (by simp only [execOp, resolve, invoke, List.map_toArray, List.map_cons, List.map_nil, F2.ev 19 (v := .agg #[.int .i64 m.session, .int .i64 m.id])]; simp [go_sem, Act.eval]) hC (fun wr hC => (rcall_any m.session m.id wr).mono fun e w' ⟨he, hb⟩ => ⟨by rw [he, hp1], hC.below hb⟩) fun a3 W hC F3 => ?_
      refine sz F3 (v := bT) (F3.mr 20) fun a4 F4 => ?_
      refine sy F4 rfl (by omega) (F4.wg 21 true) (v := (PW w 13)) (F4.fa1 w (by simp [upd, h1, h15])) fun a5 F5 => ?_
      have c13 : W.cell? ⟨w.heap.size, 13, none⟩ = some (.int .i64 m.okind) := (hC.2.cell 13).trans (by rw [← HD.out]; rfl)
      have c14 : W.cell? ⟨w.heap.size, 14, none⟩ = some (.string ⟨m.oname.toArray⟩) := (hC.2.cell 14).trans (by rw [← HD.out]; rfl)
      have c15 : W.cell? ⟨w.heap.size, 15, none⟩ = some (.int .i64 m.oa) := (hC.2.cell 15).trans (by rw [← HD.out]; rfl)
      have c16 : W.cell? ⟨w.heap.size, 16, none⟩ = some (.int .i64 m.ob) := (hC.2.cell 16).trans (by rw [← HD.out]; rfl)
      refine sy F5 rfl (by omega) (F5.wg 21 true) (v := .agg #[.int .i64 m.okind, .string ⟨m.oname.toArray⟩, .int .i64 m.oa, .int .i64 m.ob]) (by simp only [execOp, F5.ev 22 (v := (PW w 13))]; simp [go_sem, c13, c14, c15, c16]) fun a6 F6 => ?_
      refine scC (C := CC w D) F6 rfl (by omega) (F6.wg 21 true) (k := 50) (args := #[Value.agg #[.int .i64 m.okind, .string ⟨m.oname.toArray⟩, .int .i64 m.oa, .int .i64 m.ob]]) (v := bF) (by simp only [execOp, resolve, invoke, List.map_toArray, List.map_cons, List.map_nil, F6.ev 23 (v := .agg #[.int .i64 m.okind, .string ⟨m.oname.toArray⟩, .int .i64 m.oa, .int .i64 m.ob])]; simp [go_sem, Act.eval]) hC (fun wr hC => (rop_any m.okind m.oa m.ob m.oname wr hol).mono fun e w' ⟨he, hb⟩ => ⟨by rw [he, hq1], hC.below hb⟩) fun a7 W hC F7 => ?_
      refine sz F7 (v := bF) (pick_run _ rfl (P := true) (F7.ev 21 (v := bT)) W (by rw [if_pos rfl]; exact F7.ev 24 (v := bF))) fun a8 F8 => ?_
      refine sz F8 (v := bF) (by simp only [execOp, F8.ev 25 (v := bF)]; rfl) fun a9 F9 => ?_
      refine wpList_nil ?_
      show Code.wp _ _ _ _ _
      refine wp_ret ?_
      have h2 : a9.tmps.getD 2 undef = bF := by have := F9.eval 2 (by omega); simpa [Act.eval, upd] using this
      have hfin : bodyPost Try.prog Try.f23 (fun e w' => e = .returned (.bool (validB m)) ∧ Below w.heap.size w w') .ret a9 W := bodyPost_ret (results_tmp Try.results23 _ _ _) F9.defers ⟨by rw [h2]; exact ret_bool (by simp [validB, hin, hal, hkk, hasCap, hinK, hp1, hq1]), hC.1⟩
      exact hfin
    · refine wp_seq ?_
      refine wp_region_list ?_
      refine sz hF (v := (PW w 11)) (hF.fa1 w (by simp [upd, h1, h15])) fun a1 F1 => ?_
      have c11 : W.cell? ⟨w.heap.size, 11, none⟩ = some (.int .i64 m.session) := (hC.2.cell 11).trans (by rw [← HD.out]; rfl)
      have c12 : W.cell? ⟨w.heap.size, 12, none⟩ = some (.int .i64 m.id) := (hC.2.cell 12).trans (by rw [← HD.out]; rfl)
      refine sz F1 (v := .agg #[.int .i64 m.session, .int .i64 m.id]) (by simp only [execOp, F1.ev 18 (v := (PW w 11))]; simp [go_sem, c11, c12]) fun a2 F2 => ?_
      refine scC (C := CC w D) F2 rfl (by omega) wn (k := 49) (args := #[Value.agg #[.int .i64 m.session, .int .i64 m.id]]) (v := bT) (by simp only [execOp, resolve, invoke, List.map_toArray, List.map_cons, List.map_nil, F2.ev 19 (v := .agg #[.int .i64 m.session, .int .i64 m.id])]; simp [go_sem, Act.eval]) hC (fun wr hC => (rcall_any m.session m.id wr).mono fun e w' ⟨he, hb⟩ => ⟨by rw [he, hp1], hC.below hb⟩) fun a3 W hC F3 => ?_
      refine sz F3 (v := bT) (F3.mr 20) fun a4 F4 => ?_
      refine sy F4 rfl (by omega) (F4.wg 21 true) (v := (PW w 13)) (F4.fa1 w (by simp [upd, h1, h15])) fun a5 F5 => ?_
      have c13 : W.cell? ⟨w.heap.size, 13, none⟩ = some (.int .i64 m.okind) := (hC.2.cell 13).trans (by rw [← HD.out]; rfl)
      have c14 : W.cell? ⟨w.heap.size, 14, none⟩ = some (.string ⟨m.oname.toArray⟩) := (hC.2.cell 14).trans (by rw [← HD.out]; rfl)
      have c15 : W.cell? ⟨w.heap.size, 15, none⟩ = some (.int .i64 m.oa) := (hC.2.cell 15).trans (by rw [← HD.out]; rfl)
      have c16 : W.cell? ⟨w.heap.size, 16, none⟩ = some (.int .i64 m.ob) := (hC.2.cell 16).trans (by rw [← HD.out]; rfl)
      refine sy F5 rfl (by omega) (F5.wg 21 true) (v := .agg #[.int .i64 m.okind, .string ⟨m.oname.toArray⟩, .int .i64 m.oa, .int .i64 m.ob]) (by simp only [execOp, F5.ev 22 (v := (PW w 13))]; simp [go_sem, c13, c14, c15, c16]) fun a6 F6 => ?_
      refine scC (C := CC w D) F6 rfl (by omega) (F6.wg 21 true) (k := 50) (args := #[Value.agg #[.int .i64 m.okind, .string ⟨m.oname.toArray⟩, .int .i64 m.oa, .int .i64 m.ob]]) (v := bT) (by simp only [execOp, resolve, invoke, List.map_toArray, List.map_cons, List.map_nil, F6.ev 23 (v := .agg #[.int .i64 m.okind, .string ⟨m.oname.toArray⟩, .int .i64 m.oa, .int .i64 m.ob])]; simp [go_sem, Act.eval]) hC (fun wr hC => (rop_any m.okind m.oa m.ob m.oname wr hol).mono fun e w' ⟨he, hb⟩ => ⟨by rw [he, hq1], hC.below hb⟩) fun a7 W hC F7 => ?_
      refine sz F7 (v := bT) (pick_run _ rfl (P := true) (F7.ev 21 (v := bT)) W (by rw [if_pos rfl]; exact F7.ev 24 (v := bT))) fun a8 F8 => ?_
      refine sz F8 (v := bT) (by simp only [execOp, F8.ev 25 (v := bT)]; rfl) fun a9 F9 => ?_
      refine wpList_nil ?_
      show Code.wp _ _ _ _ _
      refine wp_ret ?_
      have h2 : a9.tmps.getD 2 undef = bT := by have := F9.eval 2 (by omega); simpa [Act.eval, upd] using this
      have hfin : bodyPost Try.prog Try.f23 (fun e w' => e = .returned (.bool (validB m)) ∧ Below w.heap.size w w') .ret a9 W := bodyPost_ret (results_tmp Try.results23 _ _ _) F9.defers ⟨by rw [h2]; exact ret_bool (by simp [validB, hin, hal, hkk, hasCap, hinK, hp1, hq1]), hC.1⟩
      exact hfin
set_option maxRecDepth 100000 in
set_option maxHeartbeats 3200000 in
theorem rvalid10 (m : Msg) (ao : Option Addr) (cv : Nat) (w : World) (D : Array Value) (HD : Hid (msgCells m (.slice ao m.views.length cv) = D)) (hl : m.name.length ≤ 140737488355328) (hol : m.oname.length ≤ 140737488355328) (hsrc : VFrom w ao m.views) (hsb : ∀ b o, ao = some ⟨b, o, none⟩ → 0 < m.views.length → b < w.heap.size) (hnm : ∀ x ∈ m.views, x.name.length ≤ 140737488355328) (hkk : m.kind = 10) (hin : inB m.kind 1 10 = true) (hal : alikeB m (shapeM m) = true) :
    Calls Try.prog 23 #[.agg D] w (fun e w' => e = .returned (.bool (validB m)) ∧ Below w.heap.size w w') := by
  have HV : Hid _ := And.intro hsrc (And.intro hsb hnm)
  clear hsrc hsb hnm
  refine calls_of_wp Try.func23 rfl ?_
  have e : Try.f23.ntmps - (#[Value.agg D] : Array Value).size = 107 := by rw [Try.ntmps23]; rfl
  rw [e]
  have hF0 := frame_init1 (.agg D) 107
  generalize ({ tmps := #[Value.agg D] ++ Array.replicate 107 undef, defers := [] } : Act) = a0 at *
  have hC0 : CC w D (w.alloc (.cells D 35)) := ⟨by go_grown, heap_alloc_new w _⟩
  refine wp_seq (wp_region_list ?_)
  refine sw hF0 rfl (by omega) wn (v := .pointer (some ⟨w.heap.size, 0, none⟩)) (w' := w.alloc (.cells D 35)) (by simp only [execOp, hF0.eval 0 (by omega), if_true, Sem.run_bind, run_box']; rfl) fun a1 F1 => ?_
  refine sz F1 (v := .bool false) (by simp [execOp, Act.eval]) fun a2 F2 => ?_
  refine wpList_nil ?_
  show Code.wp _ _ _ _ _
  refine wp_seq ?_
  refine wp_seq ?_
  generalize w.alloc (.cells D 35) = W0 at *
  refine wp_region_quiet (C := CC w D) (by kernel_rfl) (by kernel_rfl) (by exact hC0.drew) ?_
  refine doneV (t := 2) (v1 := .pointer (some ⟨w.heap.size, 0, none⟩)) (v15 := undef) F2 (by simp [upd]) (by simp [upd]) (upd_eq _ _ _) fun f hF h1 h15 h2 => ?_
  clear hF0 F1 F2 h2
  have hi35 : (Try.prog.info? 35).map (·.size) = some D.size := by rw [← HD.out]; kernel_rfl
  have HS : Hid _ := (show ∀ wr, Calls Try.prog 48 #[.agg D] wr (fun e w' => e = .returned (.agg (msgCells (shapeM m) (.slice (shapeAo m.kind ao) (shapeM m).views.length (shapeCv m.kind cv)))) ∧ Below wr.heap.size wr w') from by rw [← HD.out]; exact fun wr => rshape_any m ao cv wr (by simpa [inB] using hin))
  have HK : Hid _ := (show ∀ wr, Calls Try.prog 47 #[.agg D, .agg (msgCells (shapeM m) (.slice (shapeAo m.kind ao) (shapeM m).views.length (shapeCv m.kind cv)))] wr (fun e w' => e = .returned (.bool (alikeB m (shapeM m))) ∧ Below wr.heap.size wr w') from by rw [← HD.out]; exact fun wr => ralike_any m (shapeM m) ao _ cv _ wr)
  have hinK : inB 10 1 10 = true := by decide
  refine qy hF rfl (by omega) wn (v := (PW w 0)) (fun W hC => by simp only [execOp, hF.ev 1 (v := (PW w 0)) (by simp [upd, h1, h15])]; simp [go_sem]) fun a1 F1 => ?_
  refine qy F1 rfl (by omega) wn (v := .int .i64 m.kind) (fun W hC => by simp only [execOp, F1.ev 3 (v := (PW w 0))]; simp [go_sem, (show W.cell? ⟨w.heap.size, 0, none⟩ = some (.int .i64 m.kind) from (hC.2.cell 0).trans (by rw [← HD.out]; rfl))]) fun a2 F2 => ?_
  refine qc F2 rfl (by omega) wn (k := 46) (args := #[Value.int .i64 m.kind, Value.int .i64 1, Value.int .i64 10]) (v := bT) (fun W hC => by simp only [execOp, resolve, invoke, List.map_toArray, List.map_cons, List.map_nil, F2.ev 4 (v := .int .i64 m.kind)]; simp [go_sem, Act.eval]) (fun wr hC => (rwithin_any m.kind 1 10 wr).mono fun e w' ⟨he, hw⟩ => ⟨by rw [he, hin], by rw [hw]; exact hC⟩) fun a3 F3 => ?_
  refine qy F3 rfl (by omega) wn (v := bF) (fun W hC => by simp only [execOp, F3.ev 5 (v := bT)]; simp [go_sem]) fun a4 F4 => ?_
  refine qy F4 rfl (by omega) wn (v := bF) (fun W hC => by simp only [execOp, F4.ev 6 (v := bF)]; rfl) fun a5 F5 => ?_
  refine qy F5 rfl (by omega) (F5.wg 7 false) (v := .agg D) (fun W hC => by simp only [execOp, F5.ev 1 (v := (PW w 0)) (by simp [upd, h1, h15]), Instr.loadAt, Instr.sureAddr, Sem.run_bind, Sem.run_pure, Result.andThen_ok, run_loadVar_row W w.heap.size 35 35 D (0, 0) _ hC.2 Try.underlying35 rfl hi35]) fun a6 F6 => ?_
  refine qy F6 rfl (by omega) (F6.wg 7 false) (v := .agg D) (fun W hC => by simp only [execOp, F6.ev 1 (v := (PW w 0)) (by simp [upd, h1, h15]), Instr.loadAt, Instr.sureAddr, Sem.run_bind, Sem.run_pure, Result.andThen_ok, run_loadVar_row W w.heap.size 35 35 D (0, 0) _ hC.2 Try.underlying35 rfl hi35]) fun a7 F7 => ?_
  refine qc F7 rfl (by omega) (F7.wg 7 false) (k := 48) (args := #[Value.agg D]) (v := .agg (msgCells (shapeM m) (.slice (shapeAo m.kind ao) (shapeM m).views.length (shapeCv m.kind cv)))) (fun W hC => by simp only [execOp, resolve, invoke, List.map_toArray, List.map_cons, List.map_nil, F7.ev 9 (v := .agg D)]; simp [go_sem, Act.eval]) (fun wr hC => (HS.out wr).mono fun e w' ⟨he, hb⟩ => ⟨he, hC.below hb⟩) fun a8 F8 => ?_
  refine qc F8 rfl (by omega) (F8.wg 7 false) (k := 47) (args := #[Value.agg D, Value.agg (msgCells (shapeM m) (.slice (shapeAo m.kind ao) (shapeM m).views.length (shapeCv m.kind cv)))]) (v := bT) (fun W hC => by simp only [execOp, resolve, invoke, List.map_toArray, List.map_cons, List.map_nil, F8.ev 8 (v := .agg D), F8.ev 10 (v := .agg (msgCells (shapeM m) (.slice (shapeAo m.kind ao) (shapeM m).views.length (shapeCv m.kind cv))))]; simp [go_sem, Act.eval]) (fun wr hC => (HK.out wr).mono fun e w' ⟨he, hb⟩ => ⟨by rw [he, hal], hC.below hb⟩) fun a9 F9 => ?_
  refine qy F9 rfl (by omega) (F9.wg 7 false) (v := bF) (fun W hC => by simp only [execOp, F9.ev 11 (v := bT)]; simp [go_sem]) fun a10 F10 => ?_
  refine qy F10 rfl (by omega) wn (v := bF) (fun W hC => pick_run _ rfl (P := false) (F10.ev 7 (v := bF)) W (by rw [if_neg (by decide)]; exact F10.ev 12 (v := bF))) fun a11 F11 => ?_
  refine wpQuiet_nil fun W hC => ?_
  show Code.wp _ _ _ _ _
  refine doneV (t := 13) (v1 := (PW w 0)) (v15 := undef) (vt := bF) F11 (by simp [upd, h1]) (by simp [upd, h15]) (upd_eq _ _ _) fun f hF h1 h15 hp => ?_
  clear F1 F2 F3 F4 F5 F6 F7 F8 F9 F10 F11
  refine wp_cond_false ((hF.eval 13 (by omega)).trans hp) ?_
  clear hp
  refine wp_skip ?_
  show Code.wp _ _ _ _ _
  refine wp_seq ?_
  refine wp_seq (wp_region_list ?_)
  refine sz hF (v := (PW w 0)) (hF.fa1 w (by simp [upd, h1, h15])) fun a1 F1 => ?_
  have c0 : W.cell? ⟨w.heap.size, 0, none⟩ = some (.int .i64 m.kind) := (hC.2.cell 0).trans (by rw [← HD.out]; rfl)
  refine sz F1 (v := .int .i64 m.kind) (by simp only [execOp, F1.ev 14 (v := (PW w 0))]; simp [go_sem, c0]) fun a2 F2 => ?_
  refine wpList_nil ?_
  show Code.wp _ _ _ _ _
  refine doneV (t := 14) (v1 := (PW w 0)) (v15 := Value.int .i64 m.kind) (vt := (PW w 0)) F2 (by simp [upd, h1]) (by simp [upd]) (by simp [upd]) fun f hF h1 h15 hp => ?_
  clear F1 F2 hp
  refine wp_block ?_
  refine wp_seq (wp_region_list ?_)
  refine sz hF (v := bF) (by simp only [execOp, hF.ev 15 (v := .int .i64 m.kind) (by simp [upd, h1, h15])]; simp [go_sem, Act.eval, hkk]) fun a1 F1 => ?_
  refine sz F1 (v := bF) (by simp only [execOp, F1.ev 17 (v := bF)]; rfl) fun a2 F2 => ?_
  refine wpList_nil ?_
  show Code.wp _ _ _ _ _
  refine doneV (t := 16) (v1 := (PW w 0)) (v15 := Value.int .i64 m.kind) (vt := bF) F2 (by simp [upd, h1]) (by simp [upd, h15]) (by simp [upd]) fun f hF h1 h15 hp => ?_
  clear F1 F2
  refine wp_cond_false ((hF.eval 16 (by omega)).trans hp) ?_
  clear hp
  refine wp_seq (wp_region_list ?_)
  refine sz hF (v := bT) (by simp only [execOp, hF.ev 15 (v := .int .i64 m.kind) (by simp [upd, h1, h15])]; simp [go_sem, Act.eval, hkk]) fun a1 F1 => ?_
  refine sz F1 (v := bT) (by simp only [execOp, F1.ev 27 (v := bT)]; rfl) fun a2 F2 => ?_
  refine wpList_nil ?_
  show Code.wp _ _ _ _ _
  refine doneV (t := 26) (v1 := (PW w 0)) (v15 := Value.int .i64 m.kind) (vt := bT) F2 (by simp [upd, h1]) (by simp [upd, h15]) (by simp [upd]) fun f hF h1 h15 hp => ?_
  clear F1 F2
  refine wp_cond_true ((hF.eval 26 (by omega)).trans hp) ?_
  clear hp
  cases hp1 : rviewsB m.views
  · refine wp_seq ?_
    refine wp_region_list ?_
    refine sz hF (v := (PW w 19)) (hF.fa1 w (by simp [upd, h1, h15])) fun a1 F1 => ?_
    have c19 : W.cell? ⟨w.heap.size, 19, none⟩ = some (.slice ao m.views.length cv) := (hC.2.cell 19).trans (by rw [← HD.out]; rfl)
    refine sz F1 (v := .slice ao m.views.length cv) (by simp only [execOp, F1.ev 28 (v := (PW w 19))]; simp [go_sem, c19]) fun a2 F2 => ?_
    refine scC (C := CC w D) F2 rfl (by omega) wn (k := 51) (args := #[Value.slice ao m.views.length cv]) (v := bF) (by simp only [execOp, resolve, invoke, List.map_toArray, List.map_cons, List.map_nil, F2.ev 29 (v := .slice ao m.views.length cv)]; simp [go_sem, Act.eval]) hC (fun wr hC => (rviews_any ao _ cv m.views wr rfl (HV.out.1.keep fun b o e h0 => hC.1.block b (HV.out.2.1 b o e h0)) (fun b o e h0 => Nat.lt_of_lt_of_le (HV.out.2.1 b o e h0) hC.1.size) HV.out.2.2).mono fun e w' ⟨he, hb⟩ => ⟨by rw [he, hp1], hC.below hb⟩) fun a3 W hC F3 => ?_
    refine sz F3 (v := bF) (by simp only [execOp, F3.ev 30 (v := bF)]; rfl) fun a4 F4 => ?_
    refine wpList_nil ?_
    show Code.wp _ _ _ _ _
    refine wp_ret ?_
    have h2 : a4.tmps.getD 2 undef = bF := by have := F4.eval 2 (by omega); simpa [Act.eval, upd] using this
    have hfin : bodyPost Try.prog Try.f23 (fun e w' => e = .returned (.bool (validB m)) ∧ Below w.heap.size w w') .ret a4 W := bodyPost_ret (results_tmp Try.results23 _ _ _) F4.defers ⟨by rw [h2]; exact ret_bool (by simp [validB, hin, hal, hkk, hasCap, hinK, hp1]), hC.1⟩
    exact hfin
  · refine wp_seq ?_
    refine wp_region_list ?_
    refine sz hF (v := (PW w 19)) (hF.fa1 w (by simp [upd, h1, h15])) fun a1 F1 => ?_
    have c19 : W.cell? ⟨w.heap.size, 19, none⟩ = some (.slice ao m.views.length cv) := (hC.2.cell 19).trans (by rw [← HD.out]; rfl)
    refine sz F1 (v := .slice ao m.views.length cv) (by simp only [execOp, F1.ev 28 (v := (PW w 19))]; simp [go_sem, c19]) fun a2 F2 => ?_
    refine scC (C := CC w D) F2 rfl (by omega) wn (k := 51) (args := #[Value.slice ao m.views.length cv]) (v := bT) (by simp only [execOp, resolve, invoke, List.map_toArray, List.map_cons, List.map_nil, F2.ev 29 (v := .slice ao m.views.length cv)]; simp [go_sem, Act.eval]) hC (fun wr hC => (rviews_any ao _ cv m.views wr rfl (HV.out.1.keep fun b o e h0 => hC.1.block b (HV.out.2.1 b o e h0)) (fun b o e h0 => Nat.lt_of_lt_of_le (HV.out.2.1 b o e h0) hC.1.size) HV.out.2.2).mono fun e w' ⟨he, hb⟩ => ⟨by rw [he, hp1], hC.below hb⟩) fun a3 W hC F3 => ?_
    refine sz F3 (v := bT) (by simp only [execOp, F3.ev 30 (v := bT)]; rfl) fun a4 F4 => ?_
    refine wpList_nil ?_
    show Code.wp _ _ _ _ _
    refine wp_ret ?_
    have h2 : a4.tmps.getD 2 undef = bT := by have := F4.eval 2 (by omega); simpa [Act.eval, upd] using this
    have hfin : bodyPost Try.prog Try.f23 (fun e w' => e = .returned (.bool (validB m)) ∧ Below w.heap.size w w') .ret a4 W := bodyPost_ret (results_tmp Try.results23 _ _ _) F4.defers ⟨by rw [h2]; exact ret_bool (by simp [validB, hin, hal, hkk, hasCap, hinK, hp1]), hC.1⟩
    exact hfin
end Go.Proofs.Ytfgnlfemckdfnaa
namespace Go.Proofs.Ytfgnlfemckdfnaa
open Go.RowKit Go.PlainAid
set_option linter.unusedSimpArgs false
set_option linter.unusedVariables false
set_option maxRecDepth 100000 in
set_option maxHeartbeats 3200000 in
theorem rvalid2a (m : Msg) (ao : Option Addr) (cv : Nat) (w : World) (D : Array Value) (HD : Hid (msgCells m (.slice ao m.views.length cv) = D)) (hl : m.name.length ≤ 140737488355328) (hol : m.oname.length ≤ 140737488355328) (hsrc : VFrom w ao m.views) (hsb : ∀ b o, ao = some ⟨b, o, none⟩ → 0 < m.views.length → b < w.heap.size) (hnm : ∀ x ∈ m.views, x.name.length ≤ 140737488355328) (hkk : m.kind = 2) (hq0 : m.err = 0) (hin : inB m.kind 1 10 = true) (hal : alikeB m (shapeM m) = true) :
    Calls Try.prog 23 #[.agg D] w (fun e w' => e = .returned (.bool (validB m)) ∧ Below w.heap.size w w') := by
  have HV : Hid _ := And.intro hsrc (And.intro hsb hnm)
  clear hsrc hsb hnm
  refine calls_of_wp Try.func23 rfl ?_
  have e : Try.f23.ntmps - (#[Value.agg D] : Array Value).size = 107 := by rw [Try.ntmps23]; rfl
  rw [e]
  have hF0 := frame_init1 (.agg D) 107
  generalize ({ tmps := #[Value.agg D] ++ Array.replicate 107 undef, defers := [] } : Act) = a0 at *
  have hC0 : CC w D (w.alloc (.cells D 35)) := ⟨by go_grown, heap_alloc_new w _⟩
  refine wp_seq (wp_region_list ?_)
  refine sw hF0 rfl (by omega) wn (v := .pointer (some ⟨w.heap.size, 0, none⟩)) (w' := w.alloc (.cells D 35)) (by simp only [execOp, hF0.eval 0 (by omega), if_true, Sem.run_bind, run_box']; rfl) fun a1 F1 => ?_
  refine sz F1 (v := .bool false) (by simp [execOp, Act.eval]) fun a2 F2 => ?_
  refine wpList_nil ?_
  show Code.wp _ _ _ _ _
  refine wp_seq ?_
  refine wp_seq ?_
  generalize w.alloc (.cells D 35) = W0 at *
  refine wp_region_quiet (C := CC w D) (by kernel_rfl) (by kernel_rfl) (by exact hC0.drew) ?_
  refine doneV (t := 2) (v1 := .pointer (some ⟨w.heap.size, 0, none⟩)) (v15 := undef) F2 (by simp [upd]) (by simp [upd]) (upd_eq _ _ _) fun f hF h1 h15 h2 => ?_
  clear hF0 F1 F2 h2
  have hi35 : (Try.prog.info? 35).map (·.size) = some D.size := by rw [← HD.out]; kernel_rfl
  have HS : Hid _ := (show ∀ wr, Calls Try.prog 48 #[.agg D] wr (fun e w' => e = .returned (.agg (msgCells (shapeM m) (.slice (shapeAo m.kind ao) (shapeM m).views.length (shapeCv m.kind cv)))) ∧ Below wr.heap.size wr w') from by rw [← HD.out]; exact fun wr => rshape_any m ao cv wr (by simpa [inB] using hin))
  have HK : Hid _ := (show ∀ wr, Calls Try.prog 47 #[.agg D, .agg (msgCells (shapeM m) (.slice (shapeAo m.kind ao) (shapeM m).views.length (shapeCv m.kind cv)))] wr (fun e w' => e = .returned (.bool (alikeB m (shapeM m))) ∧ Below wr.heap.size wr w') from by rw [← HD.out]; exact fun wr => ralike_any m (shapeM m) ao _ cv _ wr)
  have hinK : inB 2 1 10 = true := by decide
  refine qy hF rfl (by omega) wn (v := (PW w 0)) (fun W hC => by simp only [execOp, hF.ev 1 (v := (PW w 0)) (by simp [upd, h1, h15])]; simp [go_sem]) fun a1 F1 => ?_
  refine qy F1 rfl (by omega) wn (v := .int .i64 m.kind) (fun W hC => by simp only [execOp, F1.ev 3 (v := (PW w 0))]; simp [go_sem, (show W.cell? ⟨w.heap.size, 0, none⟩ = some (.int .i64 m.kind) from (hC.2.cell 0).trans (by rw [← HD.out]; rfl))]) fun a2 F2 => ?_
  refine qc F2 rfl (by omega) wn (k := 46) (args := #[Value.int .i64 m.kind, Value.int .i64 1, Value.int .i64 10]) (v := bT) (fun W hC => by simp only [execOp, resolve, invoke, List.map_toArray, List.map_cons, List.map_nil, F2.ev 4 (v := .int .i64 m.kind)]; simp [go_sem, Act.eval]) (fun wr hC => (rwithin_any m.kind 1 10 wr).mono fun e w' ⟨he, hw⟩ => ⟨by rw [he, hin], by rw [hw]; exact hC⟩) fun a3 F3 => ?_
  refine qy F3 rfl (by omega) wn (v := bF) (fun W hC => by simp only [execOp, F3.ev 5 (v := bT)]; simp [go_sem]) fun a4 F4 => ?_
  refine qy F4 rfl (by omega) wn (v := bF) (fun W hC => by simp only [execOp, F4.ev 6 (v := bF)]; rfl) fun a5 F5 => ?_
  refine qy F5 rfl (by omega) (F5.wg 7 false) (v := .agg D) (fun W hC => by simp only [execOp, F5.ev 1 (v := (PW w 0)) (by simp [upd, h1, h15]), Instr.loadAt, Instr.sureAddr, Sem.run_bind, Sem.run_pure, Result.andThen_ok, run_loadVar_row W w.heap.size 35 35 D (0, 0) _ hC.2 Try.underlying35 rfl hi35]) fun a6 F6 => ?_
  refine qy F6 rfl (by omega) (F6.wg 7 false) (v := .agg D) (fun W hC => by simp only [execOp, F6.ev 1 (v := (PW w 0)) (by simp [upd, h1, h15]), Instr.loadAt, Instr.sureAddr, Sem.run_bind, Sem.run_pure, Result.andThen_ok, run_loadVar_row W w.heap.size 35 35 D (0, 0) _ hC.2 Try.underlying35 rfl hi35]) fun a7 F7 => ?_
  refine qc F7 rfl (by omega) (F7.wg 7 false) (k := 48) (args := #[Value.agg D]) (v := .agg (msgCells (shapeM m) (.slice (shapeAo m.kind ao) (shapeM m).views.length (shapeCv m.kind cv)))) (fun W hC => by simp only [execOp, resolve, invoke, List.map_toArray, List.map_cons, List.map_nil, F7.ev 9 (v := .agg D)]; simp [go_sem, Act.eval]) (fun wr hC => (HS.out wr).mono fun e w' ⟨he, hb⟩ => ⟨he, hC.below hb⟩) fun a8 F8 => ?_
  refine qc F8 rfl (by omega) (F8.wg 7 false) (k := 47) (args := #[Value.agg D, Value.agg (msgCells (shapeM m) (.slice (shapeAo m.kind ao) (shapeM m).views.length (shapeCv m.kind cv)))]) (v := bT) (fun W hC => by simp only [execOp, resolve, invoke, List.map_toArray, List.map_cons, List.map_nil, F8.ev 8 (v := .agg D), F8.ev 10 (v := .agg (msgCells (shapeM m) (.slice (shapeAo m.kind ao) (shapeM m).views.length (shapeCv m.kind cv))))]; simp [go_sem, Act.eval]) (fun wr hC => (HK.out wr).mono fun e w' ⟨he, hb⟩ => ⟨by rw [he, hal], hC.below hb⟩) fun a9 F9 => ?_
  refine qy F9 rfl (by omega) (F9.wg 7 false) (v := bF) (fun W hC => by simp only [execOp, F9.ev 11 (v := bT)]; simp [go_sem]) fun a10 F10 => ?_
  refine qy F10 rfl (by omega) wn (v := bF) (fun W hC => pick_run _ rfl (P := false) (F10.ev 7 (v := bF)) W (by rw [if_neg (by decide)]; exact F10.ev 12 (v := bF))) fun a11 F11 => ?_
  refine wpQuiet_nil fun W hC => ?_
  show Code.wp _ _ _ _ _
  refine doneV (t := 13) (v1 := (PW w 0)) (v15 := undef) (vt := bF) F11 (by simp [upd, h1]) (by simp [upd, h15]) (upd_eq _ _ _) fun f hF h1 h15 hp => ?_
  clear F1 F2 F3 F4 F5 F6 F7 F8 F9 F10 F11
  refine wp_cond_false ((hF.eval 13 (by omega)).trans hp) ?_
  clear hp
  refine wp_skip ?_
  show Code.wp _ _ _ _ _
  refine wp_seq ?_
  refine wp_seq (wp_region_list ?_)
  refine sz hF (v := (PW w 0)) (hF.fa1 w (by simp [upd, h1, h15])) fun a1 F1 => ?_
  have c0 : W.cell? ⟨w.heap.size, 0, none⟩ = some (.int .i64 m.kind) := (hC.2.cell 0).trans (by rw [← HD.out]; rfl)
  refine sz F1 (v := .int .i64 m.kind) (by simp only [execOp, F1.ev 14 (v := (PW w 0))]; simp [go_sem, c0]) fun a2 F2 => ?_
  refine wpList_nil ?_
  show Code.wp _ _ _ _ _
  refine doneV (t := 14) (v1 := (PW w 0)) (v15 := Value.int .i64 m.kind) (vt := (PW w 0)) F2 (by simp [upd, h1]) (by simp [upd]) (by simp [upd]) fun f hF h1 h15 hp => ?_
  clear F1 F2 hp
  refine wp_block ?_
  refine wp_seq (wp_region_list ?_)
  refine sz hF (v := bF) (by simp only [execOp, hF.ev 15 (v := .int .i64 m.kind) (by simp [upd, h1, h15])]; simp [go_sem, Act.eval, hkk]) fun a1 F1 => ?_
  refine sz F1 (v := bF) (by simp only [execOp, F1.ev 17 (v := bF)]; rfl) fun a2 F2 => ?_
  refine wpList_nil ?_
  show Code.wp _ _ _ _ _
  refine doneV (t := 16) (v1 := (PW w 0)) (v15 := Value.int .i64 m.kind) (vt := bF) F2 (by simp [upd, h1]) (by simp [upd, h15]) (by simp [upd]) fun f hF h1 h15 hp => ?_
  clear F1 F2
  refine wp_cond_false ((hF.eval 16 (by omega)).trans hp) ?_
  clear hp
  refine wp_seq (wp_region_list ?_)
  refine sz hF (v := bF) (by simp only [execOp, hF.ev 15 (v := .int .i64 m.kind) (by simp [upd, h1, h15])]; simp [go_sem, Act.eval, hkk]) fun a1 F1 => ?_
  refine sz F1 (v := bF) (by simp only [execOp, F1.ev 27 (v := bF)]; rfl) fun a2 F2 => ?_
  refine wpList_nil ?_
  show Code.wp _ _ _ _ _
  refine doneV (t := 26) (v1 := (PW w 0)) (v15 := Value.int .i64 m.kind) (vt := bF) F2 (by simp [upd, h1]) (by simp [upd, h15]) (by simp [upd]) fun f hF h1 h15 hp => ?_
  clear F1 F2
  refine wp_cond_false ((hF.eval 26 (by omega)).trans hp) ?_
  clear hp
  refine wp_seq (wp_region_list ?_)
  refine sz hF (v := bT) (by simp only [execOp, hF.ev 15 (v := .int .i64 m.kind) (by simp [upd, h1, h15])]; simp [go_sem, Act.eval, hkk]) fun a1 F1 => ?_
  refine sz F1 (v := bT) (by simp only [execOp, F1.ev 32 (v := bT)]; rfl) fun a2 F2 => ?_
  refine wpList_nil ?_
  show Code.wp _ _ _ _ _
  refine doneV (t := 31) (v1 := (PW w 0)) (v15 := Value.int .i64 m.kind) (vt := bT) F2 (by simp [upd, h1]) (by simp [upd, h15]) (by simp [upd]) fun f hF h1 h15 hp => ?_
  clear F1 F2
  refine wp_cond_true ((hF.eval 31 (by omega)).trans hp) ?_
  clear hp
  refine wp_seq ?_
  refine wp_seq (wp_region_list ?_)
  refine sz hF (v := (PW w 17)) (hF.fa1 w (by simp [upd, h1, h15])) fun a1 F1 => ?_
  have c17 : W.cell? ⟨w.heap.size, 17, none⟩ = some (.int .i64 m.err) := (hC.2.cell 17).trans (by rw [← HD.out]; rfl)
  refine sz F1 (v := .int .i64 m.err) (by simp only [execOp, F1.ev 33 (v := (PW w 17))]; simp [go_sem, c17]) fun a2 F2 => ?_
  refine sz F2 (v := bF) (by simp only [execOp, F2.ev 34 (v := .int .i64 m.err)]; simp [go_sem, Act.eval, hq0]) fun a3 F3 => ?_
  refine sz F3 (v := bF) (F3.mr 35) fun a4 F4 => ?_
  refine sm F4 (F4.wg 36 false) fun a5 F5 => ?_
  refine sm F5 (F5.wg 36 false) fun a6 F6 => ?_
  refine sm F6 (F6.wg 36 false) fun a7 F7 => ?_
  refine sz F7 (v := bF) (pick_run _ rfl (P := false) (F7.ev 36 (v := bF)) W rfl) fun a8 F8 => ?_
  refine wpList_nil ?_
  show Code.wp _ _ _ _ _
  refine doneV (t := 40) (v1 := (PW w 0)) (v15 := Value.int .i64 m.kind) (vt := bF) F8 (by simp [upd, h1]) (by simp [upd, h15]) (by simp [upd]) fun f hF h1 h15 hp => ?_
  clear F1 F2 F3 F4 F5 F6 F7 F8
  refine wp_cond_false ((hF.eval 40 (by omega)).trans hp) ?_
  clear hp
  refine wp_skip ?_
  show Code.wp _ _ _ _ _
  cases hp1 : callB m.session m.id
  · cases hr1 : knownB m.name m.cap m.recaps
    · refine wp_seq ?_
      refine wp_region_list ?_
      refine sz hF (v := (PW w 11)) (hF.fa1 w (by simp [upd, h1, h15])) fun a1 F1 => ?_
      have c11 : W.cell? ⟨w.heap.size, 11, none⟩ = some (.int .i64 m.session) := (hC.2.cell 11).trans (by rw [← HD.out]; rfl)
      have c12 : W.cell? ⟨w.heap.size, 12, none⟩ = some (.int .i64 m.id) := (hC.2.cell 12).trans (by rw [← HD.out]; rfl)
      refine sz F1 (v := .agg #[.int .i64 m.session, .int .i64 m.id]) (by simp only [execOp, F1.ev 54 (v := (PW w 11))]; simp [go_sem, c11, c12]) fun a2 F2 => ?_
      refine scC (C := CC w D) F2 rfl (by omega) wn (k := 49) (args := #[Value.agg #[.int .i64 m.session, .int .i64 m.id]]) (v := bF) (by simp only [execOp, resolve, invoke, List.map_toArray, List.map_cons, List.map_nil, F2.ev 55 (v := .agg #[.int .i64 m.session, .int .i64 m.id])]; simp [go_sem, Act.eval]) hC (fun wr hC => (rcall_any m.session m.id wr).mono fun e w' ⟨he, hb⟩ => ⟨by rw [he, hp1], hC.below hb⟩) fun a3 W hC F3 => ?_
      refine sz F3 (v := bF) (F3.mr 56) fun a4 F4 => ?_
      refine sm F4 (F4.wg 57 false) fun a5 F5 => ?_
      refine sm F5 (F5.wg 57 false) fun a6 F6 => ?_
      refine sm F6 (F6.wg 57 false) fun a7 F7 => ?_
      refine sm F7 (F7.wg 57 false) fun a8 F8 => ?_
      refine sm F8 (F8.wg 57 false) fun a9 F9 => ?_
      refine sm F9 (F9.wg 57 false) fun a10 F10 => ?_
      refine sm F10 (F10.wg 57 false) fun a11 F11 => ?_
      refine sz F11 (v := bF) (pick_run _ rfl (P := false) (F11.ev 57 (v := bF)) W rfl) fun a12 F12 => ?_
      refine sz F12 (v := bF) (by simp only [execOp, F12.ev 65 (v := bF)]; rfl) fun a13 F13 => ?_
      refine wpList_nil ?_
      show Code.wp _ _ _ _ _
      refine wp_ret ?_
      have h2 : a13.tmps.getD 2 undef = bF := by have := F13.eval 2 (by omega); simpa [Act.eval, upd] using this
      have hfin : bodyPost Try.prog Try.f23 (fun e w' => e = .returned (.bool (validB m)) ∧ Below w.heap.size w w') .ret a13 W := bodyPost_ret (results_tmp Try.results23 _ _ _) F13.defers ⟨by rw [h2]; exact ret_bool (by simp [validB, hin, hal, hkk, hasCap, hinK, hq0, hp1, hr1]), hC.1⟩
      exact hfin
    · refine wp_seq ?_
      refine wp_region_list ?_
      refine sz hF (v := (PW w 11)) (hF.fa1 w (by simp [upd, h1, h15])) fun a1 F1 => ?_
      have c11 : W.cell? ⟨w.heap.size, 11, none⟩ = some (.int .i64 m.session) := (hC.2.cell 11).trans (by rw [← HD.out]; rfl)
      have c12 : W.cell? ⟨w.heap.size, 12, none⟩ = some (.int .i64 m.id) := (hC.2.cell 12).trans (by rw [← HD.out]; rfl)
      refine sz F1 (v := .agg #[.int .i64 m.session, .int .i64 m.id]) (by simp only [execOp, F1.ev 54 (v := (PW w 11))]; simp [go_sem, c11, c12]) fun a2 F2 => ?_
      refine scC (C := CC w D) F2 rfl (by omega) wn (k := 49) (args := #[Value.agg #[.int .i64 m.session, .int .i64 m.id]]) (v := bF) (by simp only [execOp, resolve, invoke, List.map_toArray, List.map_cons, List.map_nil, F2.ev 55 (v := .agg #[.int .i64 m.session, .int .i64 m.id])]; simp [go_sem, Act.eval]) hC (fun wr hC => (rcall_any m.session m.id wr).mono fun e w' ⟨he, hb⟩ => ⟨by rw [he, hp1], hC.below hb⟩) fun a3 W hC F3 => ?_
      refine sz F3 (v := bF) (F3.mr 56) fun a4 F4 => ?_
      refine sm F4 (F4.wg 57 false) fun a5 F5 => ?_
      refine sm F5 (F5.wg 57 false) fun a6 F6 => ?_
      refine sm F6 (F6.wg 57 false) fun a7 F7 => ?_
      refine sm F7 (F7.wg 57 false) fun a8 F8 => ?_
      refine sm F8 (F8.wg 57 false) fun a9 F9 => ?_
      refine sm F9 (F9.wg 57 false) fun a10 F10 => ?_
      refine sm F10 (F10.wg 57 false) fun a11 F11 => ?_
      refine sz F11 (v := bF) (pick_run _ rfl (P := false) (F11.ev 57 (v := bF)) W rfl) fun a12 F12 => ?_
      refine sz F12 (v := bF) (by simp only [execOp, F12.ev 65 (v := bF)]; rfl) fun a13 F13 => ?_
      refine wpList_nil ?_
      show Code.wp _ _ _ _ _
      refine wp_ret ?_
      have h2 : a13.tmps.getD 2 undef = bF := by have := F13.eval 2 (by omega); simpa [Act.eval, upd] using this
      have hfin : bodyPost Try.prog Try.f23 (fun e w' => e = .returned (.bool (validB m)) ∧ Below w.heap.size w w') .ret a13 W := bodyPost_ret (results_tmp Try.results23 _ _ _) F13.defers ⟨by rw [h2]; exact ret_bool (by simp [validB, hin, hal, hkk, hasCap, hinK, hq0, hp1, hr1]), hC.1⟩
      exact hfin
  · cases hr1 : knownB m.name m.cap m.recaps
    · refine wp_seq ?_
      refine wp_region_list ?_
      refine sz hF (v := (PW w 11)) (hF.fa1 w (by simp [upd, h1, h15])) fun a1 F1 => ?_
      have c11 : W.cell? ⟨w.heap.size, 11, none⟩ = some (.int .i64 m.session) := (hC.2.cell 11).trans (by rw [← HD.out]; rfl)
      have c12 : W.cell? ⟨w.heap.size, 12, none⟩ = some (.int .i64 m.id) := (hC.2.cell 12).trans (by rw [← HD.out]; rfl)
      refine sz F1 (v := .agg #[.int .i64 m.session, .int .i64 m.id]) (by simp only [execOp, F1.ev 54 (v := (PW w 11))]; simp [go_sem, c11, c12]) fun a2 F2 => ?_
      refine scC (C := CC w D) F2 rfl (by omega) wn (k := 49) (args := #[Value.agg #[.int .i64 m.session, .int .i64 m.id]]) (v := bT) (by simp only [execOp, resolve, invoke, List.map_toArray, List.map_cons, List.map_nil, F2.ev 55 (v := .agg #[.int .i64 m.session, .int .i64 m.id])]; simp [go_sem, Act.eval]) hC (fun wr hC => (rcall_any m.session m.id wr).mono fun e w' ⟨he, hb⟩ => ⟨by rw [he, hp1], hC.below hb⟩) fun a3 W hC F3 => ?_
      refine sz F3 (v := bT) (F3.mr 56) fun a4 F4 => ?_
      refine sy F4 rfl (by omega) (F4.wg 57 true) (v := (PW w 1)) (F4.fa1 w (by simp [upd, h1, h15])) fun a5 F5 => ?_
      have c1 : W.cell? ⟨w.heap.size, 1, none⟩ = some (.string ⟨m.name.toArray⟩) := (hC.2.cell 1).trans (by rw [← HD.out]; rfl)
      refine sy F5 rfl (by omega) (F5.wg 57 true) (v := .string ⟨m.name.toArray⟩) (by simp only [execOp, F5.ev 58 (v := (PW w 1))]; simp [go_sem, c1]) fun a6 F6 => ?_
      refine sy F6 rfl (by omega) (F6.wg 57 true) (v := (PW w 2)) (F6.fa1 w (by simp [upd, h1, h15])) fun a7 F7 => ?_
      have c2 : W.cell? ⟨w.heap.size, 2, none⟩ = some (.int .i64 m.cap) := (hC.2.cell 2).trans (by rw [← HD.out]; rfl)
      refine sy F7 rfl (by omega) (F7.wg 57 true) (v := .int .i64 m.cap) (by simp only [execOp, F7.ev 60 (v := (PW w 2))]; simp [go_sem, c2]) fun a8 F8 => ?_
      refine sy F8 rfl (by omega) (F8.wg 57 true) (v := (PW w 3)) (F8.fa1 w (by simp [upd, h1, h15])) fun a9 F9 => ?_
      have c3 : W.cell? ⟨w.heap.size, 3, none⟩ = some (.int .i64 m.recaps) := (hC.2.cell 3).trans (by rw [← HD.out]; rfl)
      refine sy F9 rfl (by omega) (F9.wg 57 true) (v := .int .i64 m.recaps) (by simp only [execOp, F9.ev 62 (v := (PW w 3))]; simp [go_sem, c3]) fun a10 F10 => ?_
      refine scC (C := CC w D) F10 rfl (by omega) (F10.wg 57 true) (k := 53) (args := #[Value.string ⟨m.name.toArray⟩, Value.int .i64 m.cap, Value.int .i64 m.recaps]) (v := bF) (by simp only [execOp, resolve, invoke, List.map_toArray, List.map_cons, List.map_nil, F10.ev 59 (v := .string ⟨m.name.toArray⟩), F10.ev 61 (v := .int .i64 m.cap), F10.ev 63 (v := .int .i64 m.recaps)]; simp [go_sem, Act.eval]) hC (fun wr hC => (rknown_any m.name m.cap m.recaps wr hl).mono fun e w' ⟨he, hw⟩ => ⟨by rw [he, hr1], by rw [hw]; exact hC⟩) fun a11 W hC F11 => ?_
      refine sz F11 (v := bF) (pick_run _ rfl (P := true) (F11.ev 57 (v := bT)) W (by rw [if_pos rfl]; exact F11.ev 64 (v := bF))) fun a12 F12 => ?_
      refine sz F12 (v := bF) (by simp only [execOp, F12.ev 65 (v := bF)]; rfl) fun a13 F13 => ?_
      refine wpList_nil ?_
      show Code.wp _ _ _ _ _
      refine wp_ret ?_
      have h2 : a13.tmps.getD 2 undef = bF := by have := F13.eval 2 (by omega); simpa [Act.eval, upd] using this
      have hfin : bodyPost Try.prog Try.f23 (fun e w' => e = .returned (.bool (validB m)) ∧ Below w.heap.size w w') .ret a13 W := bodyPost_ret (results_tmp Try.results23 _ _ _) F13.defers ⟨by rw [h2]; exact ret_bool (by simp [validB, hin, hal, hkk, hasCap, hinK, hq0, hp1, hr1]), hC.1⟩
      exact hfin
    · refine wp_seq ?_
      refine wp_region_list ?_
      refine sz hF (v := (PW w 11)) (hF.fa1 w (by simp [upd, h1, h15])) fun a1 F1 => ?_
      have c11 : W.cell? ⟨w.heap.size, 11, none⟩ = some (.int .i64 m.session) := (hC.2.cell 11).trans (by rw [← HD.out]; rfl)
      have c12 : W.cell? ⟨w.heap.size, 12, none⟩ = some (.int .i64 m.id) := (hC.2.cell 12).trans (by rw [← HD.out]; rfl)
      refine sz F1 (v := .agg #[.int .i64 m.session, .int .i64 m.id]) (by simp only [execOp, F1.ev 54 (v := (PW w 11))]; simp [go_sem, c11, c12]) fun a2 F2 => ?_
      refine scC (C := CC w D) F2 rfl (by omega) wn (k := 49) (args := #[Value.agg #[.int .i64 m.session, .int .i64 m.id]]) (v := bT) (by simp only [execOp, resolve, invoke, List.map_toArray, List.map_cons, List.map_nil, F2.ev 55 (v := .agg #[.int .i64 m.session, .int .i64 m.id])]; simp [go_sem, Act.eval]) hC (fun wr hC => (rcall_any m.session m.id wr).mono fun e w' ⟨he, hb⟩ => ⟨by rw [he, hp1], hC.below hb⟩) fun a3 W hC F3 => ?_
      refine sz F3 (v := bT) (F3.mr 56) fun a4 F4 => ?_
      refine sy F4 rfl (by omega) (F4.wg 57 true) (v := (PW w 1)) (F4.fa1 w (by simp [upd, h1, h15])) fun a5 F5 => ?_
      have c1 : W.cell? ⟨w.heap.size, 1, none⟩ = some (.string ⟨m.name.toArray⟩) := (hC.2.cell 1).trans (by rw [← HD.out]; rfl)
      refine sy F5 rfl (by omega) (F5.wg 57 true) (v := .string ⟨m.name.toArray⟩) (by simp only [execOp, F5.ev 58 (v := (PW w 1))]; simp [go_sem, c1]) fun a6 F6 => ?_
      refine sy F6 rfl (by omega) (F6.wg 57 true) (v := (PW w 2)) (F6.fa1 w (by simp [upd, h1, h15])) fun a7 F7 => ?_
      have c2 : W.cell? ⟨w.heap.size, 2, none⟩ = some (.int .i64 m.cap) := (hC.2.cell 2).trans (by rw [← HD.out]; rfl)
      refine sy F7 rfl (by omega) (F7.wg 57 true) (v := .int .i64 m.cap) (by simp only [execOp, F7.ev 60 (v := (PW w 2))]; simp [go_sem, c2]) fun a8 F8 => ?_
      refine sy F8 rfl (by omega) (F8.wg 57 true) (v := (PW w 3)) (F8.fa1 w (by simp [upd, h1, h15])) fun a9 F9 => ?_
      have c3 : W.cell? ⟨w.heap.size, 3, none⟩ = some (.int .i64 m.recaps) := (hC.2.cell 3).trans (by rw [← HD.out]; rfl)
      refine sy F9 rfl (by omega) (F9.wg 57 true) (v := .int .i64 m.recaps) (by simp only [execOp, F9.ev 62 (v := (PW w 3))]; simp [go_sem, c3]) fun a10 F10 => ?_
      refine scC (C := CC w D) F10 rfl (by omega) (F10.wg 57 true) (k := 53) (args := #[Value.string ⟨m.name.toArray⟩, Value.int .i64 m.cap, Value.int .i64 m.recaps]) (v := bT) (by simp only [execOp, resolve, invoke, List.map_toArray, List.map_cons, List.map_nil, F10.ev 59 (v := .string ⟨m.name.toArray⟩), F10.ev 61 (v := .int .i64 m.cap), F10.ev 63 (v := .int .i64 m.recaps)]; simp [go_sem, Act.eval]) hC (fun wr hC => (rknown_any m.name m.cap m.recaps wr hl).mono fun e w' ⟨he, hw⟩ => ⟨by rw [he, hr1], by rw [hw]; exact hC⟩) fun a11 W hC F11 => ?_
      refine sz F11 (v := bT) (pick_run _ rfl (P := true) (F11.ev 57 (v := bT)) W (by rw [if_pos rfl]; exact F11.ev 64 (v := bT))) fun a12 F12 => ?_
      refine sz F12 (v := bT) (by simp only [execOp, F12.ev 65 (v := bT)]; rfl) fun a13 F13 => ?_
      refine wpList_nil ?_
      show Code.wp _ _ _ _ _
      refine wp_ret ?_
      have h2 : a13.tmps.getD 2 undef = bT := by have := F13.eval 2 (by omega); simpa [Act.eval, upd] using this
      have hfin : bodyPost Try.prog Try.f23 (fun e w' => e = .returned (.bool (validB m)) ∧ Below w.heap.size w w') .ret a13 W := bodyPost_ret (results_tmp Try.results23 _ _ _) F13.defers ⟨by rw [h2]; exact ret_bool (by simp [validB, hin, hal, hkk, hasCap, hinK, hq0, hp1, hr1]), hC.1⟩
      exact hfin
set_option maxRecDepth 100000 in
set_option maxHeartbeats 3200000 in
theorem rvalid2b (m : Msg) (ao : Option Addr) (cv : Nat) (w : World) (D : Array Value) (HD : Hid (msgCells m (.slice ao m.views.length cv) = D)) (hl : m.name.length ≤ 140737488355328) (hol : m.oname.length ≤ 140737488355328) (hsrc : VFrom w ao m.views) (hsb : ∀ b o, ao = some ⟨b, o, none⟩ → 0 < m.views.length → b < w.heap.size) (hnm : ∀ x ∈ m.views, x.name.length ≤ 140737488355328) (hkk : m.kind = 2) (hq0 : ¬ m.err = 0) (hq1 : m.err = 101) (hin : inB m.kind 1 10 = true) (hal : alikeB m (shapeM m) = true) :
    Calls Try.prog 23 #[.agg D] w (fun e w' => e = .returned (.bool (validB m)) ∧ Below w.heap.size w w') := by
  have HV : Hid _ := And.intro hsrc (And.intro hsb hnm)
  clear hsrc hsb hnm
  refine calls_of_wp Try.func23 rfl ?_
  have e : Try.f23.ntmps - (#[Value.agg D] : Array Value).size = 107 := by rw [Try.ntmps23]; rfl
  rw [e]
  have hF0 := frame_init1 (.agg D) 107
  generalize ({ tmps := #[Value.agg D] ++ Array.replicate 107 undef, defers := [] } : Act) = a0 at *
  have hC0 : CC w D (w.alloc (.cells D 35)) := ⟨by go_grown, heap_alloc_new w _⟩
  refine wp_seq (wp_region_list ?_)
  refine sw hF0 rfl (by omega) wn (v := .pointer (some ⟨w.heap.size, 0, none⟩)) (w' := w.alloc (.cells D 35)) (by simp only [execOp, hF0.eval 0 (by omega), if_true, Sem.run_bind, run_box']; rfl) fun a1 F1 => ?_
  refine sz F1 (v := .bool false) (by simp [execOp, Act.eval]) fun a2 F2 => ?_
  refine wpList_nil ?_
  show Code.wp _ _ _ _ _
  refine wp_seq ?_
  refine wp_seq ?_
  generalize w.alloc (.cells D 35) = W0 at *
  refine wp_region_quiet (C := CC w D) (by kernel_rfl) (by kernel_rfl) (by exact hC0.drew) ?_
  refine doneV (t := 2) (v1 := .pointer (some ⟨w.heap.size, 0, none⟩)) (v15 := undef) F2 (by simp [upd]) (by simp [upd]) (upd_eq _ _ _) fun f hF h1 h15 h2 => ?_
  clear hF0 F1 F2 h2
  have hi35 : (Try.prog.info? 35).map (·.size) = some D.size := by rw [← HD.out]; kernel_rfl
  have HS : Hid _ := (show ∀ wr, Calls Try.prog 48 #[.agg D] wr (fun e w' => e = .returned (.agg (msgCells (shapeM m) (.slice (shapeAo m.kind ao) (shapeM m).views.length (shapeCv m.kind cv)))) ∧ Below wr.heap.size wr w') from by rw [← HD.out]; exact fun wr => rshape_any m ao cv wr (by simpa [inB] using hin))
  have HK : Hid _ := (show ∀ wr, Calls Try.prog 47 #[.agg D, .agg (msgCells (shapeM m) (.slice (shapeAo m.kind ao) (shapeM m).views.length (shapeCv m.kind cv)))] wr (fun e w' => e = .returned (.bool (alikeB m (shapeM m))) ∧ Below wr.heap.size wr w') from by rw [← HD.out]; exact fun wr => ralike_any m (shapeM m) ao _ cv _ wr)
  have hinK : inB 2 1 10 = true := by decide
  refine qy hF rfl (by omega) wn (v := (PW w 0)) (fun W hC => by simp only [execOp, hF.ev 1 (v := (PW w 0)) (by simp [upd, h1, h15])]; simp [go_sem]) fun a1 F1 => ?_
  refine qy F1 rfl (by omega) wn (v := .int .i64 m.kind) (fun W hC => by simp only [execOp, F1.ev 3 (v := (PW w 0))]; simp [go_sem, (show W.cell? ⟨w.heap.size, 0, none⟩ = some (.int .i64 m.kind) from (hC.2.cell 0).trans (by rw [← HD.out]; rfl))]) fun a2 F2 => ?_
  refine qc F2 rfl (by omega) wn (k := 46) (args := #[Value.int .i64 m.kind, Value.int .i64 1, Value.int .i64 10]) (v := bT) (fun W hC => by simp only [execOp, resolve, invoke, List.map_toArray, List.map_cons, List.map_nil, F2.ev 4 (v := .int .i64 m.kind)]; simp [go_sem, Act.eval]) (fun wr hC => (rwithin_any m.kind 1 10 wr).mono fun e w' ⟨he, hw⟩ => ⟨by rw [he, hin], by rw [hw]; exact hC⟩) fun a3 F3 => ?_
  refine qy F3 rfl (by omega) wn (v := bF) (fun W hC => by simp only [execOp, F3.ev 5 (v := bT)]; simp [go_sem]) fun a4 F4 => ?_
  refine qy F4 rfl (by omega) wn (v := bF) (fun W hC => by simp only [execOp, F4.ev 6 (v := bF)]; rfl) fun a5 F5 => ?_
  refine qy F5 rfl (by omega) (F5.wg 7 false) (v := .agg D) (fun W hC => by simp only [execOp, F5.ev 1 (v := (PW w 0)) (by simp [upd, h1, h15]), Instr.loadAt, Instr.sureAddr, Sem.run_bind, Sem.run_pure, Result.andThen_ok, run_loadVar_row W w.heap.size 35 35 D (0, 0) _ hC.2 Try.underlying35 rfl hi35]) fun a6 F6 => ?_
  refine qy F6 rfl (by omega) (F6.wg 7 false) (v := .agg D) (fun W hC => by simp only [execOp, F6.ev 1 (v := (PW w 0)) (by simp [upd, h1, h15]), Instr.loadAt, Instr.sureAddr, Sem.run_bind, Sem.run_pure, Result.andThen_ok, run_loadVar_row W w.heap.size 35 35 D (0, 0) _ hC.2 Try.underlying35 rfl hi35]) fun a7 F7 => ?_
  refine qc F7 rfl (by omega) (F7.wg 7 false) (k := 48) (args := #[Value.agg D]) (v := .agg (msgCells (shapeM m) (.slice (shapeAo m.kind ao) (shapeM m).views.length (shapeCv m.kind cv)))) (fun W hC => by simp only [execOp, resolve, invoke, List.map_toArray, List.map_cons, List.map_nil, F7.ev 9 (v := .agg D)]; simp [go_sem, Act.eval]) (fun wr hC => (HS.out wr).mono fun e w' ⟨he, hb⟩ => ⟨he, hC.below hb⟩) fun a8 F8 => ?_
  refine qc F8 rfl (by omega) (F8.wg 7 false) (k := 47) (args := #[Value.agg D, Value.agg (msgCells (shapeM m) (.slice (shapeAo m.kind ao) (shapeM m).views.length (shapeCv m.kind cv)))]) (v := bT) (fun W hC => by simp only [execOp, resolve, invoke, List.map_toArray, List.map_cons, List.map_nil, F8.ev 8 (v := .agg D), F8.ev 10 (v := .agg (msgCells (shapeM m) (.slice (shapeAo m.kind ao) (shapeM m).views.length (shapeCv m.kind cv))))]; simp [go_sem, Act.eval]) (fun wr hC => (HK.out wr).mono fun e w' ⟨he, hb⟩ => ⟨by rw [he, hal], hC.below hb⟩) fun a9 F9 => ?_
  refine qy F9 rfl (by omega) (F9.wg 7 false) (v := bF) (fun W hC => by simp only [execOp, F9.ev 11 (v := bT)]; simp [go_sem]) fun a10 F10 => ?_
  refine qy F10 rfl (by omega) wn (v := bF) (fun W hC => pick_run _ rfl (P := false) (F10.ev 7 (v := bF)) W (by rw [if_neg (by decide)]; exact F10.ev 12 (v := bF))) fun a11 F11 => ?_
  refine wpQuiet_nil fun W hC => ?_
  show Code.wp _ _ _ _ _
  refine doneV (t := 13) (v1 := (PW w 0)) (v15 := undef) (vt := bF) F11 (by simp [upd, h1]) (by simp [upd, h15]) (upd_eq _ _ _) fun f hF h1 h15 hp => ?_
  clear F1 F2 F3 F4 F5 F6 F7 F8 F9 F10 F11
  refine wp_cond_false ((hF.eval 13 (by omega)).trans hp) ?_
  clear hp
  refine wp_skip ?_
  show Code.wp _ _ _ _ _
  refine wp_seq ?_
  refine wp_seq (wp_region_list ?_)
  refine sz hF (v := (PW w 0)) (hF.fa1 w (by simp [upd, h1, h15])) fun a1 F1 => ?_
  have c0 : W.cell? ⟨w.heap.size, 0, none⟩ = some (.int .i64 m.kind) := (hC.2.cell 0).trans (by rw [← HD.out]; rfl)
  refine sz F1 (v := .int .i64 m.kind) (by simp only [execOp, F1.ev 14 (v := (PW w 0))]; simp [go_sem, c0]) fun a2 F2 => ?_
  refine wpList_nil ?_
  show Code.wp _ _ _ _ _
  refine doneV (t := 14) (v1 := (PW w 0)) (v15 := Value.int .i64 m.kind) (vt := (PW w 0)) F2 (by simp [upd, h1]) (by simp [upd]) (by simp [upd]) fun f hF h1 h15 hp => ?_
  clear F1 F2 hp
  refine wp_block ?_
  refine wp_seq (wp_region_list ?_)
  refine sz hF (v := bF) (by simp only [execOp, hF.ev 15 (v := .int .i64 m.kind) (by simp [upd, h1, h15])]; simp [go_sem, Act.eval, hkk]) fun a1 F1 => ?_
  refine sz F1 (v := bF) (by simp only [execOp, F1.ev 17 (v := bF)]; rfl) fun a2 F2 => ?_
  refine wpList_nil ?_
  show Code.wp _ _ _ _ _
  refine doneV (t := 16) (v1 := (PW w 0)) (v15 := Value.int .i64 m.kind) (vt := bF) F2 (by simp [upd, h1]) (by simp [upd, h15]) (by simp [upd]) fun f hF h1 h15 hp => ?_
  clear F1 F2
  refine wp_cond_false ((hF.eval 16 (by omega)).trans hp) ?_
  clear hp
  refine wp_seq (wp_region_list ?_)
  refine sz hF (v := bF) (by simp only [execOp, hF.ev 15 (v := .int .i64 m.kind) (by simp [upd, h1, h15])]; simp [go_sem, Act.eval, hkk]) fun a1 F1 => ?_
  refine sz F1 (v := bF) (by simp only [execOp, F1.ev 27 (v := bF)]; rfl) fun a2 F2 => ?_
  refine wpList_nil ?_
  show Code.wp _ _ _ _ _
  refine doneV (t := 26) (v1 := (PW w 0)) (v15 := Value.int .i64 m.kind) (vt := bF) F2 (by simp [upd, h1]) (by simp [upd, h15]) (by simp [upd]) fun f hF h1 h15 hp => ?_
  clear F1 F2
  refine wp_cond_false ((hF.eval 26 (by omega)).trans hp) ?_
  clear hp
  refine wp_seq (wp_region_list ?_)
  refine sz hF (v := bT) (by simp only [execOp, hF.ev 15 (v := .int .i64 m.kind) (by simp [upd, h1, h15])]; simp [go_sem, Act.eval, hkk]) fun a1 F1 => ?_
  refine sz F1 (v := bT) (by simp only [execOp, F1.ev 32 (v := bT)]; rfl) fun a2 F2 => ?_
  refine wpList_nil ?_
  show Code.wp _ _ _ _ _
  refine doneV (t := 31) (v1 := (PW w 0)) (v15 := Value.int .i64 m.kind) (vt := bT) F2 (by simp [upd, h1]) (by simp [upd, h15]) (by simp [upd]) fun f hF h1 h15 hp => ?_
  clear F1 F2
  refine wp_cond_true ((hF.eval 31 (by omega)).trans hp) ?_
  clear hp
  refine wp_seq ?_
  refine wp_seq (wp_region_list ?_)
  refine sz hF (v := (PW w 17)) (hF.fa1 w (by simp [upd, h1, h15])) fun a1 F1 => ?_
  have c17 : W.cell? ⟨w.heap.size, 17, none⟩ = some (.int .i64 m.err) := (hC.2.cell 17).trans (by rw [← HD.out]; rfl)
  refine sz F1 (v := .int .i64 m.err) (by simp only [execOp, F1.ev 33 (v := (PW w 17))]; simp [go_sem, c17]) fun a2 F2 => ?_
  refine sz F2 (v := bT) (by simp only [execOp, F2.ev 34 (v := .int .i64 m.err)]; simp [go_sem, Act.eval, hq0, hq1]) fun a3 F3 => ?_
  refine sz F3 (v := bT) (F3.mr 35) fun a4 F4 => ?_
  refine sy F4 rfl (by omega) (F4.wg 36 true) (v := (PW w 17)) (F4.fa1 w (by simp [upd, h1, h15])) fun a5 F5 => ?_
  have c17 : W.cell? ⟨w.heap.size, 17, none⟩ = some (.int .i64 m.err) := (hC.2.cell 17).trans (by rw [← HD.out]; rfl)
  refine sy F5 rfl (by omega) (F5.wg 36 true) (v := .int .i64 m.err) (by simp only [execOp, F5.ev 37 (v := (PW w 17))]; simp [go_sem, c17]) fun a6 F6 => ?_
  refine sy F6 rfl (by omega) (F6.wg 36 true) (v := bF) (by simp only [execOp, F6.ev 38 (v := .int .i64 m.err)]; simp [go_sem, Act.eval, hq0, hq1]) fun a7 F7 => ?_
  refine sz F7 (v := bF) (pick_run _ rfl (P := true) (F7.ev 36 (v := bT)) W (by rw [if_pos rfl]; exact F7.ev 39 (v := bF))) fun a8 F8 => ?_
  refine wpList_nil ?_
  show Code.wp _ _ _ _ _
  refine doneV (t := 40) (v1 := (PW w 0)) (v15 := Value.int .i64 m.kind) (vt := bF) F8 (by simp [upd, h1]) (by simp [upd, h15]) (by simp [upd]) fun f hF h1 h15 hp => ?_
  clear F1 F2 F3 F4 F5 F6 F7 F8
  refine wp_cond_false ((hF.eval 40 (by omega)).trans hp) ?_
  clear hp
  refine wp_skip ?_
  show Code.wp _ _ _ _ _
  cases hp1 : callB m.session m.id
  · cases hr1 : knownB m.name m.cap m.recaps
    · refine wp_seq ?_
      refine wp_region_list ?_
      refine sz hF (v := (PW w 11)) (hF.fa1 w (by simp [upd, h1, h15])) fun a1 F1 => ?_
      have c11 : W.cell? ⟨w.heap.size, 11, none⟩ = some (.int .i64 m.session) := (hC.2.cell 11).trans (by rw [← HD.out]; rfl)
      have c12 : W.cell? ⟨w.heap.size, 12, none⟩ = some (.int .i64 m.id) := (hC.2.cell 12).trans (by rw [← HD.out]; rfl)
      refine sz F1 (v := .agg #[.int .i64 m.session, .int .i64 m.id]) (by simp only [execOp, F1.ev 54 (v := (PW w 11))]; simp [go_sem, c11, c12]) fun a2 F2 => ?_
      refine scC (C := CC w D) F2 rfl (by omega) wn (k := 49) (args := #[Value.agg #[.int .i64 m.session, .int .i64 m.id]]) (v := bF) (by simp only [execOp, resolve, invoke, List.map_toArray, List.map_cons, List.map_nil, F2.ev 55 (v := .agg #[.int .i64 m.session, .int .i64 m.id])]; simp [go_sem, Act.eval]) hC (fun wr hC => (rcall_any m.session m.id wr).mono fun e w' ⟨he, hb⟩ => ⟨by rw [he, hp1], hC.below hb⟩) fun a3 W hC F3 => ?_
      refine sz F3 (v := bF) (F3.mr 56) fun a4 F4 => ?_
      refine sm F4 (F4.wg 57 false) fun a5 F5 => ?_
      refine sm F5 (F5.wg 57 false) fun a6 F6 => ?_
      refine sm F6 (F6.wg 57 false) fun a7 F7 => ?_
      refine sm F7 (F7.wg 57 false) fun a8 F8 => ?_
      refine sm F8 (F8.wg 57 false) fun a9 F9 => ?_
      refine sm F9 (F9.wg 57 false) fun a10 F10 => ?_
      refine sm F10 (F10.wg 57 false) fun a11 F11 => ?_
      refine sz F11 (v := bF) (pick_run _ rfl (P := false) (F11.ev 57 (v := bF)) W rfl) fun a12 F12 => ?_
      refine sz F12 (v := bF) (by simp only [execOp, F12.ev 65 (v := bF)]; rfl) fun a13 F13 => ?_
      refine wpList_nil ?_
      show Code.wp _ _ _ _ _
      refine wp_ret ?_
      have h2 : a13.tmps.getD 2 undef = bF := by have := F13.eval 2 (by omega); simpa [Act.eval, upd] using this
      have hfin : bodyPost Try.prog Try.f23 (fun e w' => e = .returned (.bool (validB m)) ∧ Below w.heap.size w w') .ret a13 W := bodyPost_ret (results_tmp Try.results23 _ _ _) F13.defers ⟨by rw [h2]; exact ret_bool (by simp [validB, hin, hal, hkk, hasCap, hinK, hq0, hq1, hp1, hr1]), hC.1⟩
      exact hfin
    · refine wp_seq ?_
      refine wp_region_list ?_
      refine sz hF (v := (PW w 11)) (hF.fa1 w (by simp [upd, h1, h15])) fun a1 F1 => ?_
      have c11 : W.cell? ⟨w.heap.size, 11, none⟩ = some (.int .i64 m.session) := (hC.2.cell 11).trans (by rw [← HD.out]; rfl)
      have c12 : W.cell? ⟨w.heap.size, 12, none⟩ = some (.int .i64 m.id) := (hC.2.cell 12).trans (by rw [← HD.out]; rfl)
      refine sz F1 (v := .agg #[.int .i64 m.session, .int .i64 m.id]) (by simp only [execOp, F1.ev 54 (v := (PW w 11))]; simp [go_sem, c11, c12]) fun a2 F2 => ?_
      refine scC (C := CC w D) F2 rfl (by omega) wn (k := 49) (args := #[Value.agg #[.int .i64 m.session, .int .i64 m.id]]) (v := bF) (by simp only [execOp, resolve, invoke, List.map_toArray, List.map_cons, List.map_nil, F2.ev 55 (v := .agg #[.int .i64 m.session, .int .i64 m.id])]; simp [go_sem, Act.eval]) hC (fun wr hC => (rcall_any m.session m.id wr).mono fun e w' ⟨he, hb⟩ => ⟨by rw [he, hp1], hC.below hb⟩) fun a3 W hC F3 => ?_
      refine sz F3 (v := bF) (F3.mr 56) fun a4 F4 => ?_
      refine sm F4 (F4.wg 57 false) fun a5 F5 => ?_
      refine sm F5 (F5.wg 57 false) fun a6 F6 => ?_
      refine sm F6 (F6.wg 57 false) fun a7 F7 => ?_
      refine sm F7 (F7.wg 57 false) fun a8 F8 => ?_
      refine sm F8 (F8.wg 57 false) fun a9 F9 => ?_
      refine sm F9 (F9.wg 57 false) fun a10 F10 => ?_
      refine sm F10 (F10.wg 57 false) fun a11 F11 => ?_
      refine sz F11 (v := bF) (pick_run _ rfl (P := false) (F11.ev 57 (v := bF)) W rfl) fun a12 F12 => ?_
      refine sz F12 (v := bF) (by simp only [execOp, F12.ev 65 (v := bF)]; rfl) fun a13 F13 => ?_
      refine wpList_nil ?_
      show Code.wp _ _ _ _ _
      refine wp_ret ?_
      have h2 : a13.tmps.getD 2 undef = bF := by have := F13.eval 2 (by omega); simpa [Act.eval, upd] using this
      have hfin : bodyPost Try.prog Try.f23 (fun e w' => e = .returned (.bool (validB m)) ∧ Below w.heap.size w w') .ret a13 W := bodyPost_ret (results_tmp Try.results23 _ _ _) F13.defers ⟨by rw [h2]; exact ret_bool (by simp [validB, hin, hal, hkk, hasCap, hinK, hq0, hq1, hp1, hr1]), hC.1⟩
      exact hfin
  · cases hr1 : knownB m.name m.cap m.recaps
    · refine wp_seq ?_
      refine wp_region_list ?_
      refine sz hF (v := (PW w 11)) (hF.fa1 w (by simp [upd, h1, h15])) fun a1 F1 => ?_
      have c11 : W.cell? ⟨w.heap.size, 11, none⟩ = some (.int .i64 m.session) := (hC.2.cell 11).trans (by rw [← HD.out]; rfl)
      have c12 : W.cell? ⟨w.heap.size, 12, none⟩ = some (.int .i64 m.id) := (hC.2.cell 12).trans (by rw [← HD.out]; rfl)
      refine sz F1 (v := .agg #[.int .i64 m.session, .int .i64 m.id]) (by simp only [execOp, F1.ev 54 (v := (PW w 11))]; simp [go_sem, c11, c12]) fun a2 F2 => ?_
      refine scC (C := CC w D) F2 rfl (by omega) wn (k := 49) (args := #[Value.agg #[.int .i64 m.session, .int .i64 m.id]]) (v := bT) (by simp only [execOp, resolve, invoke, List.map_toArray, List.map_cons, List.map_nil, F2.ev 55 (v := .agg #[.int .i64 m.session, .int .i64 m.id])]; simp [go_sem, Act.eval]) hC (fun wr hC => (rcall_any m.session m.id wr).mono fun e w' ⟨he, hb⟩ => ⟨by rw [he, hp1], hC.below hb⟩) fun a3 W hC F3 => ?_
      refine sz F3 (v := bT) (F3.mr 56) fun a4 F4 => ?_
      refine sy F4 rfl (by omega) (F4.wg 57 true) (v := (PW w 1)) (F4.fa1 w (by simp [upd, h1, h15])) fun a5 F5 => ?_
      have c1 : W.cell? ⟨w.heap.size, 1, none⟩ = some (.string ⟨m.name.toArray⟩) := (hC.2.cell 1).trans (by rw [← HD.out]; rfl)
      refine sy F5 rfl (by omega) (F5.wg 57 true) (v := .string ⟨m.name.toArray⟩) (by simp only [execOp, F5.ev 58 (v := (PW w 1))]; simp [go_sem, c1]) fun a6 F6 => ?_
      refine sy F6 rfl (by omega) (F6.wg 57 true) (v := (PW w 2)) (F6.fa1 w (by simp [upd, h1, h15])) fun a7 F7 => ?_
      have c2 : W.cell? ⟨w.heap.size, 2, none⟩ = some (.int .i64 m.cap) := (hC.2.cell 2).trans (by rw [← HD.out]; rfl)
      refine sy F7 rfl (by omega) (F7.wg 57 true) (v := .int .i64 m.cap) (by simp only [execOp, F7.ev 60 (v := (PW w 2))]; simp [go_sem, c2]) fun a8 F8 => ?_
      refine sy F8 rfl (by omega) (F8.wg 57 true) (v := (PW w 3)) (F8.fa1 w (by simp [upd, h1, h15])) fun a9 F9 => ?_
      have c3 : W.cell? ⟨w.heap.size, 3, none⟩ = some (.int .i64 m.recaps) := (hC.2.cell 3).trans (by rw [← HD.out]; rfl)
      refine sy F9 rfl (by omega) (F9.wg 57 true) (v := .int .i64 m.recaps) (by simp only [execOp, F9.ev 62 (v := (PW w 3))]; simp [go_sem, c3]) fun a10 F10 => ?_
      refine scC (C := CC w D) F10 rfl (by omega) (F10.wg 57 true) (k := 53) (args := #[Value.string ⟨m.name.toArray⟩, Value.int .i64 m.cap, Value.int .i64 m.recaps]) (v := bF) (by simp only [execOp, resolve, invoke, List.map_toArray, List.map_cons, List.map_nil, F10.ev 59 (v := .string ⟨m.name.toArray⟩), F10.ev 61 (v := .int .i64 m.cap), F10.ev 63 (v := .int .i64 m.recaps)]; simp [go_sem, Act.eval]) hC (fun wr hC => (rknown_any m.name m.cap m.recaps wr hl).mono fun e w' ⟨he, hw⟩ => ⟨by rw [he, hr1], by rw [hw]; exact hC⟩) fun a11 W hC F11 => ?_
      refine sz F11 (v := bF) (pick_run _ rfl (P := true) (F11.ev 57 (v := bT)) W (by rw [if_pos rfl]; exact F11.ev 64 (v := bF))) fun a12 F12 => ?_
      refine sz F12 (v := bF) (by simp only [execOp, F12.ev 65 (v := bF)]; rfl) fun a13 F13 => ?_
      refine wpList_nil ?_
      show Code.wp _ _ _ _ _
      refine wp_ret ?_
      have h2 : a13.tmps.getD 2 undef = bF := by have := F13.eval 2 (by omega); simpa [Act.eval, upd] using this
      have hfin : bodyPost Try.prog Try.f23 (fun e w' => e = .returned (.bool (validB m)) ∧ Below w.heap.size w w') .ret a13 W := bodyPost_ret (results_tmp Try.results23 _ _ _) F13.defers ⟨by rw [h2]; exact ret_bool (by simp [validB, hin, hal, hkk, hasCap, hinK, hq0, hq1, hp1, hr1]), hC.1⟩
      exact hfin
    · refine wp_seq ?_
      refine wp_region_list ?_
      refine sz hF (v := (PW w 11)) (hF.fa1 w (by simp [upd, h1, h15])) fun a1 F1 => ?_
      have c11 : W.cell? ⟨w.heap.size, 11, none⟩ = some (.int .i64 m.session) := (hC.2.cell 11).trans (by rw [← HD.out]; rfl)
      have c12 : W.cell? ⟨w.heap.size, 12, none⟩ = some (.int .i64 m.id) := (hC.2.cell 12).trans (by rw [← HD.out]; rfl)
      refine sz F1 (v := .agg #[.int .i64 m.session, .int .i64 m.id]) (by simp only [execOp, F1.ev 54 (v := (PW w 11))]; simp [go_sem, c11, c12]) fun a2 F2 => ?_
      refine scC (C := CC w D) F2 rfl (by omega) wn (k := 49) (args := #[Value.agg #[.int .i64 m.session, .int .i64 m.id]]) (v := bT) (by simp only [execOp, resolve, invoke, List.map_toArray, List.map_cons, List.map_nil, F2.ev 55 (v := .agg #[.int .i64 m.session, .int .i64 m.id])]; simp [go_sem, Act.eval]) hC (fun wr hC => (rcall_any m.session m.id wr).mono fun e w' ⟨he, hb⟩ => ⟨by rw [he, hp1], hC.below hb⟩) fun a3 W hC F3 => ?_
      refine sz F3 (v := bT) (F3.mr 56) fun a4 F4 => ?_
      refine sy F4 rfl (by omega) (F4.wg 57 true) (v := (PW w 1)) (F4.fa1 w (by simp [upd, h1, h15])) fun a5 F5 => ?_
      have c1 : W.cell? ⟨w.heap.size, 1, none⟩ = some (.string ⟨m.name.toArray⟩) := (hC.2.cell 1).trans (by rw [← HD.out]; rfl)
      refine sy F5 rfl (by omega) (F5.wg 57 true) (v := .string ⟨m.name.toArray⟩) (by simp only [execOp, F5.ev 58 (v := (PW w 1))]; simp [go_sem, c1]) fun a6 F6 => ?_
      refine sy F6 rfl (by omega) (F6.wg 57 true) (v := (PW w 2)) (F6.fa1 w (by simp [upd, h1, h15])) fun a7 F7 => ?_
      have c2 : W.cell? ⟨w.heap.size, 2, none⟩ = some (.int .i64 m.cap) := (hC.2.cell 2).trans (by rw [← HD.out]; rfl)
      refine sy F7 rfl (by omega) (F7.wg 57 true) (v := .int .i64 m.cap) (by simp only [execOp, F7.ev 60 (v := (PW w 2))]; simp [go_sem, c2]) fun a8 F8 => ?_
      refine sy F8 rfl (by omega) (F8.wg 57 true) (v := (PW w 3)) (F8.fa1 w (by simp [upd, h1, h15])) fun a9 F9 => ?_
      have c3 : W.cell? ⟨w.heap.size, 3, none⟩ = some (.int .i64 m.recaps) := (hC.2.cell 3).trans (by rw [← HD.out]; rfl)
      refine sy F9 rfl (by omega) (F9.wg 57 true) (v := .int .i64 m.recaps) (by simp only [execOp, F9.ev 62 (v := (PW w 3))]; simp [go_sem, c3]) fun a10 F10 => ?_
      refine scC (C := CC w D) F10 rfl (by omega) (F10.wg 57 true) (k := 53) (args := #[Value.string ⟨m.name.toArray⟩, Value.int .i64 m.cap, Value.int .i64 m.recaps]) (v := bT) (by simp only [execOp, resolve, invoke, List.map_toArray, List.map_cons, List.map_nil, F10.ev 59 (v := .string ⟨m.name.toArray⟩), F10.ev 61 (v := .int .i64 m.cap), F10.ev 63 (v := .int .i64 m.recaps)]; simp [go_sem, Act.eval]) hC (fun wr hC => (rknown_any m.name m.cap m.recaps wr hl).mono fun e w' ⟨he, hw⟩ => ⟨by rw [he, hr1], by rw [hw]; exact hC⟩) fun a11 W hC F11 => ?_
      refine sz F11 (v := bT) (pick_run _ rfl (P := true) (F11.ev 57 (v := bT)) W (by rw [if_pos rfl]; exact F11.ev 64 (v := bT))) fun a12 F12 => ?_
      refine sz F12 (v := bT) (by simp only [execOp, F12.ev 65 (v := bT)]; rfl) fun a13 F13 => ?_
      refine wpList_nil ?_
      show Code.wp _ _ _ _ _
      refine wp_ret ?_
      have h2 : a13.tmps.getD 2 undef = bT := by have := F13.eval 2 (by omega); simpa [Act.eval, upd] using this
      have hfin : bodyPost Try.prog Try.f23 (fun e w' => e = .returned (.bool (validB m)) ∧ Below w.heap.size w w') .ret a13 W := bodyPost_ret (results_tmp Try.results23 _ _ _) F13.defers ⟨by rw [h2]; exact ret_bool (by simp [validB, hin, hal, hkk, hasCap, hinK, hq0, hq1, hp1, hr1]), hC.1⟩
      exact hfin
set_option maxRecDepth 100000 in
set_option maxHeartbeats 3200000 in
theorem rvalid2c (m : Msg) (ao : Option Addr) (cv : Nat) (w : World) (D : Array Value) (HD : Hid (msgCells m (.slice ao m.views.length cv) = D)) (hl : m.name.length ≤ 140737488355328) (hol : m.oname.length ≤ 140737488355328) (hsrc : VFrom w ao m.views) (hsb : ∀ b o, ao = some ⟨b, o, none⟩ → 0 < m.views.length → b < w.heap.size) (hnm : ∀ x ∈ m.views, x.name.length ≤ 140737488355328) (hkk : m.kind = 2) (hq0 : ¬ m.err = 0) (hq1 : ¬ m.err = 101) (hin : inB m.kind 1 10 = true) (hal : alikeB m (shapeM m) = true) :
    Calls Try.prog 23 #[.agg D] w (fun e w' => e = .returned (.bool (validB m)) ∧ Below w.heap.size w w') := by
  have HV : Hid _ := And.intro hsrc (And.intro hsb hnm)
  clear hsrc hsb hnm
  refine calls_of_wp Try.func23 rfl ?_
  have e : Try.f23.ntmps - (#[Value.agg D] : Array Value).size = 107 := by rw [Try.ntmps23]; rfl
  rw [e]
  have hF0 := frame_init1 (.agg D) 107
  generalize ({ tmps := #[Value.agg D] ++ Array.replicate 107 undef, defers := [] } : Act) = a0 at *
  have hC0 : CC w D (w.alloc (.cells D 35)) := ⟨by go_grown, heap_alloc_new w _⟩
  refine wp_seq (wp_region_list ?_)
  refine sw hF0 rfl (by omega) wn (v := .pointer (some ⟨w.heap.size, 0, none⟩)) (w' := w.alloc (.cells D 35)) (by simp only [execOp, hF0.eval 0 (by omega), if_true, Sem.run_bind, run_box']; rfl) fun a1 F1 => ?_
  refine sz F1 (v := .bool false) (by simp [execOp, Act.eval]) fun a2 F2 => ?_
  refine wpList_nil ?_
  show Code.wp _ _ _ _ _
  refine wp_seq ?_
  refine wp_seq ?_
  generalize w.alloc (.cells D 35) = W0 at *
  refine wp_region_quiet (C := CC w D) (by kernel_rfl) (by kernel_rfl) (by exact hC0.drew) ?_
  refine doneV (t := 2) (v1 := .pointer (some ⟨w.heap.size, 0, none⟩)) (v15 := undef) F2 (by simp [upd]) (by simp [upd]) (upd_eq _ _ _) fun f hF h1 h15 h2 => ?_
  clear hF0 F1 F2 h2
  have hi35 : (Try.prog.info? 35).map (·.size) = some D.size := by rw [← HD.out]; kernel_rfl
  have HS : Hid _ := (show ∀ wr, Calls Try.prog 48 #[.agg D] wr (fun e w' => e = .returned (.agg (msgCells (shapeM m) (.slice (shapeAo m.kind ao) (shapeM m).views.length (shapeCv m.kind cv)))) ∧ Below wr.heap.size wr w') from by rw [← HD.out]; exact fun wr => rshape_any m ao cv wr (by simpa [inB] using hin))
  have HK : Hid _ := (show ∀ wr, Calls Try.prog 47 #[.agg D, .agg (msgCells (shapeM m) (.slice (shapeAo m.kind ao) (shapeM m).views.length (shapeCv m.kind cv)))] wr (fun e w' => e = .returned (.bool (alikeB m (shapeM m))) ∧ Below wr.heap.size wr w') from by rw [← HD.out]; exact fun wr => ralike_any m (shapeM m) ao _ cv _ wr)
  have hinK : inB 2 1 10 = true := by decide
  refine qy hF rfl (by omega) wn (v := (PW w 0)) (fun W hC => by simp only [execOp, hF.ev 1 (v := (PW w 0)) (by simp [upd, h1, h15])]; simp [go_sem]) fun a1 F1 => ?_
  refine qy F1 rfl (by omega) wn (v := .int .i64 m.kind) (fun W hC => by simp only [execOp, F1.ev 3 (v := (PW w 0))]; simp [go_sem, (show W.cell? ⟨w.heap.size, 0, none⟩ = some (.int .i64 m.kind) from (hC.2.cell 0).trans (by rw [← HD.out]; rfl))]) fun a2 F2 => ?_
  refine qc F2 rfl (by omega) wn (k := 46) (args := #[Value.int .i64 m.kind, Value.int .i64 1, Value.int .i64 10]) (v := bT) (fun W hC => by simp only [execOp, resolve, invoke, List.map_toArray, List.map_cons, List.map_nil, F2.ev 4 (v := .int .i64 m.kind)]; simp [go_sem, Act.eval]) (fun wr hC => (rwithin_any m.kind 1 10 wr).mono fun e w' ⟨he, hw⟩ => ⟨by rw [he, hin], by rw [hw]; exact hC⟩) fun a3 F3 => ?_
  refine qy F3 rfl (by omega) wn (v := bF) (fun W hC => by simp only [execOp, F3.ev 5 (v := bT)]; simp [go_sem]) fun a4 F4 => ?_
  refine qy F4 rfl (by omega) wn (v := bF) (fun W hC => by simp only [execOp, F4.ev 6 (v := bF)]; rfl) fun a5 F5 => ?_
  refine qy F5 rfl (by omega) (F5.wg 7 false) (v := .agg D) (fun W hC => by simp only [execOp, F5.ev 1 (v := (PW w 0)) (by simp [upd, h1, h15]), Instr.loadAt, Instr.sureAddr, Sem.run_bind, Sem.run_pure, Result.andThen_ok, run_loadVar_row W w.heap.size 35 35 D (0, 0) _ hC.2 Try.underlying35 rfl hi35]) fun a6 F6 => ?_
  refine qy F6 rfl (by omega) (F6.wg 7 false) (v := .agg D) (fun W hC => by simp only [execOp, F6.ev 1 (v := (PW w 0)) (by simp [upd, h1, h15]), Instr.loadAt, Instr.sureAddr, Sem.run_bind, Sem.run_pure, Result.andThen_ok, run_loadVar_row W w.heap.size 35 35 D (0, 0) _ hC.2 Try.underlying35 rfl hi35]) fun a7 F7 => ?_
  refine qc F7 rfl (by omega) (F7.wg 7 false) (k := 48) (args := #[Value.agg D]) (v := .agg (msgCells (shapeM m) (.slice (shapeAo m.kind ao) (shapeM m).views.length (shapeCv m.kind cv)))) (fun W hC => by simp only [execOp, resolve, invoke, List.map_toArray, List.map_cons, List.map_nil, F7.ev 9 (v := .agg D)]; simp [go_sem, Act.eval]) (fun wr hC => (HS.out wr).mono fun e w' ⟨he, hb⟩ => ⟨he, hC.below hb⟩) fun a8 F8 => ?_
  refine qc F8 rfl (by omega) (F8.wg 7 false) (k := 47) (args := #[Value.agg D, Value.agg (msgCells (shapeM m) (.slice (shapeAo m.kind ao) (shapeM m).views.length (shapeCv m.kind cv)))]) (v := bT) (fun W hC => by simp only [execOp, resolve, invoke, List.map_toArray, List.map_cons, List.map_nil, F8.ev 8 (v := .agg D), F8.ev 10 (v := .agg (msgCells (shapeM m) (.slice (shapeAo m.kind ao) (shapeM m).views.length (shapeCv m.kind cv))))]; simp [go_sem, Act.eval]) (fun wr hC => (HK.out wr).mono fun e w' ⟨he, hb⟩ => ⟨by rw [he, hal], hC.below hb⟩) fun a9 F9 => ?_
  refine qy F9 rfl (by omega) (F9.wg 7 false) (v := bF) (fun W hC => by simp only [execOp, F9.ev 11 (v := bT)]; simp [go_sem]) fun a10 F10 => ?_
  refine qy F10 rfl (by omega) wn (v := bF) (fun W hC => pick_run _ rfl (P := false) (F10.ev 7 (v := bF)) W (by rw [if_neg (by decide)]; exact F10.ev 12 (v := bF))) fun a11 F11 => ?_
  refine wpQuiet_nil fun W hC => ?_
  show Code.wp _ _ _ _ _
  refine doneV (t := 13) (v1 := (PW w 0)) (v15 := undef) (vt := bF) F11 (by simp [upd, h1]) (by simp [upd, h15]) (upd_eq _ _ _) fun f hF h1 h15 hp => ?_
  clear F1 F2 F3 F4 F5 F6 F7 F8 F9 F10 F11
  refine wp_cond_false ((hF.eval 13 (by omega)).trans hp) ?_
  clear hp
  refine wp_skip ?_
  show Code.wp _ _ _ _ _
  refine wp_seq ?_
  refine wp_seq (wp_region_list ?_)
  refine sz hF (v := (PW w 0)) (hF.fa1 w (by simp [upd, h1, h15])) fun a1 F1 => ?_
  have c0 : W.cell? ⟨w.heap.size, 0, none⟩ = some (.int .i64 m.kind) := (hC.2.cell 0).trans (by rw [← HD.out]; rfl)
  refine sz F1 (v := .int .i64 m.kind) (by simp only [execOp, F1.ev 14 (v := (PW w 0))]; simp [go_sem, c0]) fun a2 F2 => ?_
  refine wpList_nil ?_
  show Code.wp _ _ _ _ _
  refine doneV (t := 14) (v1 := (PW w 0)) (v15 := Value.int .i64 m.kind) (vt := (PW w 0)) F2 (by simp [upd, h1]) (by simp [upd]) (by simp [upd]) fun f hF h1 h15 hp => ?_
  clear F1 F2 hp
  refine wp_block ?_
  refine wp_seq (wp_region_list ?_)
  refine sz hF (v := bF) (by simp only [execOp, hF.ev 15 (v := .int .i64 m.kind) (by simp [upd, h1, h15])]; simp [go_sem, Act.eval, hkk]) fun a1 F1 => ?_
  refine sz F1 (v := bF) (by simp only [execOp, F1.ev 17 (v := bF)]; rfl) fun a2 F2 => ?_
  refine wpList_nil ?_
  show Code.wp _ _ _ _ _
  refine doneV (t := 16) (v1 := (PW w 0)) (v15 := Value.int .i64 m.kind) (vt := bF) F2 (by simp [upd, h1]) (by simp [upd, h15]) (by simp [upd]) fun f hF h1 h15 hp => ?_
  clear F1 F2
  refine wp_cond_false ((hF.eval 16 (by omega)).trans hp) ?_
  clear hp
  refine wp_seq (wp_region_list ?_)
  refine sz hF (v := bF) (by simp only [execOp, hF.ev 15 (v := .int .i64 m.kind) (by simp [upd, h1, h15])]; simp [go_sem, Act.eval, hkk]) fun a1 F1 => ?_
  refine sz F1 (v := bF) (by simp only [execOp, F1.ev 27 (v := bF)]; rfl) fun a2 F2 => ?_
  refine wpList_nil ?_
  show Code.wp _ _ _ _ _
  refine doneV (t := 26) (v1 := (PW w 0)) (v15 := Value.int .i64 m.kind) (vt := bF) F2 (by simp [upd, h1]) (by simp [upd, h15]) (by simp [upd]) fun f hF h1 h15 hp => ?_
  clear F1 F2
  refine wp_cond_false ((hF.eval 26 (by omega)).trans hp) ?_
  clear hp
  refine wp_seq (wp_region_list ?_)
  refine sz hF (v := bT) (by simp only [execOp, hF.ev 15 (v := .int .i64 m.kind) (by simp [upd, h1, h15])]; simp [go_sem, Act.eval, hkk]) fun a1 F1 => ?_
  refine sz F1 (v := bT) (by simp only [execOp, F1.ev 32 (v := bT)]; rfl) fun a2 F2 => ?_
  refine wpList_nil ?_
  show Code.wp _ _ _ _ _
  refine doneV (t := 31) (v1 := (PW w 0)) (v15 := Value.int .i64 m.kind) (vt := bT) F2 (by simp [upd, h1]) (by simp [upd, h15]) (by simp [upd]) fun f hF h1 h15 hp => ?_
  clear F1 F2
  refine wp_cond_true ((hF.eval 31 (by omega)).trans hp) ?_
  clear hp
  refine wp_seq ?_
  refine wp_seq (wp_region_list ?_)
  refine sz hF (v := (PW w 17)) (hF.fa1 w (by simp [upd, h1, h15])) fun a1 F1 => ?_
  have c17 : W.cell? ⟨w.heap.size, 17, none⟩ = some (.int .i64 m.err) := (hC.2.cell 17).trans (by rw [← HD.out]; rfl)
  refine sz F1 (v := .int .i64 m.err) (by simp only [execOp, F1.ev 33 (v := (PW w 17))]; simp [go_sem, c17]) fun a2 F2 => ?_
  refine sz F2 (v := bT) (by simp only [execOp, F2.ev 34 (v := .int .i64 m.err)]; simp [go_sem, Act.eval, hq0, hq1]) fun a3 F3 => ?_
  refine sz F3 (v := bT) (F3.mr 35) fun a4 F4 => ?_
  refine sy F4 rfl (by omega) (F4.wg 36 true) (v := (PW w 17)) (F4.fa1 w (by simp [upd, h1, h15])) fun a5 F5 => ?_
  have c17 : W.cell? ⟨w.heap.size, 17, none⟩ = some (.int .i64 m.err) := (hC.2.cell 17).trans (by rw [← HD.out]; rfl)
  refine sy F5 rfl (by omega) (F5.wg 36 true) (v := .int .i64 m.err) (by simp only [execOp, F5.ev 37 (v := (PW w 17))]; simp [go_sem, c17]) fun a6 F6 => ?_
  refine sy F6 rfl (by omega) (F6.wg 36 true) (v := bT) (by simp only [execOp, F6.ev 38 (v := .int .i64 m.err)]; simp [go_sem, Act.eval, hq0, hq1]) fun a7 F7 => ?_
  refine sz F7 (v := bT) (pick_run _ rfl (P := true) (F7.ev 36 (v := bT)) W (by rw [if_pos rfl]; exact F7.ev 39 (v := bT))) fun a8 F8 => ?_
  refine wpList_nil ?_
  show Code.wp _ _ _ _ _
  refine doneV (t := 40) (v1 := (PW w 0)) (v15 := Value.int .i64 m.kind) (vt := bT) F8 (by simp [upd, h1]) (by simp [upd, h15]) (by simp [upd]) fun f hF h1 h15 hp => ?_
  clear F1 F2 F3 F4 F5 F6 F7 F8
  refine wp_cond_true ((hF.eval 40 (by omega)).trans hp) ?_
  clear hp
  cases hp1 : callB m.session m.id
  · cases hr1 : nameB m.name
    · cases hs1 : inB m.err 0 255
      · refine wp_seq ?_
        refine wp_region_list ?_
        refine sz hF (v := (PW w 11)) (hF.fa1 w (by simp [upd, h1, h15])) fun a1 F1 => ?_
        have c11 : W.cell? ⟨w.heap.size, 11, none⟩ = some (.int .i64 m.session) := (hC.2.cell 11).trans (by rw [← HD.out]; rfl)
        have c12 : W.cell? ⟨w.heap.size, 12, none⟩ = some (.int .i64 m.id) := (hC.2.cell 12).trans (by rw [← HD.out]; rfl)
        refine sz F1 (v := .agg #[.int .i64 m.session, .int .i64 m.id]) (by simp only [execOp, F1.ev 41 (v := (PW w 11))]; simp [go_sem, c11, c12]) fun a2 F2 => ?_
        refine scC (C := CC w D) F2 rfl (by omega) wn (k := 49) (args := #[Value.agg #[.int .i64 m.session, .int .i64 m.id]]) (v := bF) (by simp only [execOp, resolve, invoke, List.map_toArray, List.map_cons, List.map_nil, F2.ev 42 (v := .agg #[.int .i64 m.session, .int .i64 m.id])]; simp [go_sem, Act.eval]) hC (fun wr hC => (rcall_any m.session m.id wr).mono fun e w' ⟨he, hb⟩ => ⟨by rw [he, hp1], hC.below hb⟩) fun a3 W hC F3 => ?_
        refine sz F3 (v := bF) (F3.mr 43) fun a4 F4 => ?_
        refine sm F4 (F4.wg 44 false) fun a5 F5 => ?_
        refine sm F5 (F5.wg 44 false) fun a6 F6 => ?_
        refine sm F6 (F6.wg 44 false) fun a7 F7 => ?_
        refine sz F7 (v := bF) (pick_run _ rfl (P := false) (F7.ev 44 (v := bF)) W rfl) fun a8 F8 => ?_
        refine sz F8 (v := bF) (F8.mr 48) fun a9 F9 => ?_
        refine sm F9 (F9.wg 49 false) fun a10 F10 => ?_
        refine sm F10 (F10.wg 49 false) fun a11 F11 => ?_
        refine sm F11 (F11.wg 49 false) fun a12 F12 => ?_
        refine sz F12 (v := bF) (pick_run _ rfl (P := false) (F12.ev 49 (v := bF)) W rfl) fun a13 F13 => ?_
        refine sz F13 (v := bF) (by simp only [execOp, F13.ev 53 (v := bF)]; rfl) fun a14 F14 => ?_
        refine wpList_nil ?_
        show Code.wp _ _ _ _ _
        refine wp_ret ?_
        have h2 : a14.tmps.getD 2 undef = bF := by have := F14.eval 2 (by omega); simpa [Act.eval, upd] using this
        have hfin : bodyPost Try.prog Try.f23 (fun e w' => e = .returned (.bool (validB m)) ∧ Below w.heap.size w w') .ret a14 W := bodyPost_ret (results_tmp Try.results23 _ _ _) F14.defers ⟨by rw [h2]; exact ret_bool (by simp [validB, hin, hal, hkk, hasCap, hinK, hq0, hq1, hp1, hr1, hs1]), hC.1⟩
        exact hfin
      · refine wp_seq ?_
        refine wp_region_list ?_
        refine sz hF (v := (PW w 11)) (hF.fa1 w (by simp [upd, h1, h15])) fun a1 F1 => ?_
        have c11 : W.cell? ⟨w.heap.size, 11, none⟩ = some (.int .i64 m.session) := (hC.2.cell 11).trans (by rw [← HD.out]; rfl)
        have c12 : W.cell? ⟨w.heap.size, 12, none⟩ = some (.int .i64 m.id) := (hC.2.cell 12).trans (by rw [← HD.out]; rfl)
        refine sz F1 (v := .agg #[.int .i64 m.session, .int .i64 m.id]) (by simp only [execOp, F1.ev 41 (v := (PW w 11))]; simp [go_sem, c11, c12]) fun a2 F2 => ?_
        refine scC (C := CC w D) F2 rfl (by omega) wn (k := 49) (args := #[Value.agg #[.int .i64 m.session, .int .i64 m.id]]) (v := bF) (by simp only [execOp, resolve, invoke, List.map_toArray, List.map_cons, List.map_nil, F2.ev 42 (v := .agg #[.int .i64 m.session, .int .i64 m.id])]; simp [go_sem, Act.eval]) hC (fun wr hC => (rcall_any m.session m.id wr).mono fun e w' ⟨he, hb⟩ => ⟨by rw [he, hp1], hC.below hb⟩) fun a3 W hC F3 => ?_
        refine sz F3 (v := bF) (F3.mr 43) fun a4 F4 => ?_
        refine sm F4 (F4.wg 44 false) fun a5 F5 => ?_
        refine sm F5 (F5.wg 44 false) fun a6 F6 => ?_
        refine sm F6 (F6.wg 44 false) fun a7 F7 => ?_
        refine sz F7 (v := bF) (pick_run _ rfl (P := false) (F7.ev 44 (v := bF)) W rfl) fun a8 F8 => ?_
        refine sz F8 (v := bF) (F8.mr 48) fun a9 F9 => ?_
        refine sm F9 (F9.wg 49 false) fun a10 F10 => ?_
        refine sm F10 (F10.wg 49 false) fun a11 F11 => ?_
        refine sm F11 (F11.wg 49 false) fun a12 F12 => ?_
        refine sz F12 (v := bF) (pick_run _ rfl (P := false) (F12.ev 49 (v := bF)) W rfl) fun a13 F13 => ?_
        refine sz F13 (v := bF) (by simp only [execOp, F13.ev 53 (v := bF)]; rfl) fun a14 F14 => ?_
        refine wpList_nil ?_
        show Code.wp _ _ _ _ _
        refine wp_ret ?_
        have h2 : a14.tmps.getD 2 undef = bF := by have := F14.eval 2 (by omega); simpa [Act.eval, upd] using this
        have hfin : bodyPost Try.prog Try.f23 (fun e w' => e = .returned (.bool (validB m)) ∧ Below w.heap.size w w') .ret a14 W := bodyPost_ret (results_tmp Try.results23 _ _ _) F14.defers ⟨by rw [h2]; exact ret_bool (by simp [validB, hin, hal, hkk, hasCap, hinK, hq0, hq1, hp1, hr1, hs1]), hC.1⟩
        exact hfin
    · cases hs1 : inB m.err 0 255
      · refine wp_seq ?_
        refine wp_region_list ?_
        refine sz hF (v := (PW w 11)) (hF.fa1 w (by simp [upd, h1, h15])) fun a1 F1 => ?_
        have c11 : W.cell? ⟨w.heap.size, 11, none⟩ = some (.int .i64 m.session) := (hC.2.cell 11).trans (by rw [← HD.out]; rfl)
        have c12 : W.cell? ⟨w.heap.size, 12, none⟩ = some (.int .i64 m.id) := (hC.2.cell 12).trans (by rw [← HD.out]; rfl)
        refine sz F1 (v := .agg #[.int .i64 m.session, .int .i64 m.id]) (by simp only [execOp, F1.ev 41 (v := (PW w 11))]; simp [go_sem, c11, c12]) fun a2 F2 => ?_
        refine scC (C := CC w D) F2 rfl (by omega) wn (k := 49) (args := #[Value.agg #[.int .i64 m.session, .int .i64 m.id]]) (v := bF) (by simp only [execOp, resolve, invoke, List.map_toArray, List.map_cons, List.map_nil, F2.ev 42 (v := .agg #[.int .i64 m.session, .int .i64 m.id])]; simp [go_sem, Act.eval]) hC (fun wr hC => (rcall_any m.session m.id wr).mono fun e w' ⟨he, hb⟩ => ⟨by rw [he, hp1], hC.below hb⟩) fun a3 W hC F3 => ?_
        refine sz F3 (v := bF) (F3.mr 43) fun a4 F4 => ?_
        refine sm F4 (F4.wg 44 false) fun a5 F5 => ?_
        refine sm F5 (F5.wg 44 false) fun a6 F6 => ?_
        refine sm F6 (F6.wg 44 false) fun a7 F7 => ?_
        refine sz F7 (v := bF) (pick_run _ rfl (P := false) (F7.ev 44 (v := bF)) W rfl) fun a8 F8 => ?_
        refine sz F8 (v := bF) (F8.mr 48) fun a9 F9 => ?_
        refine sm F9 (F9.wg 49 false) fun a10 F10 => ?_
        refine sm F10 (F10.wg 49 false) fun a11 F11 => ?_
        refine sm F11 (F11.wg 49 false) fun a12 F12 => ?_
        refine sz F12 (v := bF) (pick_run _ rfl (P := false) (F12.ev 49 (v := bF)) W rfl) fun a13 F13 => ?_
        refine sz F13 (v := bF) (by simp only [execOp, F13.ev 53 (v := bF)]; rfl) fun a14 F14 => ?_
        refine wpList_nil ?_
        show Code.wp _ _ _ _ _
        refine wp_ret ?_
        have h2 : a14.tmps.getD 2 undef = bF := by have := F14.eval 2 (by omega); simpa [Act.eval, upd] using this
        have hfin : bodyPost Try.prog Try.f23 (fun e w' => e = .returned (.bool (validB m)) ∧ Below w.heap.size w w') .ret a14 W := bodyPost_ret (results_tmp Try.results23 _ _ _) F14.defers ⟨by rw [h2]; exact ret_bool (by simp [validB, hin, hal, hkk, hasCap, hinK, hq0, hq1, hp1, hr1, hs1]), hC.1⟩
        exact hfin
      · refine wp_seq ?_
        refine wp_region_list ?_
        refine sz hF (v := (PW w 11)) (hF.fa1 w (by simp [upd, h1, h15])) fun a1 F1 => ?_
        have c11 : W.cell? ⟨w.heap.size, 11, none⟩ = some (.int .i64 m.session) := (hC.2.cell 11).trans (by rw [← HD.out]; rfl)
        have c12 : W.cell? ⟨w.heap.size, 12, none⟩ = some (.int .i64 m.id) := (hC.2.cell 12).trans (by rw [← HD.out]; rfl)
        refine sz F1 (v := .agg #[.int .i64 m.session, .int .i64 m.id]) (by simp only [execOp, F1.ev 41 (v := (PW w 11))]; simp [go_sem, c11, c12]) fun a2 F2 => ?_
        refine scC (C := CC w D) F2 rfl (by omega) wn (k := 49) (args := #[Value.agg #[.int .i64 m.session, .int .i64 m.id]]) (v := bF) (by simp only [execOp, resolve, invoke, List.map_toArray, List.map_cons, List.map_nil, F2.ev 42 (v := .agg #[.int .i64 m.session, .int .i64 m.id])]; simp [go_sem, Act.eval]) hC (fun wr hC => (rcall_any m.session m.id wr).mono fun e w' ⟨he, hb⟩ => ⟨by rw [he, hp1], hC.below hb⟩) fun a3 W hC F3 => ?_
        refine sz F3 (v := bF) (F3.mr 43) fun a4 F4 => ?_
        refine sm F4 (F4.wg 44 false) fun a5 F5 => ?_
        refine sm F5 (F5.wg 44 false) fun a6 F6 => ?_
        refine sm F6 (F6.wg 44 false) fun a7 F7 => ?_
        refine sz F7 (v := bF) (pick_run _ rfl (P := false) (F7.ev 44 (v := bF)) W rfl) fun a8 F8 => ?_
        refine sz F8 (v := bF) (F8.mr 48) fun a9 F9 => ?_
        refine sm F9 (F9.wg 49 false) fun a10 F10 => ?_
        refine sm F10 (F10.wg 49 false) fun a11 F11 => ?_
        refine sm F11 (F11.wg 49 false) fun a12 F12 => ?_
        refine sz F12 (v := bF) (pick_run _ rfl (P := false) (F12.ev 49 (v := bF)) W rfl) fun a13 F13 => ?_
        refine sz F13 (v := bF) (by simp only [execOp, F13.ev 53 (v := bF)]; rfl) fun a14 F14 => ?_
        refine wpList_nil ?_
        show Code.wp _ _ _ _ _
        refine wp_ret ?_
        have h2 : a14.tmps.getD 2 undef = bF := by have := F14.eval 2 (by omega); simpa [Act.eval, upd] using this
        have hfin : bodyPost Try.prog Try.f23 (fun e w' => e = .returned (.bool (validB m)) ∧ Below w.heap.size w w') .ret a14 W := bodyPost_ret (results_tmp Try.results23 _ _ _) F14.defers ⟨by rw [h2]; exact ret_bool (by simp [validB, hin, hal, hkk, hasCap, hinK, hq0, hq1, hp1, hr1, hs1]), hC.1⟩
        exact hfin
  · cases hr1 : nameB m.name
    · cases hs1 : inB m.err 0 255
      · refine wp_seq ?_
        refine wp_region_list ?_
        refine sz hF (v := (PW w 11)) (hF.fa1 w (by simp [upd, h1, h15])) fun a1 F1 => ?_
        have c11 : W.cell? ⟨w.heap.size, 11, none⟩ = some (.int .i64 m.session) := (hC.2.cell 11).trans (by rw [← HD.out]; rfl)
        have c12 : W.cell? ⟨w.heap.size, 12, none⟩ = some (.int .i64 m.id) := (hC.2.cell 12).trans (by rw [← HD.out]; rfl)
        refine sz F1 (v := .agg #[.int .i64 m.session, .int .i64 m.id]) (by simp only [execOp, F1.ev 41 (v := (PW w 11))]; simp [go_sem, c11, c12]) fun a2 F2 => ?_
        refine scC (C := CC w D) F2 rfl (by omega) wn (k := 49) (args := #[Value.agg #[.int .i64 m.session, .int .i64 m.id]]) (v := bT) (by simp only [execOp, resolve, invoke, List.map_toArray, List.map_cons, List.map_nil, F2.ev 42 (v := .agg #[.int .i64 m.session, .int .i64 m.id])]; simp [go_sem, Act.eval]) hC (fun wr hC => (rcall_any m.session m.id wr).mono fun e w' ⟨he, hb⟩ => ⟨by rw [he, hp1], hC.below hb⟩) fun a3 W hC F3 => ?_
        refine sz F3 (v := bT) (F3.mr 43) fun a4 F4 => ?_
        refine sy F4 rfl (by omega) (F4.wg 44 true) (v := (PW w 1)) (F4.fa1 w (by simp [upd, h1, h15])) fun a5 F5 => ?_
        have c1 : W.cell? ⟨w.heap.size, 1, none⟩ = some (.string ⟨m.name.toArray⟩) := (hC.2.cell 1).trans (by rw [← HD.out]; rfl)
        refine sy F5 rfl (by omega) (F5.wg 44 true) (v := .string ⟨m.name.toArray⟩) (by simp only [execOp, F5.ev 45 (v := (PW w 1))]; simp [go_sem, c1]) fun a6 F6 => ?_
        refine scC (C := CC w D) F6 rfl (by omega) (F6.wg 44 true) (k := 52) (args := #[Value.string ⟨m.name.toArray⟩]) (v := bF) (by simp only [execOp, resolve, invoke, List.map_toArray, List.map_cons, List.map_nil, F6.ev 46 (v := .string ⟨m.name.toArray⟩)]; simp [go_sem, Act.eval]) hC (fun wr hC => (rname_any m.name wr hl).mono fun e w' ⟨he, hw⟩ => ⟨by rw [he, hr1], by rw [hw]; exact hC⟩) fun a7 W hC F7 => ?_
        refine sz F7 (v := bF) (pick_run _ rfl (P := true) (F7.ev 44 (v := bT)) W (by rw [if_pos rfl]; exact F7.ev 47 (v := bF))) fun a8 F8 => ?_
        refine sz F8 (v := bF) (F8.mr 48) fun a9 F9 => ?_
        refine sm F9 (F9.wg 49 false) fun a10 F10 => ?_
        refine sm F10 (F10.wg 49 false) fun a11 F11 => ?_
        refine sm F11 (F11.wg 49 false) fun a12 F12 => ?_
        refine sz F12 (v := bF) (pick_run _ rfl (P := false) (F12.ev 49 (v := bF)) W rfl) fun a13 F13 => ?_
        refine sz F13 (v := bF) (by simp only [execOp, F13.ev 53 (v := bF)]; rfl) fun a14 F14 => ?_
        refine wpList_nil ?_
        show Code.wp _ _ _ _ _
        refine wp_ret ?_
        have h2 : a14.tmps.getD 2 undef = bF := by have := F14.eval 2 (by omega); simpa [Act.eval, upd] using this
        have hfin : bodyPost Try.prog Try.f23 (fun e w' => e = .returned (.bool (validB m)) ∧ Below w.heap.size w w') .ret a14 W := bodyPost_ret (results_tmp Try.results23 _ _ _) F14.defers ⟨by rw [h2]; exact ret_bool (by simp [validB, hin, hal, hkk, hasCap, hinK, hq0, hq1, hp1, hr1, hs1]), hC.1⟩
        exact hfin
      · refine wp_seq ?_
        refine wp_region_list ?_
        refine sz hF (v := (PW w 11)) (hF.fa1 w (by simp [upd, h1, h15])) fun a1 F1 => ?_
        have c11 : W.cell? ⟨w.heap.size, 11, none⟩ = some (.int .i64 m.session) := (hC.2.cell 11).trans (by rw [← HD.out]; rfl)
        have c12 : W.cell? ⟨w.heap.size, 12, none⟩ = some (.int .i64 m.id) := (hC.2.cell 12).trans (by rw [← HD.out]; rfl)
        refine sz F1 (v := .agg #[.int .i64 m.session, .int .i64 m.id]) (by simp only [execOp, F1.ev 41 (v := (PW w 11))]; simp [go_sem, c11, c12]) fun a2 F2 => ?_
        refine scC (C := CC w D) F2 rfl (by omega) wn (k := 49) (args := #[Value.agg #[.int .i64 m.session, .int .i64 m.id]]) (v := bT) (by simp only [execOp, resolve, invoke, List.map_toArray, List.map_cons, List.map_nil, F2.ev 42 (v := .agg #[.int .i64 m.session, .int .i64 m.id])]; simp [go_sem, Act.eval]) hC (fun wr hC => (rcall_any m.session m.id wr).mono fun e w' ⟨he, hb⟩ => ⟨by rw [he, hp1], hC.below hb⟩) fun a3 W hC F3 => ?_
        refine sz F3 (v := bT) (F3.mr 43) fun a4 F4 => ?_
        refine sy F4 rfl (by omega) (F4.wg 44 true) (v := (PW w 1)) (F4.fa1 w (by simp [upd, h1, h15])) fun a5 F5 => ?_
        have c1 : W.cell? ⟨w.heap.size, 1, none⟩ = some (.string ⟨m.name.toArray⟩) := (hC.2.cell 1).trans (by rw [← HD.out]; rfl)
        refine sy F5 rfl (by omega) (F5.wg 44 true) (v := .string ⟨m.name.toArray⟩) (by simp only [execOp, F5.ev 45 (v := (PW w 1))]; simp [go_sem, c1]) fun a6 F6 => ?_
        refine scC (C := CC w D) F6 rfl (by omega) (F6.wg 44 true) (k := 52) (args := #[Value.string ⟨m.name.toArray⟩]) (v := bF) (by simp only [execOp, resolve, invoke, List.map_toArray, List.map_cons, List.map_nil, F6.ev 46 (v := .string ⟨m.name.toArray⟩)]; simp [go_sem, Act.eval]) hC (fun wr hC => (rname_any m.name wr hl).mono fun e w' ⟨he, hw⟩ => ⟨by rw [he, hr1], by rw [hw]; exact hC⟩) fun a7 W hC F7 => ?_
        refine sz F7 (v := bF) (pick_run _ rfl (P := true) (F7.ev 44 (v := bT)) W (by rw [if_pos rfl]; exact F7.ev 47 (v := bF))) fun a8 F8 => ?_
        refine sz F8 (v := bF) (F8.mr 48) fun a9 F9 => ?_
        refine sm F9 (F9.wg 49 false) fun a10 F10 => ?_
        refine sm F10 (F10.wg 49 false) fun a11 F11 => ?_
        refine sm F11 (F11.wg 49 false) fun a12 F12 => ?_
        refine sz F12 (v := bF) (pick_run _ rfl (P := false) (F12.ev 49 (v := bF)) W rfl) fun a13 F13 => ?_
        refine sz F13 (v := bF) (by simp only [execOp, F13.ev 53 (v := bF)]; rfl) fun a14 F14 => ?_
        refine wpList_nil ?_
        show Code.wp _ _ _ _ _
        refine wp_ret ?_
        have h2 : a14.tmps.getD 2 undef = bF := by have := F14.eval 2 (by omega); simpa [Act.eval, upd] using this
        have hfin : bodyPost Try.prog Try.f23 (fun e w' => e = .returned (.bool (validB m)) ∧ Below w.heap.size w w') .ret a14 W := bodyPost_ret (results_tmp Try.results23 _ _ _) F14.defers ⟨by rw [h2]; exact ret_bool (by simp [validB, hin, hal, hkk, hasCap, hinK, hq0, hq1, hp1, hr1, hs1]), hC.1⟩
        exact hfin
    · cases hs1 : inB m.err 0 255
      · refine wp_seq ?_
        refine wp_region_list ?_
        refine sz hF (v := (PW w 11)) (hF.fa1 w (by simp [upd, h1, h15])) fun a1 F1 => ?_
        have c11 : W.cell? ⟨w.heap.size, 11, none⟩ = some (.int .i64 m.session) := (hC.2.cell 11).trans (by rw [← HD.out]; rfl)
        have c12 : W.cell? ⟨w.heap.size, 12, none⟩ = some (.int .i64 m.id) := (hC.2.cell 12).trans (by rw [← HD.out]; rfl)
        refine sz F1 (v := .agg #[.int .i64 m.session, .int .i64 m.id]) (by simp only [execOp, F1.ev 41 (v := (PW w 11))]; simp [go_sem, c11, c12]) fun a2 F2 => ?_
        refine scC (C := CC w D) F2 rfl (by omega) wn (k := 49) (args := #[Value.agg #[.int .i64 m.session, .int .i64 m.id]]) (v := bT) (by simp only [execOp, resolve, invoke, List.map_toArray, List.map_cons, List.map_nil, F2.ev 42 (v := .agg #[.int .i64 m.session, .int .i64 m.id])]; simp [go_sem, Act.eval]) hC (fun wr hC => (rcall_any m.session m.id wr).mono fun e w' ⟨he, hb⟩ => ⟨by rw [he, hp1], hC.below hb⟩) fun a3 W hC F3 => ?_
        refine sz F3 (v := bT) (F3.mr 43) fun a4 F4 => ?_
        refine sy F4 rfl (by omega) (F4.wg 44 true) (v := (PW w 1)) (F4.fa1 w (by simp [upd, h1, h15])) fun a5 F5 => ?_
        have c1 : W.cell? ⟨w.heap.size, 1, none⟩ = some (.string ⟨m.name.toArray⟩) := (hC.2.cell 1).trans (by rw [← HD.out]; rfl)
        refine sy F5 rfl (by omega) (F5.wg 44 true) (v := .string ⟨m.name.toArray⟩) (by simp only [execOp, F5.ev 45 (v := (PW w 1))]; simp [go_sem, c1]) fun a6 F6 => ?_
        refine scC (C := CC w D) F6 rfl (by omega) (F6.wg 44 true) (k := 52) (args := #[Value.string ⟨m.name.toArray⟩]) (v := bT) (by simp only [execOp, resolve, invoke, List.map_toArray, List.map_cons, List.map_nil, F6.ev 46 (v := .string ⟨m.name.toArray⟩)]; simp [go_sem, Act.eval]) hC (fun wr hC => (rname_any m.name wr hl).mono fun e w' ⟨he, hw⟩ => ⟨by rw [he, hr1], by rw [hw]; exact hC⟩) fun a7 W hC F7 => ?_
        refine sz F7 (v := bT) (pick_run _ rfl (P := true) (F7.ev 44 (v := bT)) W (by rw [if_pos rfl]; exact F7.ev 47 (v := bT))) fun a8 F8 => ?_
        refine sz F8 (v := bT) (F8.mr 48) fun a9 F9 => ?_
        refine sy F9 rfl (by omega) (F9.wg 49 true) (v := (PW w 17)) (F9.fa1 w (by simp [upd, h1, h15])) fun a10 F10 => ?_
        have c17 : W.cell? ⟨w.heap.size, 17, none⟩ = some (.int .i64 m.err) := (hC.2.cell 17).trans (by rw [← HD.out]; rfl)
        refine sy F10 rfl (by omega) (F10.wg 49 true) (v := .int .i64 m.err) (by simp only [execOp, F10.ev 50 (v := (PW w 17))]; simp [go_sem, c17]) fun a11 F11 => ?_
        refine scC (C := CC w D) F11 rfl (by omega) (F11.wg 49 true) (k := 46) (args := #[Value.int .i64 m.err, Value.int .i64 0, Value.int .i64 255]) (v := bF) (by simp only [execOp, resolve, invoke, List.map_toArray, List.map_cons, List.map_nil, F11.ev 51 (v := .int .i64 m.err)]; simp [go_sem, Act.eval]) hC (fun wr hC => (rwithin_any m.err 0 255 wr).mono fun e w' ⟨he, hw⟩ => ⟨by rw [he, hs1], by rw [hw]; exact hC⟩) fun a12 W hC F12 => ?_
        refine sz F12 (v := bF) (pick_run _ rfl (P := true) (F12.ev 49 (v := bT)) W (by rw [if_pos rfl]; exact F12.ev 52 (v := bF))) fun a13 F13 => ?_
        refine sz F13 (v := bF) (by simp only [execOp, F13.ev 53 (v := bF)]; rfl) fun a14 F14 => ?_
        refine wpList_nil ?_
        show Code.wp _ _ _ _ _
        refine wp_ret ?_
        have h2 : a14.tmps.getD 2 undef = bF := by have := F14.eval 2 (by omega); simpa [Act.eval, upd] using this
        have hfin : bodyPost Try.prog Try.f23 (fun e w' => e = .returned (.bool (validB m)) ∧ Below w.heap.size w w') .ret a14 W := bodyPost_ret (results_tmp Try.results23 _ _ _) F14.defers ⟨by rw [h2]; exact ret_bool (by simp [validB, hin, hal, hkk, hasCap, hinK, hq0, hq1, hp1, hr1, hs1]), hC.1⟩
        exact hfin
      · refine wp_seq ?_
        refine wp_region_list ?_
        refine sz hF (v := (PW w 11)) (hF.fa1 w (by simp [upd, h1, h15])) fun a1 F1 => ?_
        have c11 : W.cell? ⟨w.heap.size, 11, none⟩ = some (.int .i64 m.session) := (hC.2.cell 11).trans (by rw [← HD.out]; rfl)
        have c12 : W.cell? ⟨w.heap.size, 12, none⟩ = some (.int .i64 m.id) := (hC.2.cell 12).trans (by rw [← HD.out]; rfl)
        refine sz F1 (v := .agg #[.int .i64 m.session, .int .i64 m.id]) (by simp only [execOp, F1.ev 41 (v := (PW w 11))]; simp [go_sem, c11, c12]) fun a2 F2 => ?_
        refine scC (C := CC w D) F2 rfl (by omega) wn (k := 49) (args := #[Value.agg #[.int .i64 m.session, .int .i64 m.id]]) (v := bT) (by simp only [execOp, resolve, invoke, List.map_toArray, List.map_cons, List.map_nil, F2.ev 42 (v := .agg #[.int .i64 m.session, .int .i64 m.id])]; simp [go_sem, Act.eval]) hC (fun wr hC => (rcall_any m.session m.id wr).mono fun e w' ⟨he, hb⟩ => ⟨by rw [he, hp1], hC.below hb⟩) fun a3 W hC F3 => ?_
        refine sz F3 (v := bT) (F3.mr 43) fun a4 F4 => ?_
        refine sy F4 rfl (by omega) (F4.wg 44 true) (v := (PW w 1)) (F4.fa1 w (by simp [upd, h1, h15])) fun a5 F5 => ?_
        have c1 : W.cell? ⟨w.heap.size, 1, none⟩ = some (.string ⟨m.name.toArray⟩) := (hC.2.cell 1).trans (by rw [← HD.out]; rfl)
        refine sy F5 rfl (by omega) (F5.wg 44 true) (v := .string ⟨m.name.toArray⟩) (by simp only [execOp, F5.ev 45 (v := (PW w 1))]; simp [go_sem, c1]) fun a6 F6 => ?_
        refine scC (C := CC w D) F6 rfl (by omega) (F6.wg 44 true) (k := 52) (args := #[Value.string ⟨m.name.toArray⟩]) (v := bT) (by simp only [execOp, resolve, invoke, List.map_toArray, List.map_cons, List.map_nil, F6.ev 46 (v := .string ⟨m.name.toArray⟩)]; simp [go_sem, Act.eval]) hC (fun wr hC => (rname_any m.name wr hl).mono fun e w' ⟨he, hw⟩ => ⟨by rw [he, hr1], by rw [hw]; exact hC⟩) fun a7 W hC F7 => ?_
        refine sz F7 (v := bT) (pick_run _ rfl (P := true) (F7.ev 44 (v := bT)) W (by rw [if_pos rfl]; exact F7.ev 47 (v := bT))) fun a8 F8 => ?_
        refine sz F8 (v := bT) (F8.mr 48) fun a9 F9 => ?_
        refine sy F9 rfl (by omega) (F9.wg 49 true) (v := (PW w 17)) (F9.fa1 w (by simp [upd, h1, h15])) fun a10 F10 => ?_
        have c17 : W.cell? ⟨w.heap.size, 17, none⟩ = some (.int .i64 m.err) := (hC.2.cell 17).trans (by rw [← HD.out]; rfl)
        refine sy F10 rfl (by omega) (F10.wg 49 true) (v := .int .i64 m.err) (by simp only [execOp, F10.ev 50 (v := (PW w 17))]; simp [go_sem, c17]) fun a11 F11 => ?_
        refine scC (C := CC w D) F11 rfl (by omega) (F11.wg 49 true) (k := 46) (args := #[Value.int .i64 m.err, Value.int .i64 0, Value.int .i64 255]) (v := bT) (by simp only [execOp, resolve, invoke, List.map_toArray, List.map_cons, List.map_nil, F11.ev 51 (v := .int .i64 m.err)]; simp [go_sem, Act.eval]) hC (fun wr hC => (rwithin_any m.err 0 255 wr).mono fun e w' ⟨he, hw⟩ => ⟨by rw [he, hs1], by rw [hw]; exact hC⟩) fun a12 W hC F12 => ?_
        refine sz F12 (v := bT) (pick_run _ rfl (P := true) (F12.ev 49 (v := bT)) W (by rw [if_pos rfl]; exact F12.ev 52 (v := bT))) fun a13 F13 => ?_
        refine sz F13 (v := bT) (by simp only [execOp, F13.ev 53 (v := bT)]; rfl) fun a14 F14 => ?_
        refine wpList_nil ?_
        show Code.wp _ _ _ _ _
        refine wp_ret ?_
        have h2 : a14.tmps.getD 2 undef = bT := by have := F14.eval 2 (by omega); simpa [Act.eval, upd] using this
        have hfin : bodyPost Try.prog Try.f23 (fun e w' => e = .returned (.bool (validB m)) ∧ Below w.heap.size w w') .ret a14 W := bodyPost_ret (results_tmp Try.results23 _ _ _) F14.defers ⟨by rw [h2]; exact ret_bool (by simp [validB, hin, hal, hkk, hasCap, hinK, hq0, hq1, hp1, hr1, hs1]), hC.1⟩
        exact hfin
end Go.Proofs.Ytfgnlfemckdfnaa
