import Derived.Test.YtfgnlfemckdfnaaRefW
namespace Go.Proofs.Ytfgnlfemckdfnaa
open Go.RowKit Go.PlainAid
set_option linter.unusedSimpArgs false
set_option linter.unusedVariables false
section
variable {N : Nat} {a : Act} {f : Nat → Value} {o : Oper} {w : World}
theorem Fr.fa3 (hF : Fr N a f) (w0 : World) {v : Value} (h : f 1 = PW w0 0) (hr : ∀ ev : Operand → Value, ev (.tmp 1) = PW w0 0 → (execOp ev o).run Try.prog w = .ok (.value v) w := by intro ev h; simp only [execOp, h]; simp [go_sem]) (hN : 1 < N := by omega) : (execOp a.eval o).run Try.prog w = .ok (.value v) w := hr _ ((hF.eval 1 hN).trans h)
end
set_option maxRecDepth 100000 in
set_option maxHeartbeats 3200000 in
theorem rvalidA (m : Msg) (ao : Option Addr) (cv : Nat) (w : World) (D : Array Value) (HD : Hid (msgCells m (.slice ao m.views.length cv) = D)) (hl : m.name.length ≤ 140737488355328) (hol : m.oname.length ≤ 140737488355328) (hsrc : VFrom w ao m.views) (hsb : ∀ b o, ao = some ⟨b, o, none⟩ → 0 < m.views.length → b < w.heap.size) (hnm : ∀ x ∈ m.views, x.name.length ≤ 140737488355328) (g3 : 3 ≤ m.kind) (hi : m.kind ≤ 6) (hin : inB m.kind 1 10 = true) (hal : alikeB m (shapeM m) = true) :
    Calls Try.prog 23 #[.agg D] w (fun e w' => e = .returned (.bool (validB m)) ∧ Below w.heap.size w w') := by
  have HV : Hid _ := And.intro hsrc (And.intro hsb hnm)
  clear hsrc hsb hnm
  refine calls_of_wp Try.func23 rfl ?_
  have e : Try.f23.ntmps - (#[Value.agg D] : Array Value).size = 107 := by rw [Try.ntmps23]; rfl
  rw [e]
  have hF0 := frame_init1 (.agg D) 107
  generalize ({ tmps := #[Value.agg D] ++ Array.replicate 107 undef, defers := [] } : Act) = a0 at *
  have hC0 : CC w D (w.alloc (.cells D 35)) := ⟨by go_grown, heap_alloc_new w _⟩
  refine wp_seq (wp_region_list ?_)
  refine sw hF0 rfl (by omega) wn (v := .pointer (some ⟨w.heap.size, 0, none⟩)) (w' := w.alloc (.cells D 35)) (by simp only [execOp, hF0.eval 0 (by omega), if_true, Sem.run_bind, run_box']; rfl) fun a1 F1 => ?_
  refine sz F1 (v := .bool false) (by simp [execOp, Act.eval]) fun a2 F2 => ?_
  refine wpList_nil ?_
  show Code.wp _ _ _ _ _
  refine wp_seq ?_
  refine wp_seq ?_
  generalize w.alloc (.cells D 35) = W0 at *
  refine wp_region_quiet (C := CC w D) (by kernel_rfl) (by kernel_rfl) (by exact hC0.drew) ?_
  refine doneV (t := 2) (v1 := .pointer (some ⟨w.heap.size, 0, none⟩)) (v15 := undef) F2 (by simp [upd]) (by simp [upd]) (upd_eq _ _ _) fun f hF h1 h15 h2 => ?_
  clear hF0 F1 F2 h2
  have hi35 : (Try.prog.info? 35).map (·.size) = some D.size := by rw [← HD.out]; kernel_rfl
  have HS : Hid _ := (show ∀ wr, Calls Try.prog 48 #[.agg D] wr (fun e w' => e = .returned (.agg (msgCells (shapeM m) (.slice (shapeAo m.kind ao) (shapeM m).views.length (shapeCv m.kind cv)))) ∧ Below wr.heap.size wr w') from by rw [← HD.out]; exact fun wr => rshape_any m ao cv wr (by simpa [inB] using hin))
  have HK : Hid _ := (show ∀ wr, Calls Try.prog 47 #[.agg D, .agg (msgCells (shapeM m) (.slice (shapeAo m.kind ao) (shapeM m).views.length (shapeCv m.kind cv)))] wr (fun e w' => e = .returned (.bool (alikeB m (shapeM m))) ∧ Below wr.heap.size wr w') from by rw [← HD.out]; exact fun wr => ralike_any m (shapeM m) ao _ cv _ wr)
  have n1 : ¬ m.kind = 1 := by omega
  have n10 : ¬ m.kind = 10 := by omega
  have n2 : ¬ m.kind = 2 := by omega
  have l7 : m.kind ≤ 7 := by omega
  have n7 : ¬ m.kind = 7 := by omega
  have i37 : inB m.kind 3 7 = true := by simp only [inB]; simp; omega
  refine qy hF rfl (by omega) wn (v := (PW w 0)) (fun W hC => by simp only [execOp, hF.ev 1 (v := (PW w 0)) (by simp [upd, h1, h15])]; simp [go_sem]) fun a1 F1 => ?_
  refine qy F1 rfl (by omega) wn (v := .int .i64 m.kind) (fun W hC => by simp only [execOp, F1.ev 3 (v := (PW w 0))]; simp [go_sem, (show W.cell? ⟨w.heap.size, 0, none⟩ = some (.int .i64 m.kind) from (hC.2.cell 0).trans (by rw [← HD.out]; rfl))]) fun a2 F2 => ?_
  refine qc F2 rfl (by omega) wn (k := 46) (args := #[Value.int .i64 m.kind, Value.int .i64 1, Value.int .i64 10]) (v := bT) (fun W hC => by simp only [execOp, resolve, invoke, List.map_toArray, List.map_cons, List.map_nil, F2.ev 4 (v := .int .i64 m.kind)]; simp [go_sem, Act.eval]) (fun wr hC => (rwithin_any m.kind 1 10 wr).mono fun e w' ⟨he, hw⟩ => ⟨by rw [he, hin], by rw [hw]; exact hC⟩) fun a3 F3 => ?_
  refine qy F3 rfl (by omega) wn (v := bF) (fun W hC => by simp only [execOp, F3.ev 5 (v := bT)]; simp [go_sem]) fun a4 F4 => ?_
  refine qy F4 rfl (by omega) wn (v := bF) (fun W hC => by simp only [execOp, F4.ev 6 (v := bF)]; rfl) fun a5 F5 => ?_
  refine qy F5 rfl (by omega) (F5.wg 7 false) (v := .agg D) (fun W hC => by simp only [execOp, F5.ev 1 (v := (PW w 0)) (by simp [upd, h1, h15]), Instr.loadAt, Instr.sureAddr, Sem.run_bind, Sem.run_pure, Result.andThen_ok, run_loadVar_row W w.heap.size 35 35 D (0, 0) _ hC.2 Try.underlying35 rfl hi35]) fun a6 F6 => ?_
  refine qy F6 rfl (by omega) (F6.wg 7 false) (v := .agg D) (fun W hC => by simp only [execOp, F6.ev 1 (v := (PW w 0)) (by simp [upd, h1, h15]), Instr.loadAt, Instr.sureAddr, Sem.run_bind, Sem.run_pure, Result.andThen_ok, run_loadVar_row W w.heap.size 35 35 D (0, 0) _ hC.2 Try.underlying35 rfl hi35]) fun a7 F7 => ?_
  refine qc F7 rfl (by omega) (F7.wg 7 false) (k := 48) (args := #[Value.agg D]) (v := .agg (msgCells (shapeM m) (.slice (shapeAo m.kind ao) (shapeM m).views.length (shapeCv m.kind cv)))) (fun W hC => by simp only [execOp, resolve, invoke, List.map_toArray, List.map_cons, List.map_nil, F7.ev 9 (v := .agg D)]; simp [go_sem, Act.eval]) (fun wr hC => (HS.out wr).mono fun e w' ⟨he, hb⟩ => ⟨he, hC.below hb⟩) fun a8 F8 => ?_
  refine qc F8 rfl (by omega) (F8.wg 7 false) (k := 47) (args := #[Value.agg D, Value.agg (msgCells (shapeM m) (.slice (shapeAo m.kind ao) (shapeM m).views.length (shapeCv m.kind cv)))]) (v := bT) (fun W hC => by simp only [execOp, resolve, invoke, List.map_toArray, List.map_cons, List.map_nil, F8.ev 8 (v := .agg D), F8.ev 10 (v := .agg (msgCells (shapeM m) (.slice (shapeAo m.kind ao) (shapeM m).views.length (shapeCv m.kind cv))))]; simp [go_sem, Act.eval]) (fun wr hC => (HK.out wr).mono fun e w' ⟨he, hb⟩ => ⟨by rw [he, hal], hC.below hb⟩) fun a9 F9 => ?_
  refine qy F9 rfl (by omega) (F9.wg 7 false) (v := bF) (fun W hC => by simp only [execOp, F9.ev 11 (v := bT)]; simp [go_sem]) fun a10 F10 => ?_
  refine qy F10 rfl (by omega) wn (v := bF) (fun W hC => pick_run _ rfl (P := false) (F10.ev 7 (v := bF)) W (by rw [if_neg (by decide)]; exact F10.ev 12 (v := bF))) fun a11 F11 => ?_
  refine wpQuiet_nil fun W hC => ?_
  show Code.wp _ _ _ _ _
  refine doneV (t := 13) (v1 := (PW w 0)) (v15 := undef) (vt := bF) F11 (by simp [upd, h1]) (by simp [upd, h15]) (upd_eq _ _ _) fun f hF h1 h15 hp => ?_
  clear F1 F2 F3 F4 F5 F6 F7 F8 F9 F10 F11
  refine wp_cond_false ((hF.eval 13 (by omega)).trans hp) ?_
  clear hp
  refine wp_skip ?_
  show Code.wp _ _ _ _ _
  refine wp_seq ?_
  refine wp_seq (wp_region_list ?_)
  refine sz hF (v := (PW w 0)) (hF.fa3 w (by simp [upd, h1, h15])) fun a1 F1 => ?_
  have c0 : W.cell? ⟨w.heap.size, 0, none⟩ = some (.int .i64 m.kind) := (hC.2.cell 0).trans (by rw [← HD.out]; rfl)
  refine sz F1 (v := .int .i64 m.kind) (by simp only [execOp, F1.ev 14 (v := (PW w 0))]; simp [go_sem, c0]) fun a2 F2 => ?_
  refine wpList_nil ?_
  show Code.wp _ _ _ _ _
  refine doneV (t := 14) (v1 := (PW w 0)) (v15 := Value.int .i64 m.kind) (vt := (PW w 0)) F2 (by simp [upd, h1]) (by simp [upd]) (by simp [upd]) fun f hF h1 h15 hp => ?_
  clear F1 F2 hp
  refine wp_block ?_
  refine wp_seq (wp_region_list ?_)
  refine sz hF (v := bF) (by simp only [execOp, hF.ev 15 (v := .int .i64 m.kind) (by simp [upd, h1, h15])]; simp [go_sem, Act.eval, n1, n10, n2, g3, l7, n7]) fun a1 F1 => ?_
  refine sz F1 (v := bF) (by simp only [execOp, F1.ev 17 (v := bF)]; rfl) fun a2 F2 => ?_
  refine wpList_nil ?_
  show Code.wp _ _ _ _ _
  refine doneV (t := 16) (v1 := (PW w 0)) (v15 := Value.int .i64 m.kind) (vt := bF) F2 (by simp [upd, h1]) (by simp [upd, h15]) (by simp [upd]) fun f hF h1 h15 hp => ?_
  clear F1 F2
  refine wp_cond_false ((hF.eval 16 (by omega)).trans hp) ?_
  clear hp
  refine wp_seq (wp_region_list ?_)
  refine sz hF (v := bF) (by simp only [execOp, hF.ev 15 (v := .int .i64 m.kind) (by simp [upd, h1, h15])]; simp [go_sem, Act.eval, n1, n10, n2, g3, l7, n7]) fun a1 F1 => ?_
  refine sz F1 (v := bF) (by simp only [execOp, F1.ev 27 (v := bF)]; rfl) fun a2 F2 => ?_
  refine wpList_nil ?_
  show Code.wp _ _ _ _ _
  refine doneV (t := 26) (v1 := (PW w 0)) (v15 := Value.int .i64 m.kind) (vt := bF) F2 (by simp [upd, h1]) (by simp [upd, h15]) (by simp [upd]) fun f hF h1 h15 hp => ?_
  clear F1 F2
  refine wp_cond_false ((hF.eval 26 (by omega)).trans hp) ?_
  clear hp
  refine wp_seq (wp_region_list ?_)
  refine sz hF (v := bF) (by simp only [execOp, hF.ev 15 (v := .int .i64 m.kind) (by simp [upd, h1, h15])]; simp [go_sem, Act.eval, n1, n10, n2, g3, l7, n7]) fun a1 F1 => ?_
  refine sz F1 (v := bF) (by simp only [execOp, F1.ev 32 (v := bF)]; rfl) fun a2 F2 => ?_
  refine wpList_nil ?_
  show Code.wp _ _ _ _ _
  refine doneV (t := 31) (v1 := (PW w 0)) (v15 := Value.int .i64 m.kind) (vt := bF) F2 (by simp [upd, h1]) (by simp [upd, h15]) (by simp [upd]) fun f hF h1 h15 hp => ?_
  clear F1 F2
  refine wp_cond_false ((hF.eval 31 (by omega)).trans hp) ?_
  clear hp
  refine wp_skip ?_
  show Code.wp _ _ _ _ _
  cases hp1 : knownB m.name m.cap m.recaps
  · refine wp_seq ?_
    refine wp_seq (wp_region_list ?_)
    refine sz hF (v := (PW w 1)) (hF.fa3 w (by simp [upd, h1, h15])) fun a1 F1 => ?_
    have c1 : W.cell? ⟨w.heap.size, 1, none⟩ = some (.string ⟨m.name.toArray⟩) := (hC.2.cell 1).trans (by rw [← HD.out]; rfl)
    refine sz F1 (v := .string ⟨m.name.toArray⟩) (by simp only [execOp, F1.ev 66 (v := (PW w 1))]; simp [go_sem, c1]) fun a2 F2 => ?_
    refine sz F2 (v := (PW w 2)) (F2.fa3 w (by simp [upd, h1, h15])) fun a3 F3 => ?_
    have c2 : W.cell? ⟨w.heap.size, 2, none⟩ = some (.int .i64 m.cap) := (hC.2.cell 2).trans (by rw [← HD.out]; rfl)
    refine sz F3 (v := .int .i64 m.cap) (by simp only [execOp, F3.ev 68 (v := (PW w 2))]; simp [go_sem, c2]) fun a4 F4 => ?_
    refine sz F4 (v := (PW w 3)) (F4.fa3 w (by simp [upd, h1, h15])) fun a5 F5 => ?_
    have c3 : W.cell? ⟨w.heap.size, 3, none⟩ = some (.int .i64 m.recaps) := (hC.2.cell 3).trans (by rw [← HD.out]; rfl)
    refine sz F5 (v := .int .i64 m.recaps) (by simp only [execOp, F5.ev 70 (v := (PW w 3))]; simp [go_sem, c3]) fun a6 F6 => ?_
    refine scC (C := CC w D) F6 rfl (by omega) wn (k := 53) (args := #[Value.string ⟨m.name.toArray⟩, Value.int .i64 m.cap, Value.int .i64 m.recaps]) (v := bF) (by simp only [execOp, resolve, invoke, List.map_toArray, List.map_cons, List.map_nil, F6.ev 67 (v := .string ⟨m.name.toArray⟩), F6.ev 69 (v := .int .i64 m.cap), F6.ev 71 (v := .int .i64 m.recaps)]; simp [go_sem, Act.eval]) hC (fun wr hC => (rknown_any m.name m.cap m.recaps wr hl).mono fun e w' ⟨he, hw⟩ => ⟨by rw [he, hp1], by rw [hw]; exact hC⟩) fun a7 W hC F7 => ?_
    refine sz F7 (v := bT) (by simp only [execOp, F7.ev 72 (v := bF)]; simp [go_sem]) fun a8 F8 => ?_
    refine sz F8 (v := bT) (F8.mr 73) fun a9 F9 => ?_
    refine sm F9 (F9.wg 74 true) fun a10 F10 => ?_
    refine sm F10 (F10.wg 74 true) fun a11 F11 => ?_
    refine sm F11 (F11.wg 74 true) fun a12 F12 => ?_
    refine sm F12 (F12.wg 74 true) fun a13 F13 => ?_
    refine sz F13 (v := bT) (pick_run _ rfl (P := true) (F13.ev 74 (v := bT)) W rfl) fun a14 F14 => ?_
    refine sz F14 (v := bT) (F14.mr 79) fun a15 F15 => ?_
    refine sm F15 (F15.wg 80 true) fun a16 F16 => ?_
    refine sm F16 (F16.wg 80 true) fun a17 F17 => ?_
    refine sm F17 (F17.wg 80 true) fun a18 F18 => ?_
    refine sm F18 (F18.wg 80 true) fun a19 F19 => ?_
    refine sz F19 (v := bT) (pick_run _ rfl (P := true) (F19.ev 80 (v := bT)) W rfl) fun a20 F20 => ?_
    refine wpList_nil ?_
    show Code.wp _ _ _ _ _
    refine doneV (t := 85) (v1 := (PW w 0)) (v15 := Value.int .i64 m.kind) (vt := bT) F20 (by simp [upd, h1]) (by simp [upd, h15]) (by simp [upd]) fun f hF h1 h15 hp => ?_
    clear F1 F2 F3 F4 F5 F6 F7 F8 F9 F10 F11 F12 F13 F14 F15 F16 F17 F18 F19 F20
    refine wp_cond_true ((hF.eval 85 (by omega)).trans hp) ?_
    clear hp
    refine wp_seq (wp_region_list ?_)
    refine sz hF (v := bF) (by simp [execOp, Act.eval]) fun a1 F1 => ?_
    refine wpList_nil ?_
    show Code.wp _ _ _ _ _
    refine wp_ret ?_
    have h2 : a1.tmps.getD 2 undef = bF := by have := F1.eval 2 (by omega); simpa [Act.eval, upd] using this
    have hfin : bodyPost Try.prog Try.f23 (fun e w' => e = .returned (.bool (validB m)) ∧ Below w.heap.size w w') .ret a1 W := bodyPost_ret (results_tmp Try.results23 _ _ _) F1.defers ⟨by rw [h2]; exact ret_bool (by simp [validB, hin, hal, n1, n10, n2, g3, l7, n7, hasCap, i37, hp1]), hC.1⟩
    exact hfin
  · cases hq1 : rightsB m.down m.up
    · refine wp_seq ?_
      refine wp_seq (wp_region_list ?_)
      refine sz hF (v := (PW w 1)) (hF.fa3 w (by simp [upd, h1, h15])) fun a1 F1 => ?_
      have c1 : W.cell? ⟨w.heap.size, 1, none⟩ = some (.string ⟨m.name.toArray⟩) := (hC.2.cell 1).trans (by rw [← HD.out]; rfl)
      refine sz F1 (v := .string ⟨m.name.toArray⟩) (by simp only [execOp, F1.ev 66 (v := (PW w 1))]; simp [go_sem, c1]) fun a2 F2 => ?_
      refine sz F2 (v := (PW w 2)) (F2.fa3 w (by simp [upd, h1, h15])) fun a3 F3 => ?_
      have c2 : W.cell? ⟨w.heap.size, 2, none⟩ = some (.int .i64 m.cap) := (hC.2.cell 2).trans (by rw [← HD.out]; rfl)
      refine sz F3 (v := .int .i64 m.cap) (by simp only [execOp, F3.ev 68 (v := (PW w 2))]; simp [go_sem, c2]) fun a4 F4 => ?_
      refine sz F4 (v := (PW w 3)) (F4.fa3 w (by simp [upd, h1, h15])) fun a5 F5 => ?_
      have c3 : W.cell? ⟨w.heap.size, 3, none⟩ = some (.int .i64 m.recaps) := (hC.2.cell 3).trans (by rw [← HD.out]; rfl)
      refine sz F5 (v := .int .i64 m.recaps) (by simp only [execOp, F5.ev 70 (v := (PW w 3))]; simp [go_sem, c3]) fun a6 F6 => ?_
      refine scC (C := CC w D) F6 rfl (by omega) wn (k := 53) (args := #[Value.string ⟨m.name.toArray⟩, Value.int .i64 m.cap, Value.int .i64 m.recaps]) (v := bT) (by simp only [execOp, resolve, invoke, List.map_toArray, List.map_cons, List.map_nil, F6.ev 67 (v := .string ⟨m.name.toArray⟩), F6.ev 69 (v := .int .i64 m.cap), F6.ev 71 (v := .int .i64 m.recaps)]; simp [go_sem, Act.eval]) hC (fun wr hC => (rknown_any m.name m.cap m.recaps wr hl).mono fun e w' ⟨he, hw⟩ => ⟨by rw [he, hp1], by rw [hw]; exact hC⟩) fun a7 W hC F7 => ?_
      refine sz F7 (v := bF) (by simp only [execOp, F7.ev 72 (v := bT)]; simp [go_sem]) fun a8 F8 => ?_
      refine sz F8 (v := bF) (F8.mr 73) fun a9 F9 => ?_
      refine sy F9 rfl (by omega) (F9.wg 74 false) (v := (PW w 8)) (F9.fa3 w (by simp [upd, h1, h15])) fun a10 F10 => ?_
      have c8 : W.cell? ⟨w.heap.size, 8, none⟩ = some (.int .i64 m.down) := (hC.2.cell 8).trans (by rw [← HD.out]; rfl)
      have c9 : W.cell? ⟨w.heap.size, 9, none⟩ = some (.int .i64 m.up) := (hC.2.cell 9).trans (by rw [← HD.out]; rfl)
      refine sy F10 rfl (by omega) (F10.wg 74 false) (v := .agg #[.int .i64 m.down, .int .i64 m.up]) (by simp only [execOp, F10.ev 75 (v := (PW w 8))]; simp [go_sem, c8, c9]) fun a11 F11 => ?_
      refine scC (C := CC w D) F11 rfl (by omega) (F11.wg 74 false) (k := 54) (args := #[Value.agg #[.int .i64 m.down, .int .i64 m.up]]) (v := bF) (by simp only [execOp, resolve, invoke, List.map_toArray, List.map_cons, List.map_nil, F11.ev 76 (v := .agg #[.int .i64 m.down, .int .i64 m.up])]; simp [go_sem, Act.eval]) hC (fun wr hC => (rrights_any m.down m.up wr).mono fun e w' ⟨he, hb⟩ => ⟨by rw [he, hq1], hC.below hb⟩) fun a12 W hC F12 => ?_
      refine sy F12 rfl (by omega) (F12.wg 74 false) (v := bT) (by simp only [execOp, F12.ev 77 (v := bF)]; simp [go_sem]) fun a13 F13 => ?_
      refine sz F13 (v := bT) (pick_run _ rfl (P := false) (F13.ev 74 (v := bF)) W (by rw [if_neg (by decide)]; exact F13.ev 78 (v := bT))) fun a14 F14 => ?_
      refine sz F14 (v := bT) (F14.mr 79) fun a15 F15 => ?_
      refine sm F15 (F15.wg 80 true) fun a16 F16 => ?_
      refine sm F16 (F16.wg 80 true) fun a17 F17 => ?_
      refine sm F17 (F17.wg 80 true) fun a18 F18 => ?_
      refine sm F18 (F18.wg 80 true) fun a19 F19 => ?_
      refine sz F19 (v := bT) (pick_run _ rfl (P := true) (F19.ev 80 (v := bT)) W rfl) fun a20 F20 => ?_
      refine wpList_nil ?_
      show Code.wp _ _ _ _ _
      refine doneV (t := 85) (v1 := (PW w 0)) (v15 := Value.int .i64 m.kind) (vt := bT) F20 (by simp [upd, h1]) (by simp [upd, h15]) (by simp [upd]) fun f hF h1 h15 hp => ?_
      clear F1 F2 F3 F4 F5 F6 F7 F8 F9 F10 F11 F12 F13 F14 F15 F16 F17 F18 F19 F20
      refine wp_cond_true ((hF.eval 85 (by omega)).trans hp) ?_
      clear hp
      refine wp_seq (wp_region_list ?_)
      refine sz hF (v := bF) (by simp [execOp, Act.eval]) fun a1 F1 => ?_
      refine wpList_nil ?_
      show Code.wp _ _ _ _ _
      refine wp_ret ?_
      have h2 : a1.tmps.getD 2 undef = bF := by have := F1.eval 2 (by omega); simpa [Act.eval, upd] using this
      have hfin : bodyPost Try.prog Try.f23 (fun e w' => e = .returned (.bool (validB m)) ∧ Below w.heap.size w w') .ret a1 W := bodyPost_ret (results_tmp Try.results23 _ _ _) F1.defers ⟨by rw [h2]; exact ret_bool (by simp [validB, hin, hal, n1, n10, n2, g3, l7, n7, hasCap, i37, hp1, hq1]), hC.1⟩
      exact hfin
    · cases hr1 : inB m.held 0 1099511627776
      · refine wp_seq ?_
        refine wp_seq (wp_region_list ?_)
        refine sz hF (v := (PW w 1)) (hF.fa3 w (by simp [upd, h1, h15])) fun a1 F1 => ?_
        have c1 : W.cell? ⟨w.heap.size, 1, none⟩ = some (.string ⟨m.name.toArray⟩) := (hC.2.cell 1).trans (by rw [← HD.out]; rfl)
        refine sz F1 (v := .string ⟨m.name.toArray⟩) (by simp only [execOp, F1.ev 66 (v := (PW w 1))]; simp [go_sem, c1]) fun a2 F2 => ?_
        refine sz F2 (v := (PW w 2)) (F2.fa3 w (by simp [upd, h1, h15])) fun a3 F3 => ?_
        have c2 : W.cell? ⟨w.heap.size, 2, none⟩ = some (.int .i64 m.cap) := (hC.2.cell 2).trans (by rw [← HD.out]; rfl)
        refine sz F3 (v := .int .i64 m.cap) (by simp only [execOp, F3.ev 68 (v := (PW w 2))]; simp [go_sem, c2]) fun a4 F4 => ?_
        refine sz F4 (v := (PW w 3)) (F4.fa3 w (by simp [upd, h1, h15])) fun a5 F5 => ?_
        have c3 : W.cell? ⟨w.heap.size, 3, none⟩ = some (.int .i64 m.recaps) := (hC.2.cell 3).trans (by rw [← HD.out]; rfl)
        refine sz F5 (v := .int .i64 m.recaps) (by simp only [execOp, F5.ev 70 (v := (PW w 3))]; simp [go_sem, c3]) fun a6 F6 => ?_
        refine scC (C := CC w D) F6 rfl (by omega) wn (k := 53) (args := #[Value.string ⟨m.name.toArray⟩, Value.int .i64 m.cap, Value.int .i64 m.recaps]) (v := bT) (by simp only [execOp, resolve, invoke, List.map_toArray, List.map_cons, List.map_nil, F6.ev 67 (v := .string ⟨m.name.toArray⟩), F6.ev 69 (v := .int .i64 m.cap), F6.ev 71 (v := .int .i64 m.recaps)]; simp [go_sem, Act.eval]) hC (fun wr hC => (rknown_any m.name m.cap m.recaps wr hl).mono fun e w' ⟨he, hw⟩ => ⟨by rw [he, hp1], by rw [hw]; exact hC⟩) fun a7 W hC F7 => ?_
        refine sz F7 (v := bF) (by simp only [execOp, F7.ev 72 (v := bT)]; simp [go_sem]) fun a8 F8 => ?_
        refine sz F8 (v := bF) (F8.mr 73) fun a9 F9 => ?_
        refine sy F9 rfl (by omega) (F9.wg 74 false) (v := (PW w 8)) (F9.fa3 w (by simp [upd, h1, h15])) fun a10 F10 => ?_
        have c8 : W.cell? ⟨w.heap.size, 8, none⟩ = some (.int .i64 m.down) := (hC.2.cell 8).trans (by rw [← HD.out]; rfl)
        have c9 : W.cell? ⟨w.heap.size, 9, none⟩ = some (.int .i64 m.up) := (hC.2.cell 9).trans (by rw [← HD.out]; rfl)
        refine sy F10 rfl (by omega) (F10.wg 74 false) (v := .agg #[.int .i64 m.down, .int .i64 m.up]) (by simp only [execOp, F10.ev 75 (v := (PW w 8))]; simp [go_sem, c8, c9]) fun a11 F11 => ?_
        refine scC (C := CC w D) F11 rfl (by omega) (F11.wg 74 false) (k := 54) (args := #[Value.agg #[.int .i64 m.down, .int .i64 m.up]]) (v := bT) (by simp only [execOp, resolve, invoke, List.map_toArray, List.map_cons, List.map_nil, F11.ev 76 (v := .agg #[.int .i64 m.down, .int .i64 m.up])]; simp [go_sem, Act.eval]) hC (fun wr hC => (rrights_any m.down m.up wr).mono fun e w' ⟨he, hb⟩ => ⟨by rw [he, hq1], hC.below hb⟩) fun a12 W hC F12 => ?_
        refine sy F12 rfl (by omega) (F12.wg 74 false) (v := bF) (by simp only [execOp, F12.ev 77 (v := bT)]; simp [go_sem]) fun a13 F13 => ?_
        refine sz F13 (v := bF) (pick_run _ rfl (P := false) (F13.ev 74 (v := bF)) W (by rw [if_neg (by decide)]; exact F13.ev 78 (v := bF))) fun a14 F14 => ?_
        refine sz F14 (v := bF) (F14.mr 79) fun a15 F15 => ?_
        refine sy F15 rfl (by omega) (F15.wg 80 false) (v := (PW w 10)) (F15.fa3 w (by simp [upd, h1, h15])) fun a16 F16 => ?_
        have c10 : W.cell? ⟨w.heap.size, 10, none⟩ = some (.int .i64 m.held) := (hC.2.cell 10).trans (by rw [← HD.out]; rfl)
        refine sy F16 rfl (by omega) (F16.wg 80 false) (v := .int .i64 m.held) (by simp only [execOp, F16.ev 81 (v := (PW w 10))]; simp [go_sem, c10]) fun a17 F17 => ?_
        refine scC (C := CC w D) F17 rfl (by omega) (F17.wg 80 false) (k := 46) (args := #[Value.int .i64 m.held, Value.int .i64 0, Value.int .i64 1099511627776]) (v := bF) (by simp only [execOp, resolve, invoke, List.map_toArray, List.map_cons, List.map_nil, F17.ev 82 (v := .int .i64 m.held)]; simp [go_sem, Act.eval]) hC (fun wr hC => (rwithin_any m.held 0 1099511627776 wr).mono fun e w' ⟨he, hw⟩ => ⟨by rw [he, hr1], by rw [hw]; exact hC⟩) fun a18 W hC F18 => ?_
        refine sy F18 rfl (by omega) (F18.wg 80 false) (v := bT) (by simp only [execOp, F18.ev 83 (v := bF)]; simp [go_sem]) fun a19 F19 => ?_
        refine sz F19 (v := bT) (pick_run _ rfl (P := false) (F19.ev 80 (v := bF)) W (by rw [if_neg (by decide)]; exact F19.ev 84 (v := bT))) fun a20 F20 => ?_
        refine wpList_nil ?_
        show Code.wp _ _ _ _ _
        refine doneV (t := 85) (v1 := (PW w 0)) (v15 := Value.int .i64 m.kind) (vt := bT) F20 (by simp [upd, h1]) (by simp [upd, h15]) (by simp [upd]) fun f hF h1 h15 hp => ?_
        clear F1 F2 F3 F4 F5 F6 F7 F8 F9 F10 F11 F12 F13 F14 F15 F16 F17 F18 F19 F20
        refine wp_cond_true ((hF.eval 85 (by omega)).trans hp) ?_
        clear hp
        refine wp_seq (wp_region_list ?_)
        refine sz hF (v := bF) (by simp [execOp, Act.eval]) fun a1 F1 => ?_
        refine wpList_nil ?_
        show Code.wp _ _ _ _ _
        refine wp_ret ?_
        have h2 : a1.tmps.getD 2 undef = bF := by have := F1.eval 2 (by omega); simpa [Act.eval, upd] using this
        have hfin : bodyPost Try.prog Try.f23 (fun e w' => e = .returned (.bool (validB m)) ∧ Below w.heap.size w w') .ret a1 W := bodyPost_ret (results_tmp Try.results23 _ _ _) F1.defers ⟨by rw [h2]; exact ret_bool (by simp [validB, hin, hal, n1, n10, n2, g3, l7, n7, hasCap, i37, hp1, hq1, hr1]), hC.1⟩
        exact hfin
      · cases hs1 : epochB m.round m.rank
        · refine wp_seq ?_
          refine wp_seq (wp_region_list ?_)
          refine sz hF (v := (PW w 1)) (hF.fa3 w (by simp [upd, h1, h15])) fun a1 F1 => ?_
          have c1 : W.cell? ⟨w.heap.size, 1, none⟩ = some (.string ⟨m.name.toArray⟩) := (hC.2.cell 1).trans (by rw [← HD.out]; rfl)
          refine sz F1 (v := .string ⟨m.name.toArray⟩) (by simp only [execOp, F1.ev 66 (v := (PW w 1))]; simp [go_sem, c1]) fun a2 F2 => ?_
          refine sz F2 (v := (PW w 2)) (F2.fa3 w (by simp [upd, h1, h15])) fun a3 F3 => ?_
          have c2 : W.cell? ⟨w.heap.size, 2, none⟩ = some (.int .i64 m.cap) := (hC.2.cell 2).trans (by rw [← HD.out]; rfl)
          refine sz F3 (v := .int .i64 m.cap) (by simp only [execOp, F3.ev 68 (v := (PW w 2))]; simp [go_sem, c2]) fun a4 F4 => ?_
          refine sz F4 (v := (PW w 3)) (F4.fa3 w (by simp [upd, h1, h15])) fun a5 F5 => ?_
          have c3 : W.cell? ⟨w.heap.size, 3, none⟩ = some (.int .i64 m.recaps) := (hC.2.cell 3).trans (by rw [← HD.out]; rfl)
          refine sz F5 (v := .int .i64 m.recaps) (by simp only [execOp, F5.ev 70 (v := (PW w 3))]; simp [go_sem, c3]) fun a6 F6 => ?_
          refine scC (C := CC w D) F6 rfl (by omega) wn (k := 53) (args := #[Value.string ⟨m.name.toArray⟩, Value.int .i64 m.cap, Value.int .i64 m.recaps]) (v := bT) (by simp only [execOp, resolve, invoke, List.map_toArray, List.map_cons, List.map_nil, F6.ev 67 (v := .string ⟨m.name.toArray⟩), F6.ev 69 (v := .int .i64 m.cap), F6.ev 71 (v := .int .i64 m.recaps)]; simp [go_sem, Act.eval]) hC (fun wr hC => (rknown_any m.name m.cap m.recaps wr hl).mono fun e w' ⟨he, hw⟩ => ⟨by rw [he, hp1], by rw [hw]; exact hC⟩) fun a7 W hC F7 => ?_
          refine sz F7 (v := bF) (by simp only [execOp, F7.ev 72 (v := bT)]; simp [go_sem]) fun a8 F8 => ?_
          refine sz F8 (v := bF) (F8.mr 73) fun a9 F9 => ?_
          refine sy F9 rfl (by omega) (F9.wg 74 false) (v := (PW w 8)) (F9.fa3 w (by simp [upd, h1, h15])) fun a10 F10 => ?_
          have c8 : W.cell? ⟨w.heap.size, 8, none⟩ = some (.int .i64 m.down) := (hC.2.cell 8).trans (by rw [← HD.out]; rfl)
          have c9 : W.cell? ⟨w.heap.size, 9, none⟩ = some (.int .i64 m.up) := (hC.2.cell 9).trans (by rw [← HD.out]; rfl)
          refine sy F10 rfl (by omega) (F10.wg 74 false) (v := .agg #[.int .i64 m.down, .int .i64 m.up]) (by simp only [execOp, F10.ev 75 (v := (PW w 8))]; simp [go_sem, c8, c9]) fun a11 F11 => ?_
          refine scC (C := CC w D) F11 rfl (by omega) (F11.wg 74 false) (k := 54) (args := #[Value.agg #[.int .i64 m.down, .int .i64 m.up]]) (v := bT) (by simp only [execOp, resolve, invoke, List.map_toArray, List.map_cons, List.map_nil, F11.ev 76 (v := .agg #[.int .i64 m.down, .int .i64 m.up])]; simp [go_sem, Act.eval]) hC (fun wr hC => (rrights_any m.down m.up wr).mono fun e w' ⟨he, hb⟩ => ⟨by rw [he, hq1], hC.below hb⟩) fun a12 W hC F12 => ?_
          refine sy F12 rfl (by omega) (F12.wg 74 false) (v := bF) (by simp only [execOp, F12.ev 77 (v := bT)]; simp [go_sem]) fun a13 F13 => ?_
          refine sz F13 (v := bF) (pick_run _ rfl (P := false) (F13.ev 74 (v := bF)) W (by rw [if_neg (by decide)]; exact F13.ev 78 (v := bF))) fun a14 F14 => ?_
          refine sz F14 (v := bF) (F14.mr 79) fun a15 F15 => ?_
          refine sy F15 rfl (by omega) (F15.wg 80 false) (v := (PW w 10)) (F15.fa3 w (by simp [upd, h1, h15])) fun a16 F16 => ?_
          have c10 : W.cell? ⟨w.heap.size, 10, none⟩ = some (.int .i64 m.held) := (hC.2.cell 10).trans (by rw [← HD.out]; rfl)
          refine sy F16 rfl (by omega) (F16.wg 80 false) (v := .int .i64 m.held) (by simp only [execOp, F16.ev 81 (v := (PW w 10))]; simp [go_sem, c10]) fun a17 F17 => ?_
          refine scC (C := CC w D) F17 rfl (by omega) (F17.wg 80 false) (k := 46) (args := #[Value.int .i64 m.held, Value.int .i64 0, Value.int .i64 1099511627776]) (v := bT) (by simp only [execOp, resolve, invoke, List.map_toArray, List.map_cons, List.map_nil, F17.ev 82 (v := .int .i64 m.held)]; simp [go_sem, Act.eval]) hC (fun wr hC => (rwithin_any m.held 0 1099511627776 wr).mono fun e w' ⟨he, hw⟩ => ⟨by rw [he, hr1], by rw [hw]; exact hC⟩) fun a18 W hC F18 => ?_
          refine sy F18 rfl (by omega) (F18.wg 80 false) (v := bF) (by simp only [execOp, F18.ev 83 (v := bT)]; simp [go_sem]) fun a19 F19 => ?_
          refine sz F19 (v := bF) (pick_run _ rfl (P := false) (F19.ev 80 (v := bF)) W (by rw [if_neg (by decide)]; exact F19.ev 84 (v := bF))) fun a20 F20 => ?_
          refine wpList_nil ?_
          show Code.wp _ _ _ _ _
          refine doneV (t := 85) (v1 := (PW w 0)) (v15 := Value.int .i64 m.kind) (vt := bF) F20 (by simp [upd, h1]) (by simp [upd, h15]) (by simp [upd]) fun f hF h1 h15 hp => ?_
          clear F1 F2 F3 F4 F5 F6 F7 F8 F9 F10 F11 F12 F13 F14 F15 F16 F17 F18 F19 F20
          refine wp_cond_false ((hF.eval 85 (by omega)).trans hp) ?_
          clear hp
          refine wp_skip ?_
          show Code.wp _ _ _ _ _
          refine wp_seq ?_
          refine wp_seq (wp_region_list ?_)
          refine sz hF (v := (PW w 0)) (hF.fa3 w (by simp [upd, h1, h15])) fun a1 F1 => ?_
          have c0 : W.cell? ⟨w.heap.size, 0, none⟩ = some (.int .i64 m.kind) := (hC.2.cell 0).trans (by rw [← HD.out]; rfl)
          refine sz F1 (v := .int .i64 m.kind) (by simp only [execOp, F1.ev 86 (v := (PW w 0))]; simp [go_sem, c0]) fun a2 F2 => ?_
          refine sz F2 (v := bT) (by simp only [execOp, F2.ev 87 (v := .int .i64 m.kind)]; simp [go_sem, Act.eval, n1, n10, n2, g3, l7, n7]) fun a3 F3 => ?_
          refine sz F3 (v := bT) (F3.mr 88) fun a4 F4 => ?_
          refine sy F4 rfl (by omega) (F4.wg 89 true) (v := (PW w 0)) (F4.fa3 w (by simp [upd, h1, h15])) fun a5 F5 => ?_
          have c0 : W.cell? ⟨w.heap.size, 0, none⟩ = some (.int .i64 m.kind) := (hC.2.cell 0).trans (by rw [← HD.out]; rfl)
          refine sy F5 rfl (by omega) (F5.wg 89 true) (v := .int .i64 m.kind) (by simp only [execOp, F5.ev 90 (v := (PW w 0))]; simp [go_sem, c0]) fun a6 F6 => ?_
          refine sy F6 rfl (by omega) (F6.wg 89 true) (v := bT) (by simp only [execOp, F6.ev 91 (v := .int .i64 m.kind)]; simp [go_sem, Act.eval, n1, n10, n2, g3, l7, n7]) fun a7 F7 => ?_
          refine sz F7 (v := bT) (pick_run _ rfl (P := true) (F7.ev 89 (v := bT)) W (by rw [if_pos rfl]; exact F7.ev 92 (v := bT))) fun a8 F8 => ?_
          refine sz F8 (v := bT) (F8.mr 93) fun a9 F9 => ?_
          refine sy F9 rfl (by omega) (F9.wg 94 true) (v := (PW w 4)) (F9.fa3 w (by simp [upd, h1, h15])) fun a10 F10 => ?_
          have c4 : W.cell? ⟨w.heap.size, 4, none⟩ = some (.int .i64 m.round) := (hC.2.cell 4).trans (by rw [← HD.out]; rfl)
          have c5 : W.cell? ⟨w.heap.size, 5, none⟩ = some (.int .i64 m.rank) := (hC.2.cell 5).trans (by rw [← HD.out]; rfl)
          refine sy F10 rfl (by omega) (F10.wg 94 true) (v := .agg #[.int .i64 m.round, .int .i64 m.rank]) (by simp only [execOp, F10.ev 95 (v := (PW w 4))]; simp [go_sem, c4, c5]) fun a11 F11 => ?_
          refine scC (C := CC w D) F11 rfl (by omega) (F11.wg 94 true) (k := 55) (args := #[Value.agg #[.int .i64 m.round, .int .i64 m.rank]]) (v := bF) (by simp only [execOp, resolve, invoke, List.map_toArray, List.map_cons, List.map_nil, F11.ev 96 (v := .agg #[.int .i64 m.round, .int .i64 m.rank])]; simp [go_sem, Act.eval]) hC (fun wr hC => (repoch_any m.round m.rank wr).mono fun e w' ⟨he, hb⟩ => ⟨by rw [he, hs1], hC.below hb⟩) fun a12 W hC F12 => ?_
          refine sy F12 rfl (by omega) (F12.wg 94 true) (v := bT) (by simp only [execOp, F12.ev 97 (v := bF)]; simp [go_sem]) fun a13 F13 => ?_
          refine sz F13 (v := bT) (pick_run _ rfl (P := true) (F13.ev 94 (v := bT)) W (by rw [if_pos rfl]; exact F13.ev 98 (v := bT))) fun a14 F14 => ?_
          refine wpList_nil ?_
          show Code.wp _ _ _ _ _
          refine doneV (t := 99) (v1 := (PW w 0)) (v15 := Value.int .i64 m.kind) (vt := bT) F14 (by simp [upd, h1]) (by simp [upd, h15]) (by simp [upd]) fun f hF h1 h15 hp => ?_
          clear F1 F2 F3 F4 F5 F6 F7 F8 F9 F10 F11 F12 F13 F14
          refine wp_cond_true ((hF.eval 99 (by omega)).trans hp) ?_
          clear hp
          refine wp_seq (wp_region_list ?_)
          refine sz hF (v := bF) (by simp [execOp, Act.eval]) fun a1 F1 => ?_
          refine wpList_nil ?_
          show Code.wp _ _ _ _ _
          refine wp_ret ?_
          have h2 : a1.tmps.getD 2 undef = bF := by have := F1.eval 2 (by omega); simpa [Act.eval, upd] using this
          have hfin : bodyPost Try.prog Try.f23 (fun e w' => e = .returned (.bool (validB m)) ∧ Below w.heap.size w w') .ret a1 W := bodyPost_ret (results_tmp Try.results23 _ _ _) F1.defers ⟨by rw [h2]; exact ret_bool (by simp [validB, hin, hal, n1, n10, n2, g3, l7, n7, hasCap, hp1, hq1, hr1, hs1, i37]), hC.1⟩
          exact hfin
        · refine wp_seq ?_
          refine wp_seq (wp_region_list ?_)
          refine sz hF (v := (PW w 1)) (hF.fa3 w (by simp [upd, h1, h15])) fun a1 F1 => ?_
          have c1 : W.cell? ⟨w.heap.size, 1, none⟩ = some (.string ⟨m.name.toArray⟩) := (hC.2.cell 1).trans (by rw [← HD.out]; rfl)
          refine sz F1 (v := .string ⟨m.name.toArray⟩) (by simp only [execOp, F1.ev 66 (v := (PW w 1))]; simp [go_sem, c1]) fun a2 F2 => ?_
          refine sz F2 (v := (PW w 2)) (F2.fa3 w (by simp [upd, h1, h15])) fun a3 F3 => ?_
          have c2 : W.cell? ⟨w.heap.size, 2, none⟩ = some (.int .i64 m.cap) := (hC.2.cell 2).trans (by rw [← HD.out]; rfl)
          refine sz F3 (v := .int .i64 m.cap) (by simp only [execOp, F3.ev 68 (v := (PW w 2))]; simp [go_sem, c2]) fun a4 F4 => ?_
          refine sz F4 (v := (PW w 3)) (F4.fa3 w (by simp [upd, h1, h15])) fun a5 F5 => ?_
          have c3 : W.cell? ⟨w.heap.size, 3, none⟩ = some (.int .i64 m.recaps) := (hC.2.cell 3).trans (by rw [← HD.out]; rfl)
          refine sz F5 (v := .int .i64 m.recaps) (by simp only [execOp, F5.ev 70 (v := (PW w 3))]; simp [go_sem, c3]) fun a6 F6 => ?_
          refine scC (C := CC w D) F6 rfl (by omega) wn (k := 53) (args := #[Value.string ⟨m.name.toArray⟩, Value.int .i64 m.cap, Value.int .i64 m.recaps]) (v := bT) (by simp only [execOp, resolve, invoke, List.map_toArray, List.map_cons, List.map_nil, F6.ev 67 (v := .string ⟨m.name.toArray⟩), F6.ev 69 (v := .int .i64 m.cap), F6.ev 71 (v := .int .i64 m.recaps)]; simp [go_sem, Act.eval]) hC (fun wr hC => (rknown_any m.name m.cap m.recaps wr hl).mono fun e w' ⟨he, hw⟩ => ⟨by rw [he, hp1], by rw [hw]; exact hC⟩) fun a7 W hC F7 => ?_
          refine sz F7 (v := bF) (by simp only [execOp, F7.ev 72 (v := bT)]; simp [go_sem]) fun a8 F8 => ?_
          refine sz F8 (v := bF) (F8.mr 73) fun a9 F9 => ?_
          refine sy F9 rfl (by omega) (F9.wg 74 false) (v := (PW w 8)) (F9.fa3 w (by simp [upd, h1, h15])) fun a10 F10 => ?_
          have c8 : W.cell? ⟨w.heap.size, 8, none⟩ = some (.int .i64 m.down) := (hC.2.cell 8).trans (by rw [← HD.out]; rfl)
          have c9 : W.cell? ⟨w.heap.size, 9, none⟩ = some (.int .i64 m.up) := (hC.2.cell 9).trans (by rw [← HD.out]; rfl)
          refine sy F10 rfl (by omega) (F10.wg 74 false) (v := .agg #[.int .i64 m.down, .int .i64 m.up]) (by simp only [execOp, F10.ev 75 (v := (PW w 8))]; simp [go_sem, c8, c9]) fun a11 F11 => ?_
          refine scC (C := CC w D) F11 rfl (by omega) (F11.wg 74 false) (k := 54) (args := #[Value.agg #[.int .i64 m.down, .int .i64 m.up]]) (v := bT) (by simp only [execOp, resolve, invoke, List.map_toArray, List.map_cons, List.map_nil, F11.ev 76 (v := .agg #[.int .i64 m.down, .int .i64 m.up])]; simp [go_sem, Act.eval]) hC (fun wr hC => (rrights_any m.down m.up wr).mono fun e w' ⟨he, hb⟩ => ⟨by rw [he, hq1], hC.below hb⟩) fun a12 W hC F12 => ?_
          refine sy F12 rfl (by omega) (F12.wg 74 false) (v := bF) (by simp only [execOp, F12.ev 77 (v := bT)]; simp [go_sem]) fun a13 F13 => ?_
          refine sz F13 (v := bF) (pick_run _ rfl (P := false) (F13.ev 74 (v := bF)) W (by rw [if_neg (by decide)]; exact F13.ev 78 (v := bF))) fun a14 F14 => ?_
          refine sz F14 (v := bF) (F14.mr 79) fun a15 F15 => ?_
          refine sy F15 rfl (by omega) (F15.wg 80 false) (v := (PW w 10)) (F15.fa3 w (by simp [upd, h1, h15])) fun a16 F16 => ?_
          have c10 : W.cell? ⟨w.heap.size, 10, none⟩ = some (.int .i64 m.held) := (hC.2.cell 10).trans (by rw [← HD.out]; rfl)
          refine sy F16 rfl (by omega) (F16.wg 80 false) (v := .int .i64 m.held) (by simp only [execOp, F16.ev 81 (v := (PW w 10))]; simp [go_sem, c10]) fun a17 F17 => ?_
          refine scC (C := CC w D) F17 rfl (by omega) (F17.wg 80 false) (k := 46) (args := #[Value.int .i64 m.held, Value.int .i64 0, Value.int .i64 1099511627776]) (v := bT) (by simp only [execOp, resolve, invoke, List.map_toArray, List.map_cons, List.map_nil, F17.ev 82 (v := .int .i64 m.held)]; simp [go_sem, Act.eval]) hC (fun wr hC => (rwithin_any m.held 0 1099511627776 wr).mono fun e w' ⟨he, hw⟩ => ⟨by rw [he, hr1], by rw [hw]; exact hC⟩) fun a18 W hC F18 => ?_
          refine sy F18 rfl (by omega) (F18.wg 80 false) (v := bF) (by simp only [execOp, F18.ev 83 (v := bT)]; simp [go_sem]) fun a19 F19 => ?_
          refine sz F19 (v := bF) (pick_run _ rfl (P := false) (F19.ev 80 (v := bF)) W (by rw [if_neg (by decide)]; exact F19.ev 84 (v := bF))) fun a20 F20 => ?_
          refine wpList_nil ?_
          show Code.wp _ _ _ _ _
          refine doneV (t := 85) (v1 := (PW w 0)) (v15 := Value.int .i64 m.kind) (vt := bF) F20 (by simp [upd, h1]) (by simp [upd, h15]) (by simp [upd]) fun f hF h1 h15 hp => ?_
          clear F1 F2 F3 F4 F5 F6 F7 F8 F9 F10 F11 F12 F13 F14 F15 F16 F17 F18 F19 F20
          refine wp_cond_false ((hF.eval 85 (by omega)).trans hp) ?_
          clear hp
          refine wp_skip ?_
          show Code.wp _ _ _ _ _
          refine wp_seq ?_
          refine wp_seq (wp_region_list ?_)
          refine sz hF (v := (PW w 0)) (hF.fa3 w (by simp [upd, h1, h15])) fun a1 F1 => ?_
          have c0 : W.cell? ⟨w.heap.size, 0, none⟩ = some (.int .i64 m.kind) := (hC.2.cell 0).trans (by rw [← HD.out]; rfl)
          refine sz F1 (v := .int .i64 m.kind) (by simp only [execOp, F1.ev 86 (v := (PW w 0))]; simp [go_sem, c0]) fun a2 F2 => ?_
          refine sz F2 (v := bT) (by simp only [execOp, F2.ev 87 (v := .int .i64 m.kind)]; simp [go_sem, Act.eval, n1, n10, n2, g3, l7, n7]) fun a3 F3 => ?_
          refine sz F3 (v := bT) (F3.mr 88) fun a4 F4 => ?_
          refine sy F4 rfl (by omega) (F4.wg 89 true) (v := (PW w 0)) (F4.fa3 w (by simp [upd, h1, h15])) fun a5 F5 => ?_
          have c0 : W.cell? ⟨w.heap.size, 0, none⟩ = some (.int .i64 m.kind) := (hC.2.cell 0).trans (by rw [← HD.out]; rfl)
          refine sy F5 rfl (by omega) (F5.wg 89 true) (v := .int .i64 m.kind) (by simp only [execOp, F5.ev 90 (v := (PW w 0))]; simp [go_sem, c0]) fun a6 F6 => ?_
          refine sy F6 rfl (by omega) (F6.wg 89 true) (v := bT) (by simp only [execOp, F6.ev 91 (v := .int .i64 m.kind)]; simp [go_sem, Act.eval, n1, n10, n2, g3, l7, n7]) fun a7 F7 => ?_
          refine sz F7 (v := bT) (pick_run _ rfl (P := true) (F7.ev 89 (v := bT)) W (by rw [if_pos rfl]; exact F7.ev 92 (v := bT))) fun a8 F8 => ?_
          refine sz F8 (v := bT) (F8.mr 93) fun a9 F9 => ?_
          refine sy F9 rfl (by omega) (F9.wg 94 true) (v := (PW w 4)) (F9.fa3 w (by simp [upd, h1, h15])) fun a10 F10 => ?_
          have c4 : W.cell? ⟨w.heap.size, 4, none⟩ = some (.int .i64 m.round) := (hC.2.cell 4).trans (by rw [← HD.out]; rfl)
          have c5 : W.cell? ⟨w.heap.size, 5, none⟩ = some (.int .i64 m.rank) := (hC.2.cell 5).trans (by rw [← HD.out]; rfl)
          refine sy F10 rfl (by omega) (F10.wg 94 true) (v := .agg #[.int .i64 m.round, .int .i64 m.rank]) (by simp only [execOp, F10.ev 95 (v := (PW w 4))]; simp [go_sem, c4, c5]) fun a11 F11 => ?_
          refine scC (C := CC w D) F11 rfl (by omega) (F11.wg 94 true) (k := 55) (args := #[Value.agg #[.int .i64 m.round, .int .i64 m.rank]]) (v := bT) (by simp only [execOp, resolve, invoke, List.map_toArray, List.map_cons, List.map_nil, F11.ev 96 (v := .agg #[.int .i64 m.round, .int .i64 m.rank])]; simp [go_sem, Act.eval]) hC (fun wr hC => (repoch_any m.round m.rank wr).mono fun e w' ⟨he, hb⟩ => ⟨by rw [he, hs1], hC.below hb⟩) fun a12 W hC F12 => ?_
          refine sy F12 rfl (by omega) (F12.wg 94 true) (v := bF) (by simp only [execOp, F12.ev 97 (v := bT)]; simp [go_sem]) fun a13 F13 => ?_
          refine sz F13 (v := bF) (pick_run _ rfl (P := true) (F13.ev 94 (v := bT)) W (by rw [if_pos rfl]; exact F13.ev 98 (v := bF))) fun a14 F14 => ?_
          refine wpList_nil ?_
          show Code.wp _ _ _ _ _
          refine doneV (t := 99) (v1 := (PW w 0)) (v15 := Value.int .i64 m.kind) (vt := bF) F14 (by simp [upd, h1]) (by simp [upd, h15]) (by simp [upd]) fun f hF h1 h15 hp => ?_
          clear F1 F2 F3 F4 F5 F6 F7 F8 F9 F10 F11 F12 F13 F14
          refine wp_cond_false ((hF.eval 99 (by omega)).trans hp) ?_
          clear hp
          refine wp_skip ?_
          show Code.wp _ _ _ _ _
          refine wp_seq (wp_region_list ?_)
          refine sz hF (v := (PW w 0)) (hF.fa3 w (by simp [upd, h1, h15])) fun a1 F1 => ?_
          have c0 : W.cell? ⟨w.heap.size, 0, none⟩ = some (.int .i64 m.kind) := (hC.2.cell 0).trans (by rw [← HD.out]; rfl)
          refine sz F1 (v := .int .i64 m.kind) (by simp only [execOp, F1.ev 100 (v := (PW w 0))]; simp [go_sem, c0]) fun a2 F2 => ?_
          refine sz F2 (v := bT) (by simp only [execOp, F2.ev 101 (v := .int .i64 m.kind)]; simp [go_sem, Act.eval, n1, n10, n2, g3, l7, n7]) fun a3 F3 => ?_
          refine sz F3 (v := bT) (F3.mr 102) fun a4 F4 => ?_
          refine sm F4 (F4.wg 103 true) fun a5 F5 => ?_
          refine sm F5 (F5.wg 103 true) fun a6 F6 => ?_
          refine sm F6 (F6.wg 103 true) fun a7 F7 => ?_
          refine sz F7 (v := bT) (pick_run _ rfl (P := true) (F7.ev 103 (v := bT)) W rfl) fun a8 F8 => ?_
          refine sz F8 (v := bT) (by simp only [execOp, F8.ev 107 (v := bT)]; rfl) fun a9 F9 => ?_
          refine wpList_nil ?_
          show Code.wp _ _ _ _ _
          refine wp_ret ?_
          have h2 : a9.tmps.getD 2 undef = bT := by have := F9.eval 2 (by omega); simpa [Act.eval, upd] using this
          have hfin : bodyPost Try.prog Try.f23 (fun e w' => e = .returned (.bool (validB m)) ∧ Below w.heap.size w w') .ret a9 W := bodyPost_ret (results_tmp Try.results23 _ _ _) F9.defers ⟨by rw [h2]; exact ret_bool (by simp [validB, hin, hal, n1, n10, n2, g3, l7, n7, hasCap, hp1, hq1, hr1, hs1, i37]), hC.1⟩
          exact hfin
end Go.Proofs.Ytfgnlfemckdfnaa
namespace Go.Proofs.Ytfgnlfemckdfnaa
open Go.RowKit Go.PlainAid
set_option linter.unusedSimpArgs false
set_option linter.unusedVariables false
set_option maxRecDepth 100000 in
set_option maxHeartbeats 3200000 in
theorem rvalidC (m : Msg) (ao : Option Addr) (cv : Nat) (w : World) (D : Array Value) (HD : Hid (msgCells m (.slice ao m.views.length cv) = D)) (hl : m.name.length ≤ 140737488355328) (hol : m.oname.length ≤ 140737488355328) (hsrc : VFrom w ao m.views) (hsb : ∀ b o, ao = some ⟨b, o, none⟩ → 0 < m.views.length → b < w.heap.size) (hnm : ∀ x ∈ m.views, x.name.length ≤ 140737488355328) (g3 : 8 ≤ m.kind) (hi : m.kind ≤ 9) (hin : inB m.kind 1 10 = true) (hal : alikeB m (shapeM m) = true) :
    Calls Try.prog 23 #[.agg D] w (fun e w' => e = .returned (.bool (validB m)) ∧ Below w.heap.size w w') := by
  have HV : Hid _ := And.intro hsrc (And.intro hsb hnm)
  clear hsrc hsb hnm
  refine calls_of_wp Try.func23 rfl ?_
  have e : Try.f23.ntmps - (#[Value.agg D] : Array Value).size = 107 := by rw [Try.ntmps23]; rfl
  rw [e]
  have hF0 := frame_init1 (.agg D) 107
  generalize ({ tmps := #[Value.agg D] ++ Array.replicate 107 undef, defers := [] } : Act) = a0 at *
  have hC0 : CC w D (w.alloc (.cells D 35)) := ⟨by go_grown, heap_alloc_new w _⟩
  refine wp_seq (wp_region_list ?_)
  refine sw hF0 rfl (by omega) wn (v := .pointer (some ⟨w.heap.size, 0, none⟩)) (w' := w.alloc (.cells D 35)) (by simp only [execOp, hF0.eval 0 (by omega), if_true, Sem.run_bind, run_box']; rfl) fun a1 F1 => ?_
  refine sz F1 (v := .bool false) (by simp [execOp, Act.eval]) fun a2 F2 => ?_
  refine wpList_nil ?_
  show Code.wp _ _ _ _ _
  refine wp_seq ?_
  refine wp_seq ?_
  generalize w.alloc (.cells D 35) = W0 at *
  refine wp_region_quiet (C := CC w D) (by kernel_rfl) (by kernel_rfl) (by exact hC0.drew) ?_
  refine doneV (t := 2) (v1 := .pointer (some ⟨w.heap.size, 0, none⟩)) (v15 := undef) F2 (by simp [upd]) (by simp [upd]) (upd_eq _ _ _) fun f hF h1 h15 h2 => ?_
  clear hF0 F1 F2 h2
  have hi35 : (Try.prog.info? 35).map (·.size) = some D.size := by rw [← HD.out]; kernel_rfl
  have HS : Hid _ := (show ∀ wr, Calls Try.prog 48 #[.agg D] wr (fun e w' => e = .returned (.agg (msgCells (shapeM m) (.slice (shapeAo m.kind ao) (shapeM m).views.length (shapeCv m.kind cv)))) ∧ Below wr.heap.size wr w') from by rw [← HD.out]; exact fun wr => rshape_any m ao cv wr (by simpa [inB] using hin))
  have HK : Hid _ := (show ∀ wr, Calls Try.prog 47 #[.agg D, .agg (msgCells (shapeM m) (.slice (shapeAo m.kind ao) (shapeM m).views.length (shapeCv m.kind cv)))] wr (fun e w' => e = .returned (.bool (alikeB m (shapeM m))) ∧ Below wr.heap.size wr w') from by rw [← HD.out]; exact fun wr => ralike_any m (shapeM m) ao _ cv _ wr)
  have n1 : ¬ m.kind = 1 := by omega
  have n10 : ¬ m.kind = 10 := by omega
  have n2 : ¬ m.kind = 2 := by omega
  have g3' : 3 ≤ m.kind := by omega
  have l7 : ¬ m.kind ≤ 7 := by omega
  have n7 : ¬ m.kind = 7 := by omega
  have i37 : inB m.kind 3 7 = false := by simp only [inB]; simp; omega
  refine qy hF rfl (by omega) wn (v := (PW w 0)) (fun W hC => by simp only [execOp, hF.ev 1 (v := (PW w 0)) (by simp [upd, h1, h15])]; simp [go_sem]) fun a1 F1 => ?_
  refine qy F1 rfl (by omega) wn (v := .int .i64 m.kind) (fun W hC => by simp only [execOp, F1.ev 3 (v := (PW w 0))]; simp [go_sem, (show W.cell? ⟨w.heap.size, 0, none⟩ = some (.int .i64 m.kind) from (hC.2.cell 0).trans (by rw [← HD.out]; rfl))]) fun a2 F2 => ?_
  refine qc F2 rfl (by omega) wn (k := 46) (args := #[Value.int .i64 m.kind, Value.int .i64 1, Value.int .i64 10]) (v := bT) (fun W hC => by simp only [execOp, resolve, invoke, List.map_toArray, List.map_cons, List.map_nil, F2.ev 4 (v := .int .i64 m.kind)]; simp [go_sem, Act.eval]) (fun wr hC => (rwithin_any m.kind 1 10 wr).mono fun e w' ⟨he, hw⟩ => ⟨by rw [he, hin], by rw [hw]; exact hC⟩) fun a3 F3 => ?_
  refine qy F3 rfl (by omega) wn (v := bF) (fun W hC => by simp only [execOp, F3.ev 5 (v := bT)]; simp [go_sem]) fun a4 F4 => ?_
  refine qy F4 rfl (by omega) wn (v := bF) (fun W hC => by simp only [execOp, F4.ev 6 (v := bF)]; rfl) fun a5 F5 => ?_
  refine qy F5 rfl (by omega) (F5.wg 7 false) (v := .agg D) (fun W hC => by simp only [execOp, F5.ev 1 (v := (PW w 0)) (by simp [upd, h1, h15]), Instr.loadAt, Instr.sureAddr, Sem.run_bind, Sem.run_pure, Result.andThen_ok, run_loadVar_row W w.heap.size 35 35 D (0, 0) _ hC.2 Try.underlying35 rfl hi35]) fun a6 F6 => ?_
  refine qy F6 rfl (by omega) (F6.wg 7 false) (v := .agg D) (fun W hC => by simp only [execOp, F6.ev 1 (v := (PW w 0)) (by simp [upd, h1, h15]), Instr.loadAt, Instr.sureAddr, Sem.run_bind, Sem.run_pure, Result.andThen_ok, run_loadVar_row W w.heap.size 35 35 D (0, 0) _ hC.2 Try.underlying35 rfl hi35]) fun a7 F7 => ?_
  refine qc F7 rfl (by omega) (F7.wg 7 false) (k := 48) (args := #[Value.agg D]) (v := .agg (msgCells (shapeM m) (.slice (shapeAo m.kind ao) (shapeM m).views.length (shapeCv m.kind cv)))) (fun W hC => by simp only [execOp, resolve, invoke, List.map_toArray, List.map_cons, List.map_nil, F7.ev 9 (v := .agg D)]; simp [go_sem, Act.eval]) (fun wr hC => (HS.out wr).mono fun e w' ⟨he, hb⟩ => ⟨he, hC.below hb⟩) fun a8 F8 => ?_
  refine qc F8 rfl (by omega) (F8.wg 7 false) (k := 47) (args := #[Value.agg D, Value.agg (msgCells (shapeM m) (.slice (shapeAo m.kind ao) (shapeM m).views.length (shapeCv m.kind cv)))]) (v := bT) (fun W hC => by simp only [execOp, resolve, invoke, List.map_toArray, List.map_cons, List.map_nil, F8.ev 8 (v := .agg D), F8.ev 10 (v := .agg (msgCells (shapeM m) (.slice (shapeAo m.kind ao) (shapeM m).views.length (shapeCv m.kind cv))))]; simp [go_sem, Act.eval]) (fun wr hC => (HK.out wr).mono fun e w' ⟨he, hb⟩ => ⟨by rw [he, hal], hC.below hb⟩) fun a9 F9 => ?_
  refine qy F9 rfl (by omega) (F9.wg 7 false) (v := bF) (fun W hC => by simp only [execOp, F9.ev 11 (v := bT)]; simp [go_sem]) fun a10 F10 => ?_
  refine qy F10 rfl (by omega) wn (v := bF) (fun W hC => pick_run _ rfl (P := false) (F10.ev 7 (v := bF)) W (by rw [if_neg (by decide)]; exact F10.ev 12 (v := bF))) fun a11 F11 => ?_
  refine wpQuiet_nil fun W hC => ?_
  show Code.wp _ _ _ _ _
  refine doneV (t := 13) (v1 := (PW w 0)) (v15 := undef) (vt := bF) F11 (by simp [upd, h1]) (by simp [upd, h15]) (upd_eq _ _ _) fun f hF h1 h15 hp => ?_
  clear F1 F2 F3 F4 F5 F6 F7 F8 F9 F10 F11
  refine wp_cond_false ((hF.eval 13 (by omega)).trans hp) ?_
  clear hp
  refine wp_skip ?_
  show Code.wp _ _ _ _ _
  refine wp_seq ?_
  refine wp_seq (wp_region_list ?_)
  refine sz hF (v := (PW w 0)) (hF.fa3 w (by simp [upd, h1, h15])) fun a1 F1 => ?_
  have c0 : W.cell? ⟨w.heap.size, 0, none⟩ = some (.int .i64 m.kind) := (hC.2.cell 0).trans (by rw [← HD.out]; rfl)
  refine sz F1 (v := .int .i64 m.kind) (by simp only [execOp, F1.ev 14 (v := (PW w 0))]; simp [go_sem, c0]) fun a2 F2 => ?_
  refine wpList_nil ?_
  show Code.wp _ _ _ _ _
  refine doneV (t := 14) (v1 := (PW w 0)) (v15 := Value.int .i64 m.kind) (vt := (PW w 0)) F2 (by simp [upd, h1]) (by simp [upd]) (by simp [upd]) fun f hF h1 h15 hp => ?_
  clear F1 F2 hp
  refine wp_block ?_
  refine wp_seq (wp_region_list ?_)
  refine sz hF (v := bF) (by simp only [execOp, hF.ev 15 (v := .int .i64 m.kind) (by simp [upd, h1, h15])]; simp [go_sem, Act.eval, n1, n10, n2, g3', l7, n7]) fun a1 F1 => ?_
  refine sz F1 (v := bF) (by simp only [execOp, F1.ev 17 (v := bF)]; rfl) fun a2 F2 => ?_
  refine wpList_nil ?_
  show Code.wp _ _ _ _ _
  refine doneV (t := 16) (v1 := (PW w 0)) (v15 := Value.int .i64 m.kind) (vt := bF) F2 (by simp [upd, h1]) (by simp [upd, h15]) (by simp [upd]) fun f hF h1 h15 hp => ?_
  clear F1 F2
  refine wp_cond_false ((hF.eval 16 (by omega)).trans hp) ?_
  clear hp
  refine wp_seq (wp_region_list ?_)
  refine sz hF (v := bF) (by simp only [execOp, hF.ev 15 (v := .int .i64 m.kind) (by simp [upd, h1, h15])]; simp [go_sem, Act.eval, n1, n10, n2, g3', l7, n7]) fun a1 F1 => ?_
  refine sz F1 (v := bF) (by simp only [execOp, F1.ev 27 (v := bF)]; rfl) fun a2 F2 => ?_
  refine wpList_nil ?_
  show Code.wp _ _ _ _ _
  refine doneV (t := 26) (v1 := (PW w 0)) (v15 := Value.int .i64 m.kind) (vt := bF) F2 (by simp [upd, h1]) (by simp [upd, h15]) (by simp [upd]) fun f hF h1 h15 hp => ?_
  clear F1 F2
  refine wp_cond_false ((hF.eval 26 (by omega)).trans hp) ?_
  clear hp
  refine wp_seq (wp_region_list ?_)
  refine sz hF (v := bF) (by simp only [execOp, hF.ev 15 (v := .int .i64 m.kind) (by simp [upd, h1, h15])]; simp [go_sem, Act.eval, n1, n10, n2, g3', l7, n7]) fun a1 F1 => ?_
  refine sz F1 (v := bF) (by simp only [execOp, F1.ev 32 (v := bF)]; rfl) fun a2 F2 => ?_
  refine wpList_nil ?_
  show Code.wp _ _ _ _ _
  refine doneV (t := 31) (v1 := (PW w 0)) (v15 := Value.int .i64 m.kind) (vt := bF) F2 (by simp [upd, h1]) (by simp [upd, h15]) (by simp [upd]) fun f hF h1 h15 hp => ?_
  clear F1 F2
  refine wp_cond_false ((hF.eval 31 (by omega)).trans hp) ?_
  clear hp
  refine wp_skip ?_
  show Code.wp _ _ _ _ _
  cases hp1 : knownB m.name m.cap m.recaps
  · refine wp_seq ?_
    refine wp_seq (wp_region_list ?_)
    refine sz hF (v := (PW w 1)) (hF.fa3 w (by simp [upd, h1, h15])) fun a1 F1 => ?_
    have c1 : W.cell? ⟨w.heap.size, 1, none⟩ = some (.string ⟨m.name.toArray⟩) := (hC.2.cell 1).trans (by rw [← HD.out]; rfl)
    refine sz F1 (v := .string ⟨m.name.toArray⟩) (by simp only [execOp, F1.ev 66 (v := (PW w 1))]; simp [go_sem, c1]) fun a2 F2 => ?_
    refine sz F2 (v := (PW w 2)) (F2.fa3 w (by simp [upd, h1, h15])) fun a3 F3 => ?_
    have c2 : W.cell? ⟨w.heap.size, 2, none⟩ = some (.int .i64 m.cap) := (hC.2.cell 2).trans (by rw [← HD.out]; rfl)
    refine sz F3 (v := .int .i64 m.cap) (by simp only [execOp, F3.ev 68 (v := (PW w 2))]; simp [go_sem, c2]) fun a4 F4 => ?_
    refine sz F4 (v := (PW w 3)) (F4.fa3 w (by simp [upd, h1, h15])) fun a5 F5 => ?_
    have c3 : W.cell? ⟨w.heap.size, 3, none⟩ = some (.int .i64 m.recaps) := (hC.2.cell 3).trans (by rw [← HD.out]; rfl)
    refine sz F5 (v := .int .i64 m.recaps) (by simp only [execOp, F5.ev 70 (v := (PW w 3))]; simp [go_sem, c3]) fun a6 F6 => ?_
    refine scC (C := CC w D) F6 rfl (by omega) wn (k := 53) (args := #[Value.string ⟨m.name.toArray⟩, Value.int .i64 m.cap, Value.int .i64 m.recaps]) (v := bF) (by simp only [execOp, resolve, invoke, List.map_toArray, List.map_cons, List.map_nil, F6.ev 67 (v := .string ⟨m.name.toArray⟩), F6.ev 69 (v := .int .i64 m.cap), F6.ev 71 (v := .int .i64 m.recaps)]; simp [go_sem, Act.eval]) hC (fun wr hC => (rknown_any m.name m.cap m.recaps wr hl).mono fun e w' ⟨he, hw⟩ => ⟨by rw [he, hp1], by rw [hw]; exact hC⟩) fun a7 W hC F7 => ?_
    refine sz F7 (v := bT) (by simp only [execOp, F7.ev 72 (v := bF)]; simp [go_sem]) fun a8 F8 => ?_
    refine sz F8 (v := bT) (F8.mr 73) fun a9 F9 => ?_
    refine sm F9 (F9.wg 74 true) fun a10 F10 => ?_
    refine sm F10 (F10.wg 74 true) fun a11 F11 => ?_
    refine sm F11 (F11.wg 74 true) fun a12 F12 => ?_
    refine sm F12 (F12.wg 74 true) fun a13 F13 => ?_
    refine sz F13 (v := bT) (pick_run _ rfl (P := true) (F13.ev 74 (v := bT)) W rfl) fun a14 F14 => ?_
    refine sz F14 (v := bT) (F14.mr 79) fun a15 F15 => ?_
    refine sm F15 (F15.wg 80 true) fun a16 F16 => ?_
    refine sm F16 (F16.wg 80 true) fun a17 F17 => ?_
    refine sm F17 (F17.wg 80 true) fun a18 F18 => ?_
    refine sm F18 (F18.wg 80 true) fun a19 F19 => ?_
    refine sz F19 (v := bT) (pick_run _ rfl (P := true) (F19.ev 80 (v := bT)) W rfl) fun a20 F20 => ?_
    refine wpList_nil ?_
    show Code.wp _ _ _ _ _
    refine doneV (t := 85) (v1 := (PW w 0)) (v15 := Value.int .i64 m.kind) (vt := bT) F20 (by simp [upd, h1]) (by simp [upd, h15]) (by simp [upd]) fun f hF h1 h15 hp => ?_
    clear F1 F2 F3 F4 F5 F6 F7 F8 F9 F10 F11 F12 F13 F14 F15 F16 F17 F18 F19 F20
    refine wp_cond_true ((hF.eval 85 (by omega)).trans hp) ?_
    clear hp
    refine wp_seq (wp_region_list ?_)
    refine sz hF (v := bF) (by simp [execOp, Act.eval]) fun a1 F1 => ?_
    refine wpList_nil ?_
    show Code.wp _ _ _ _ _
    refine wp_ret ?_
    have h2 : a1.tmps.getD 2 undef = bF := by have := F1.eval 2 (by omega); simpa [Act.eval, upd] using this
    have hfin : bodyPost Try.prog Try.f23 (fun e w' => e = .returned (.bool (validB m)) ∧ Below w.heap.size w w') .ret a1 W := bodyPost_ret (results_tmp Try.results23 _ _ _) F1.defers ⟨by rw [h2]; exact ret_bool (by simp [validB, hin, hal, n1, n10, n2, g3', l7, n7, hasCap, i37, hp1]), hC.1⟩
    exact hfin
  · cases hq1 : rightsB m.down m.up
    · refine wp_seq ?_
      refine wp_seq (wp_region_list ?_)
      refine sz hF (v := (PW w 1)) (hF.fa3 w (by simp [upd, h1, h15])) fun a1 F1 => ?_
      have c1 : W.cell? ⟨w.heap.size, 1, none⟩ = some (.string ⟨m.name.toArray⟩) := (hC.2.cell 1).trans (by rw [← HD.out]; rfl)
      refine sz F1 (v := .string ⟨m.name.toArray⟩) (by simp only [execOp, F1.ev 66 (v := (PW w 1))]; simp [go_sem, c1]) fun a2 F2 => ?_
      refine sz F2 (v := (PW w 2)) (F2.fa3 w (by simp [upd, h1, h15])) fun a3 F3 => ?_
      have c2 : W.cell? ⟨w.heap.size, 2, none⟩ = some (.int .i64 m.cap) := (hC.2.cell 2).trans (by rw [← HD.out]; rfl)
      refine sz F3 (v := .int .i64 m.cap) (by simp only [execOp, F3.ev 68 (v := (PW w 2))]; simp [go_sem, c2]) fun a4 F4 => ?_
      refine sz F4 (v := (PW w 3)) (F4.fa3 w (by simp [upd, h1, h15])) fun a5 F5 => ?_
      have c3 : W.cell? ⟨w.heap.size, 3, none⟩ = some (.int .i64 m.recaps) := (hC.2.cell 3).trans (by rw [← HD.out]; rfl)
      refine sz F5 (v := .int .i64 m.recaps) (by simp only [execOp, F5.ev 70 (v := (PW w 3))]; simp [go_sem, c3]) fun a6 F6 => ?_
      refine scC (C := CC w D) F6 rfl (by omega) wn (k := 53) (args := #[Value.string ⟨m.name.toArray⟩, Value.int .i64 m.cap, Value.int .i64 m.recaps]) (v := bT) (by simp only [execOp, resolve, invoke, List.map_toArray, List.map_cons, List.map_nil, F6.ev 67 (v := .string ⟨m.name.toArray⟩), F6.ev 69 (v := .int .i64 m.cap), F6.ev 71 (v := .int .i64 m.recaps)]; simp [go_sem, Act.eval]) hC (fun wr hC => (rknown_any m.name m.cap m.recaps wr hl).mono fun e w' ⟨he, hw⟩ => ⟨by rw [he, hp1], by rw [hw]; exact hC⟩) fun a7 W hC F7 => ?_
      refine sz F7 (v := bF) (by simp only [execOp, F7.ev 72 (v := bT)]; simp [go_sem]) fun a8 F8 => ?_
      refine sz F8 (v := bF) (F8.mr 73) fun a9 F9 => ?_
      refine sy F9 rfl (by omega) (F9.wg 74 false) (v := (PW w 8)) (F9.fa3 w (by simp [upd, h1, h15])) fun a10 F10 => ?_
      have c8 : W.cell? ⟨w.heap.size, 8, none⟩ = some (.int .i64 m.down) := (hC.2.cell 8).trans (by rw [← HD.out]; rfl)
      have c9 : W.cell? ⟨w.heap.size, 9, none⟩ = some (.int .i64 m.up) := (hC.2.cell 9).trans (by rw [← HD.out]; rfl)
      refine sy F10 rfl (by omega) (F10.wg 74 false) (v := .agg #[.int .i64 m.down, .int .i64 m.up]) (by simp only [execOp, F10.ev 75 (v := (PW w 8))]; simp [go_sem, c8, c9]) fun a11 F11 => ?_
      refine scC (C := CC w D) F11 rfl (by omega) (F11.wg 74 false) (k := 54) (args := #[Value.agg #[.int .i64 m.down, .int .i64 m.up]]) (v := bF) (by simp only [execOp, resolve, invoke, List.map_toArray, List.map_cons, List.map_nil, F11.ev 76 (v := .agg #[.int .i64 m.down, .int .i64 m.up])]; simp [go_sem, Act.eval]) hC (fun wr hC => (rrights_any m.down m.up wr).mono fun e w' ⟨he, hb⟩ => ⟨by rw [he, hq1], hC.below hb⟩) fun a12 W hC F12 => ?_
      refine sy F12 rfl (by omega) (F12.wg 74 false) (v := bT) (by simp only [execOp, F12.ev 77 (v := bF)]; simp [go_sem]) fun a13 F13 => ?_
      refine sz F13 (v := bT) (pick_run _ rfl (P := false) (F13.ev 74 (v := bF)) W (by rw [if_neg (by decide)]; exact F13.ev 78 (v := bT))) fun a14 F14 => ?_
      refine sz F14 (v := bT) (F14.mr 79) fun a15 F15 => ?_
      refine sm F15 (F15.wg 80 true) fun a16 F16 => ?_
      refine sm F16 (F16.wg 80 true) fun a17 F17 => ?_
      refine sm F17 (F17.wg 80 true) fun a18 F18 => ?_
      refine sm F18 (F18.wg 80 true) fun a19 F19 => ?_
      refine sz F19 (v := bT) (pick_run _ rfl (P := true) (F19.ev 80 (v := bT)) W rfl) fun a20 F20 => ?_
      refine wpList_nil ?_
      show Code.wp _ _ _ _ _
      refine doneV (t := 85) (v1 := (PW w 0)) (v15 := Value.int .i64 m.kind) (vt := bT) F20 (by simp [upd, h1]) (by simp [upd, h15]) (by simp [upd]) fun f hF h1 h15 hp => ?_
      clear F1 F2 F3 F4 F5 F6 F7 F8 F9 F10 F11 F12 F13 F14 F15 F16 F17 F18 F19 F20
      refine wp_cond_true ((hF.eval 85 (by omega)).trans hp) ?_
      clear hp
      refine wp_seq (wp_region_list ?_)
      refine sz hF (v := bF) (by simp [execOp, Act.eval]) fun a1 F1 => ?_
      refine wpList_nil ?_
      show Code.wp _ _ _ _ _
      refine wp_ret ?_
      have h2 : a1.tmps.getD 2 undef = bF := by have := F1.eval 2 (by omega); simpa [Act.eval, upd] using this
      have hfin : bodyPost Try.prog Try.f23 (fun e w' => e = .returned (.bool (validB m)) ∧ Below w.heap.size w w') .ret a1 W := bodyPost_ret (results_tmp Try.results23 _ _ _) F1.defers ⟨by rw [h2]; exact ret_bool (by simp [validB, hin, hal, n1, n10, n2, g3', l7, n7, hasCap, i37, hp1, hq1]), hC.1⟩
      exact hfin
    · cases hr1 : inB m.held 0 1099511627776
      · refine wp_seq ?_
        refine wp_seq (wp_region_list ?_)
        refine sz hF (v := (PW w 1)) (hF.fa3 w (by simp [upd, h1, h15])) fun a1 F1 => ?_
        have c1 : W.cell? ⟨w.heap.size, 1, none⟩ = some (.string ⟨m.name.toArray⟩) := (hC.2.cell 1).trans (by rw [← HD.out]; rfl)
        refine sz F1 (v := .string ⟨m.name.toArray⟩) (by simp only [execOp, F1.ev 66 (v := (PW w 1))]; simp [go_sem, c1]) fun a2 F2 => ?_
        refine sz F2 (v := (PW w 2)) (F2.fa3 w (by simp [upd, h1, h15])) fun a3 F3 => ?_
        have c2 : W.cell? ⟨w.heap.size, 2, none⟩ = some (.int .i64 m.cap) := (hC.2.cell 2).trans (by rw [← HD.out]; rfl)
        refine sz F3 (v := .int .i64 m.cap) (by simp only [execOp, F3.ev 68 (v := (PW w 2))]; simp [go_sem, c2]) fun a4 F4 => ?_
        refine sz F4 (v := (PW w 3)) (F4.fa3 w (by simp [upd, h1, h15])) fun a5 F5 => ?_
        have c3 : W.cell? ⟨w.heap.size, 3, none⟩ = some (.int .i64 m.recaps) := (hC.2.cell 3).trans (by rw [← HD.out]; rfl)
        refine sz F5 (v := .int .i64 m.recaps) (by simp only [execOp, F5.ev 70 (v := (PW w 3))]; simp [go_sem, c3]) fun a6 F6 => ?_
        refine scC (C := CC w D) F6 rfl (by omega) wn (k := 53) (args := #[Value.string ⟨m.name.toArray⟩, Value.int .i64 m.cap, Value.int .i64 m.recaps]) (v := bT) (by simp only [execOp, resolve, invoke, List.map_toArray, List.map_cons, List.map_nil, F6.ev 67 (v := .string ⟨m.name.toArray⟩), F6.ev 69 (v := .int .i64 m.cap), F6.ev 71 (v := .int .i64 m.recaps)]; simp [go_sem, Act.eval]) hC (fun wr hC => (rknown_any m.name m.cap m.recaps wr hl).mono fun e w' ⟨he, hw⟩ => ⟨by rw [he, hp1], by rw [hw]; exact hC⟩) fun a7 W hC F7 => ?_
        refine sz F7 (v := bF) (by simp only [execOp, F7.ev 72 (v := bT)]; simp [go_sem]) fun a8 F8 => ?_
        refine sz F8 (v := bF) (F8.mr 73) fun a9 F9 => ?_
        refine sy F9 rfl (by omega) (F9.wg 74 false) (v := (PW w 8)) (F9.fa3 w (by simp [upd, h1, h15])) fun a10 F10 => ?_
        have c8 : W.cell? ⟨w.heap.size, 8, none⟩ = some (.int .i64 m.down) := (hC.2.cell 8).trans (by rw [← HD.out]; rfl)
        have c9 : W.cell? ⟨w.heap.size, 9, none⟩ = some (.int .i64 m.up) := (hC.2.cell 9).trans (by rw [← HD.out]; rfl)
        refine sy F10 rfl (by omega) (F10.wg 74 false) (v := .agg #[.int .i64 m.down, .int .i64 m.up]) (by simp only [execOp, F10.ev 75 (v := (PW w 8))]; simp [go_sem, c8, c9]) fun a11 F11 => ?_
        refine scC (C := CC w D) F11 rfl (by omega) (F11.wg 74 false) (k := 54) (args := #[Value.agg #[.int .i64 m.down, .int .i64 m.up]]) (v := bT) (by simp only [execOp, resolve, invoke, List.map_toArray, List.map_cons, List.map_nil, F11.ev 76 (v := .agg #[.int .i64 m.down, .int .i64 m.up])]; simp [go_sem, Act.eval]) hC (fun wr hC => (rrights_any m.down m.up wr).mono fun e w' ⟨he, hb⟩ => ⟨by rw [he, hq1], hC.below hb⟩) fun a12 W hC F12 => ?_
        refine sy F12 rfl (by omega) (F12.wg 74 false) (v := bF) (by simp only [execOp, F12.ev 77 (v := bT)]; simp [go_sem]) fun a13 F13 => ?_
        refine sz F13 (v := bF) (pick_run _ rfl (P := false) (F13.ev 74 (v := bF)) W (by rw [if_neg (by decide)]; exact F13.ev 78 (v := bF))) fun a14 F14 => ?_
        refine sz F14 (v := bF) (F14.mr 79) fun a15 F15 => ?_
        refine sy F15 rfl (by omega) (F15.wg 80 false) (v := (PW w 10)) (F15.fa3 w (by simp [upd, h1, h15])) fun a16 F16 => ?_
        have c10 : W.cell? ⟨w.heap.size, 10, none⟩ = some (.int .i64 m.held) := (hC.2.cell 10).trans (by rw [← HD.out]; rfl)
        refine sy F16 rfl (by omega) (F16.wg 80 false) (v := .int .i64 m.held) (by simp only [execOp, F16.ev 81 (v := (PW w 10))]; simp [go_sem, c10]) fun a17 F17 => ?_
        refine scC (C := CC w D) F17 rfl (by omega) (F17.wg 80 false) (k := 46) (args := #[Value.int .i64 m.held, Value.int .i64 0, Value.int .i64 1099511627776]) (v := bF) (by simp only [execOp, resolve, invoke, List.map_toArray, List.map_cons, List.map_nil, F17.ev 82 (v := .int .i64 m.held)]; simp [go_sem, Act.eval]) hC (fun wr hC => (rwithin_any m.held 0 1099511627776 wr).mono fun e w' ⟨he, hw⟩ => ⟨by rw [he, hr1], by rw [hw]; exact hC⟩) fun a18 W hC F18 => ?_
        refine sy F18 rfl (by omega) (F18.wg 80 false) (v := bT) (by simp only [execOp, F18.ev 83 (v := bF)]; simp [go_sem]) fun a19 F19 => ?_
        refine sz F19 (v := bT) (pick_run _ rfl (P := false) (F19.ev 80 (v := bF)) W (by rw [if_neg (by decide)]; exact F19.ev 84 (v := bT))) fun a20 F20 => ?_
        refine wpList_nil ?_
        show Code.wp _ _ _ _ _
        refine doneV (t := 85) (v1 := (PW w 0)) (v15 := Value.int .i64 m.kind) (vt := bT) F20 (by simp [upd, h1]) (by simp [upd, h15]) (by simp [upd]) fun f hF h1 h15 hp => ?_
        clear F1 F2 F3 F4 F5 F6 F7 F8 F9 F10 F11 F12 F13 F14 F15 F16 F17 F18 F19 F20
        refine wp_cond_true ((hF.eval 85 (by omega)).trans hp) ?_
        clear hp
        refine wp_seq (wp_region_list ?_)
        refine sz hF (v := bF) (by simp [execOp, Act.eval]) fun a1 F1 => ?_
        refine wpList_nil ?_
        show Code.wp _ _ _ _ _
        refine wp_ret ?_
        have h2 : a1.tmps.getD 2 undef = bF := by have := F1.eval 2 (by omega); simpa [Act.eval, upd] using this
        have hfin : bodyPost Try.prog Try.f23 (fun e w' => e = .returned (.bool (validB m)) ∧ Below w.heap.size w w') .ret a1 W := bodyPost_ret (results_tmp Try.results23 _ _ _) F1.defers ⟨by rw [h2]; exact ret_bool (by simp [validB, hin, hal, n1, n10, n2, g3', l7, n7, hasCap, i37, hp1, hq1, hr1]), hC.1⟩
        exact hfin
      · refine wp_seq ?_
        refine wp_seq (wp_region_list ?_)
        refine sz hF (v := (PW w 1)) (hF.fa3 w (by simp [upd, h1, h15])) fun a1 F1 => ?_
        have c1 : W.cell? ⟨w.heap.size, 1, none⟩ = some (.string ⟨m.name.toArray⟩) := (hC.2.cell 1).trans (by rw [← HD.out]; rfl)
        refine sz F1 (v := .string ⟨m.name.toArray⟩) (by simp only [execOp, F1.ev 66 (v := (PW w 1))]; simp [go_sem, c1]) fun a2 F2 => ?_
        refine sz F2 (v := (PW w 2)) (F2.fa3 w (by simp [upd, h1, h15])) fun a3 F3 => ?_
        have c2 : W.cell? ⟨w.heap.size, 2, none⟩ = some (.int .i64 m.cap) := (hC.2.cell 2).trans (by rw [← HD.out]; rfl)
        refine sz F3 (v := .int .i64 m.cap) (by simp only [execOp, F3.ev 68 (v := (PW w 2))]; simp [go_sem, c2]) fun a4 F4 => ?_
        refine sz F4 (v := (PW w 3)) (F4.fa3 w (by simp [upd, h1, h15])) fun a5 F5 => ?_
        have c3 : W.cell? ⟨w.heap.size, 3, none⟩ = some (.int .i64 m.recaps) := (hC.2.cell 3).trans (by rw [← HD.out]; rfl)
        refine sz F5 (v := .int .i64 m.recaps) (by simp only [execOp, F5.ev 70 (v := (PW w 3))]; simp [go_sem, c3]) fun a6 F6 => ?_
        refine scC (C := CC w D) F6 rfl (by omega) wn (k := 53) (args := #[Value.string ⟨m.name.toArray⟩, Value.int .i64 m.cap, Value.int .i64 m.recaps]) (v := bT) (by simp only [execOp, resolve, invoke, List.map_toArray, List.map_cons, List.map_nil, F6.ev 67 (v := .string ⟨m.name.toArray⟩), F6.ev 69 (v := .int .i64 m.cap), F6.ev 71 (v := .int .i64 m.recaps)]; simp [go_sem, Act.eval]) hC (fun wr hC => (rknown_any m.name m.cap m.recaps wr hl).mono fun e w' ⟨he, hw⟩ => ⟨by rw [he, hp1], by rw [hw]; exact hC⟩) fun a7 W hC F7 => ?_
        refine sz F7 (v := bF) (by simp only [execOp, F7.ev 72 (v := bT)]; simp [go_sem]) fun a8 F8 => ?_
        refine sz F8 (v := bF) (F8.mr 73) fun a9 F9 => ?_
        refine sy F9 rfl (by omega) (F9.wg 74 false) (v := (PW w 8)) (F9.fa3 w (by simp [upd, h1, h15])) fun a10 F10 => ?_
        have c8 : W.cell? ⟨w.heap.size, 8, none⟩ = some (.int .i64 m.down) := (hC.2.cell 8).trans (by rw [← HD.out]; rfl)
        have c9 : W.cell? ⟨w.heap.size, 9, none⟩ = some (.int .i64 m.up) := (hC.2.cell 9).trans (by rw [← HD.out]; rfl)
        refine sy F10 rfl (by omega) (F10.wg 74 false) (v := .agg #[.int .i64 m.down, .int .i64 m.up]) (by simp only [execOp, F10.ev 75 (v := (PW w 8))]; simp [go_sem, c8, c9]) fun a11 F11 => ?_
        refine scC (C := CC w D) F11 rfl (by omega) (F11.wg 74 false) (k := 54) (args := #[Value.agg #[.int .i64 m.down, .int .i64 m.up]]) (v := bT) (by simp only [execOp, resolve, invoke, List.map_toArray, List.map_cons, List.map_nil, F11.ev 76 (v := .agg #[.int .i64 m.down, .int .i64 m.up])]; simp [go_sem, Act.eval]) hC (fun wr hC => (rrights_any m.down m.up wr).mono fun e w' ⟨he, hb⟩ => ⟨by rw [he, hq1], hC.below hb⟩) fun a12 W hC F12 => ?_
        refine sy F12 rfl (by omega) (F12.wg 74 false) (v := bF) (by simp only [execOp, F12.ev 77 (v := bT)]; simp [go_sem]) fun a13 F13 => ?_
        refine sz F13 (v := bF) (pick_run _ rfl (P := false) (F13.ev 74 (v := bF)) W (by rw [if_neg (by decide)]; exact F13.ev 78 (v := bF))) fun a14 F14 => ?_
        refine sz F14 (v := bF) (F14.mr 79) fun a15 F15 => ?_
        refine sy F15 rfl (by omega) (F15.wg 80 false) (v := (PW w 10)) (F15.fa3 w (by simp [upd, h1, h15])) fun a16 F16 => ?_
        have c10 : W.cell? ⟨w.heap.size, 10, none⟩ = some (.int .i64 m.held) := (hC.2.cell 10).trans (by rw [← HD.out]; rfl)
        refine sy F16 rfl (by omega) (F16.wg 80 false) (v := .int .i64 m.held) (by simp only [execOp, F16.ev 81 (v := (PW w 10))]; simp [go_sem, c10]) fun a17 F17 => ?_
        refine scC (C := CC w D) F17 rfl (by omega) (F17.wg 80 false) (k := 46) (args := #[Value.int .i64 m.held, Value.int .i64 0, Value.int .i64 1099511627776]) (v := bT) (by simp only [execOp, resolve, invoke, List.map_toArray, List.map_cons, List.map_nil, F17.ev 82 (v := .int .i64 m.held)]; simp [go_sem, Act.eval]) hC (fun wr hC => (rwithin_any m.held 0 1099511627776 wr).mono fun e w' ⟨he, hw⟩ => ⟨by rw [he, hr1], by rw [hw]; exact hC⟩) fun a18 W hC F18 => ?_
        refine sy F18 rfl (by omega) (F18.wg 80 false) (v := bF) (by simp only [execOp, F18.ev 83 (v := bT)]; simp [go_sem]) fun a19 F19 => ?_
        refine sz F19 (v := bF) (pick_run _ rfl (P := false) (F19.ev 80 (v := bF)) W (by rw [if_neg (by decide)]; exact F19.ev 84 (v := bF))) fun a20 F20 => ?_
        refine wpList_nil ?_
        show Code.wp _ _ _ _ _
        refine doneV (t := 85) (v1 := (PW w 0)) (v15 := Value.int .i64 m.kind) (vt := bF) F20 (by simp [upd, h1]) (by simp [upd, h15]) (by simp [upd]) fun f hF h1 h15 hp => ?_
        clear F1 F2 F3 F4 F5 F6 F7 F8 F9 F10 F11 F12 F13 F14 F15 F16 F17 F18 F19 F20
        refine wp_cond_false ((hF.eval 85 (by omega)).trans hp) ?_
        clear hp
        refine wp_skip ?_
        show Code.wp _ _ _ _ _
        refine wp_seq ?_
        refine wp_seq (wp_region_list ?_)
        refine sz hF (v := (PW w 0)) (hF.fa3 w (by simp [upd, h1, h15])) fun a1 F1 => ?_
        have c0 : W.cell? ⟨w.heap.size, 0, none⟩ = some (.int .i64 m.kind) := (hC.2.cell 0).trans (by rw [← HD.out]; rfl)
        refine sz F1 (v := .int .i64 m.kind) (by simp only [execOp, F1.ev 86 (v := (PW w 0))]; simp [go_sem, c0]) fun a2 F2 => ?_
        refine sz F2 (v := bT) (by simp only [execOp, F2.ev 87 (v := .int .i64 m.kind)]; simp [go_sem, Act.eval, n1, n10, n2, g3', l7, n7]) fun a3 F3 => ?_
        refine sz F3 (v := bT) (F3.mr 88) fun a4 F4 => ?_
        refine sy F4 rfl (by omega) (F4.wg 89 true) (v := (PW w 0)) (F4.fa3 w (by simp [upd, h1, h15])) fun a5 F5 => ?_
        have c0 : W.cell? ⟨w.heap.size, 0, none⟩ = some (.int .i64 m.kind) := (hC.2.cell 0).trans (by rw [← HD.out]; rfl)
        refine sy F5 rfl (by omega) (F5.wg 89 true) (v := .int .i64 m.kind) (by simp only [execOp, F5.ev 90 (v := (PW w 0))]; simp [go_sem, c0]) fun a6 F6 => ?_
        refine sy F6 rfl (by omega) (F6.wg 89 true) (v := bF) (by simp only [execOp, F6.ev 91 (v := .int .i64 m.kind)]; simp [go_sem, Act.eval, n1, n10, n2, g3', l7, n7]) fun a7 F7 => ?_
        refine sz F7 (v := bF) (pick_run _ rfl (P := true) (F7.ev 89 (v := bT)) W (by rw [if_pos rfl]; exact F7.ev 92 (v := bF))) fun a8 F8 => ?_
        refine sz F8 (v := bF) (F8.mr 93) fun a9 F9 => ?_
        refine sm F9 (F9.wg 94 false) fun a10 F10 => ?_
        refine sm F10 (F10.wg 94 false) fun a11 F11 => ?_
        refine sm F11 (F11.wg 94 false) fun a12 F12 => ?_
        refine sm F12 (F12.wg 94 false) fun a13 F13 => ?_
        refine sz F13 (v := bF) (pick_run _ rfl (P := false) (F13.ev 94 (v := bF)) W rfl) fun a14 F14 => ?_
        refine wpList_nil ?_
        show Code.wp _ _ _ _ _
        refine doneV (t := 99) (v1 := (PW w 0)) (v15 := Value.int .i64 m.kind) (vt := bF) F14 (by simp [upd, h1]) (by simp [upd, h15]) (by simp [upd]) fun f hF h1 h15 hp => ?_
        clear F1 F2 F3 F4 F5 F6 F7 F8 F9 F10 F11 F12 F13 F14
        refine wp_cond_false ((hF.eval 99 (by omega)).trans hp) ?_
        clear hp
        refine wp_skip ?_
        show Code.wp _ _ _ _ _
        refine wp_seq (wp_region_list ?_)
        refine sz hF (v := (PW w 0)) (hF.fa3 w (by simp [upd, h1, h15])) fun a1 F1 => ?_
        have c0 : W.cell? ⟨w.heap.size, 0, none⟩ = some (.int .i64 m.kind) := (hC.2.cell 0).trans (by rw [← HD.out]; rfl)
        refine sz F1 (v := .int .i64 m.kind) (by simp only [execOp, F1.ev 100 (v := (PW w 0))]; simp [go_sem, c0]) fun a2 F2 => ?_
        refine sz F2 (v := bT) (by simp only [execOp, F2.ev 101 (v := .int .i64 m.kind)]; simp [go_sem, Act.eval, n1, n10, n2, g3', l7, n7]) fun a3 F3 => ?_
        refine sz F3 (v := bT) (F3.mr 102) fun a4 F4 => ?_
        refine sm F4 (F4.wg 103 true) fun a5 F5 => ?_
        refine sm F5 (F5.wg 103 true) fun a6 F6 => ?_
        refine sm F6 (F6.wg 103 true) fun a7 F7 => ?_
        refine sz F7 (v := bT) (pick_run _ rfl (P := true) (F7.ev 103 (v := bT)) W rfl) fun a8 F8 => ?_
        refine sz F8 (v := bT) (by simp only [execOp, F8.ev 107 (v := bT)]; rfl) fun a9 F9 => ?_
        refine wpList_nil ?_
        show Code.wp _ _ _ _ _
        refine wp_ret ?_
        have h2 : a9.tmps.getD 2 undef = bT := by have := F9.eval 2 (by omega); simpa [Act.eval, upd] using this
        have hfin : bodyPost Try.prog Try.f23 (fun e w' => e = .returned (.bool (validB m)) ∧ Below w.heap.size w w') .ret a9 W := bodyPost_ret (results_tmp Try.results23 _ _ _) F9.defers ⟨by rw [h2]; exact ret_bool (by simp [validB, hin, hal, n1, n10, n2, g3', l7, n7, hasCap, hp1, hq1, hr1, i37]), hC.1⟩
        exact hfin
end Go.Proofs.Ytfgnlfemckdfnaa
