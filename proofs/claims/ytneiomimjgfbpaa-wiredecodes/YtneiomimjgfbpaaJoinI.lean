import Derived.Test.YtneiomimjgfbpaaJoinC
namespace Go.Proofs.Ytneiomimjgfbpaa
open Go.RowKit Go.PlainAid
set_option linter.unusedSimpArgs false
set_option linter.unusedVariables false
abbrev PA (b k : Nat) : Value := .pointer (some ⟨b, k, none⟩)
def kindM (k : Int) : Array Value := msgCells { Msg.zero with kind := k } (.slice none 0 0)
section
variable {ops : Array Oper} {Q : Exit → Act → World → Prop} {a : Act} {W w : World} {rest : List Oper} {f : Nat → Value} {L hb : Nat} {kv : Value}
theorem msc {o : Oper} {d N : Nat} {Post : Ending → World → Prop} (hF : Fr N a f) (hd : o.dst = some d) (hN : d < N) (hw : Region.wanted o (yielded ops a.tmps) = true) {k : Nat} {args : Array Value} (hr : (execOp a.eval o).run Try.prog w = .ok (.enter k args) w) (hc : Calls Try.prog k args w Post)
    (h : ∀ e w', Post e w' → ∃ v, e = .returned v ∧ ∀ a', Fr N a' (upd f d v) → wpList Try.prog ops Q rest a' w') : wpList Try.prog ops Q (o :: rest) a w :=
  wpList_step fun K hK => by
    rw [if_pos hw]
    unfold Oper.wp
    rw [hr]
    refine hc.mono ?_
    intro e w' hp
    obtain ⟨v, rfl, h'⟩ := h e w' hp
    exact hK _ _ (by rw [hd]; exact h' _ (hF.put d v hN))
/-- A field is read and laid. -/
theorem m_fld {d : Nat} {o1 o2 o3 o4 : Oper} {k : Nat} {args : Array Value} {Post : Ending → World → Prop} (hF : Fr 85 a f) (h0 : f 0 = PA hb 0) (h2 : f 2 = PA L 0) (h3 : f 3 = PA (L + 1) 0) (h8 : f 8 = kv) (hd : d + 2 < 85) (h8d : 8 < d)
    (e1 : o1.dst = some d) (e2 : o2.dst = some (d + 1)) (e3 : o3.dst = some (d + 2)) (e4 : o4.dst = none) (q1 : o1.guard = none) (q2 : o2.guard = none) (q3 : o3.guard = none) (q4 : o4.guard = none) (r1 : o1.op = .move (.tmp 0))
    (r2 : ∀ ev : Operand → Value, (∀ v, ev (.const v) = v) → (∀ g, ev (.func g) = .func (.func g) #[] #[]) → ev (.tmp d) = PA hb 0 → (execOp ev o2).run Try.prog W = .ok (.enter k args) W)
    (hc : Calls Try.prog k args W Post)
    (h : ∀ e w', Post e w' → ∃ v p w'', e = .returned v ∧ (∀ ev : Operand → Value, ev (.tmp 3) = PA (L + 1) 0 → (execOp ev o3).run Try.prog w' = .ok (.value p) w') ∧ (∀ ev : Operand → Value, ev (.tmp (d + 2)) = p → ev (.tmp (d + 1)) = v → (execOp ev o4).run Try.prog w' = .ok .skip w'') ∧
      ∀ a' f', Fr 85 a' f' → f' 0 = PA hb 0 → f' 2 = PA L 0 → f' 3 = PA (L + 1) 0 → f' 8 = kv → Q .normal a' w'') :
    wpList Try.prog ops Q [o1, o2, o3, o4] a W := by
  refine sy hF e1 (by omega) (wanted_none q1) (v := PA hb 0) (by simp [execOp, r1, (hF.eval 0 (by omega)).trans h0]) fun a1 F1 => ?_
  refine msc F1 e2 (by omega) (wanted_none q2) (r2 _ (fun _ => rfl) (fun _ => rfl) ((F1.eval d (by omega)).trans (upd_eq _ _ _))) hc ?_
  intro e w' hp
  obtain ⟨v, p, w'', rfl, r3, r4, hk⟩ := h e w' hp
  refine ⟨v, rfl, fun a2 F2 => ?_⟩
  refine sy F2 e3 (by omega) (wanted_none q3) (r3 _ ((F2.eval 3 (by omega)).trans (by rw [upd_ne _ _ (by omega), upd_ne _ _ (by omega)]; exact h3))) fun a3 F3 => ?_
  refine su e4 (wanted_none q4) (r4 _ ((F3.eval (d + 2) (by omega)).trans (upd_eq _ _ _)) ((F3.eval (d + 1) (by omega)).trans (by rw [upd_ne _ _ (by omega), upd_eq]))) ?_
  refine wpList_nil (hk _ _ F3 ?_ ?_ ?_ ?_)
  · rw [upd_ne _ _ (by omega), upd_ne _ _ (by omega), upd_ne _ _ (by omega)]; exact h0
  · rw [upd_ne _ _ (by omega), upd_ne _ _ (by omega), upd_ne _ _ (by omega)]; exact h2
  · rw [upd_ne _ _ (by omega), upd_ne _ _ (by omega), upd_ne _ _ (by omega)]; exact h3
  · rw [upd_ne _ _ (by omega), upd_ne _ _ (by omega), upd_ne _ _ (by omega)]; exact h8
/-- A case of the switch. -/
theorem m_swt {d : Nat} {o1 o2 : Oper} (b : Bool) (hF : Fr 85 a f) (h0 : f 0 = PA hb 0) (h2 : f 2 = PA L 0) (h3 : f 3 = PA (L + 1) 0) (h8 : f 8 = kv) (hd : d + 1 < 85) (h8d : 8 < d)
    (e1 : o1.dst = some (d + 1)) (e2 : o2.dst = some d) (q1 : o1.guard = none) (q2 : o2.guard = none)
    (r1 : ∀ ev : Operand → Value, (∀ v, ev (.const v) = v) → ev (.tmp 8) = kv → (execOp ev o1).run Try.prog W = .ok (.value (.bool b)) W)
    (r2 : ∀ ev : Operand → Value, ev (.tmp (d + 1)) = .bool b → (execOp ev o2).run Try.prog W = .ok (.value (.bool b)) W)
    (h : ∀ a' f', Fr 85 a' f' → f' 0 = PA hb 0 → f' 2 = PA L 0 → f' 3 = PA (L + 1) 0 → f' 8 = kv → f' d = .bool b → Q .normal a' W) :
    wpList Try.prog ops Q [o1, o2] a W := by
  refine sy hF e1 (by omega) (wanted_none q1) (r1 _ (fun _ => rfl) ((hF.eval 8 (by omega)).trans h8)) fun a1 F1 => ?_
  refine sy F1 e2 (by omega) (wanted_none q2) (r2 _ ((F1.eval (d + 1) (by omega)).trans (upd_eq _ _ _))) fun a2 F2 => ?_
  refine wpList_nil (h _ _ F2 ?_ ?_ ?_ ?_ (upd_eq _ _ _))
  · rw [upd_ne _ _ (by omega), upd_ne _ _ (by omega)]; exact h0
  · rw [upd_ne _ _ (by omega), upd_ne _ _ (by omega)]; exact h2
  · rw [upd_ne _ _ (by omega), upd_ne _ _ (by omega)]; exact h3
  · rw [upd_ne _ _ (by omega), upd_ne _ _ (by omega)]; exact h8
/-- A field is looked at. -/
theorem m_tst {d : Nat} {o1 o2 o3 : Oper} {p1 u : Value} (b : Bool) (hF : Fr 85 a f) (h0 : f 0 = PA hb 0) (h2 : f 2 = PA L 0) (h3 : f 3 = PA (L + 1) 0) (h8 : f 8 = kv) (hd : d + 2 < 85) (h8d : 8 < d)
    (e1 : o1.dst = some d) (e2 : o2.dst = some (d + 1)) (e3 : o3.dst = some (d + 2)) (q1 : o1.guard = none) (q2 : o2.guard = none) (q3 : o3.guard = none)
    (r1 : ∀ ev : Operand → Value, ev (.tmp 3) = PA (L + 1) 0 → (execOp ev o1).run Try.prog W = .ok (.value p1) W)
    (r2 : ∀ ev : Operand → Value, ev (.tmp d) = p1 → (execOp ev o2).run Try.prog W = .ok (.value u) W)
    (r3 : ∀ ev : Operand → Value, (∀ v, ev (.const v) = v) → ev (.tmp (d + 1)) = u → (execOp ev o3).run Try.prog W = .ok (.value (.bool b)) W)
    (h : ∀ a' f', Fr 85 a' f' → f' 0 = PA hb 0 → f' 2 = PA L 0 → f' 3 = PA (L + 1) 0 → f' 8 = kv → f' (d + 2) = .bool b → wpList Try.prog ops Q rest a' W) :
    wpList Try.prog ops Q (o1 :: o2 :: o3 :: rest) a W := by
  refine sy hF e1 (by omega) (wanted_none q1) (r1 _ ((hF.eval 3 (by omega)).trans h3)) fun a1 F1 => ?_
  refine sy F1 e2 (by omega) (wanted_none q2) (r2 _ ((F1.eval d (by omega)).trans (upd_eq _ _ _))) fun a2 F2 => ?_
  refine sy F2 e3 (by omega) (wanted_none q3) (r3 _ (fun _ => rfl) ((F2.eval (d + 1) (by omega)).trans (upd_eq _ _ _))) fun a3 F3 => ?_
  refine h _ _ F3 ?_ ?_ ?_ ?_ (upd_eq _ _ _)
  · rw [upd_ne _ _ (by omega), upd_ne _ _ (by omega), upd_ne _ _ (by omega)]; exact h0
  · rw [upd_ne _ _ (by omega), upd_ne _ _ (by omega), upd_ne _ _ (by omega)]; exact h2
  · rw [upd_ne _ _ (by omega), upd_ne _ _ (by omega), upd_ne _ _ (by omega)]; exact h3
  · rw [upd_ne _ _ (by omega), upd_ne _ _ (by omega), upd_ne _ _ (by omega)]; exact h8
/-- The end: what is made is the answer. -/
theorem m_end {id d : Nat} {o1 o2 : Oper} {E : Array Value} {Post : Ending → World → Prop} (hF : Fr 85 a f) (h2 : f 2 = PA L 0) (h3 : f 3 = PA (L + 1) 0) (hr : Blk W L zeroC 35) (hx : Blk W (L + 1) E 35) (hsz : E.size = 20) (hE : E.all (·.oneCell') = true) (hd : d < 85) (h3d : 3 < d)
    (e1 : o1.dst = some d) (e2 : o2.dst = none) (q1 : o1.guard = none) (q2 : o2.guard = none) (r1 : o1.op = .load 35 (.tmp 3)) (r2 : o2.op = .store 35 (.tmp 2) (.tmp d)) (hP : Post (.returned (.agg E)) (W.setRow L E))
    (hQ : ∀ a' W', bodyPost Try.prog Try.f87 Post .ret a' W' → Q .ret a' W') : ((Code.region id #[o1, o2] false).seq Code.ret).wp Try.prog Q a W := by
  have hi : (Try.prog.info? 35).map (·.size) = some E.size := by rw [hsz]; kernel_rfl
  refine wp_seq ?_
  refine wp_region_list ?_
  refine wpList_load_row q1 35 (.tmp 3) r1 (L + 1) ((hF.eval 3 (by omega)).trans h3) 35 E (0, 0) _ hx Try.underlying35 rfl hi ?_
  rw [e1]
  have F1 := hF.put d (.agg E) hd
  refine wpList_store_row q2 35 (.tmp 2) (.tmp d) r2 L E ((F1.eval 2 (by omega)).trans (by rw [upd_ne _ _ (by omega)]; exact h2)) ((F1.eval d hd).trans (upd_eq _ _ _)) 35 zeroC hr hi (by rw [hsz]; rfl) hE ?_
  rw [e2]
  refine wpList_nil ?_
  refine wp_ret ?_
  refine hQ _ _ ?_
  have hB := setRow_blk (cs := E) hr
  have h2' : (a.put (some d) (.agg E)).tmps.getD 2 undef = PA L 0 := by
    have := F1.eval 2 (by omega)
    rw [upd_ne _ _ (by omega), h2] at this
    simpa [Act.eval] using this
  exact bodyPost_ret (results_cell1 Try.results87 _ _ L E h2' (run_loadVar_row _ _ 35 35 E (0, 0) _ hB Try.underlying35 rfl hi)) F1.defers hP
end
theorem m_frame (x : Value) (n : Nat) : Fr (n + 1) { tmps := #[x] ++ Array.replicate n undef, defers := [] } (fun j => if j = 0 then x else undef) := by
  refine ⟨by simp; omega, rfl, fun j hj => ?_⟩
  by_cases h0 : j = 0
  · subst h0; rw [Array.getElem?_append_left (by simp)]; rfl
  · rw [if_neg h0, Array.getElem?_append_right (by simp; omega), Array.getElem?_replicate, if_pos (by simp; omega)]
theorem m_build (w : World) (k : Int) : (Instr.build 35 #[(0, .int .i64 k)]).run Try.prog w = .ok (.agg (kindM k)) w := by
  simp [go_sem]
  rfl
/-- The beginning: the kind. -/
theorem mstart {id0 id1 id2 : Nat} {p1 q1 q2 q3 q4 q5 s1 s2 : Oper} {c5 c6 : Code} {Q : Exit → Act → World → Prop} {a : Act} {f : Nat → Value} {hb : Nat} {ao : Option Addr} {n cap : Nat} {bs : List UInt8} {st : Nat × Bool} {w : World} (hF : Fr 85 a f) (h0 : f 0 = PA hb 0) (hS : RdB w hb ao n cap bs st) (hsm : n ≤ 140737488355328)
    (e1 : p1.dst = some 2) (e3 : q1.dst = some 4) (e4 : q2.dst = some 5) (e5 : q3.dst = some 6) (e6 : q4.dst = some 3) (e7 : q5.dst = none) (e8 : s1.dst = some 7) (e9 : s2.dst = some 8)
    (g1 : p1.guard = none) (g3 : q1.guard = none) (g4 : q2.guard = none) (g5 : q3.guard = none) (g6 : q4.guard = none) (g7 : q5.guard = none) (g8 : s1.guard = none) (g9 : s2.guard = none)
    (r1 : p1.op = .alloc 35) (r3 : q1.op = .move (.tmp 0)) (r4 : ∀ (ev : Operand → Value) (W : World), (∀ v, ev (.const v) = v) → (∀ g, ev (.func g) = .func (.func g) #[] #[]) → ev (.tmp 4) = PA hb 0 → (execOp ev q2).run Try.prog W = .ok (.enter 84 #[.pointer (some ⟨hb, 0, none⟩), .int .i64 ((1 : Nat) : Int), .int .i64 ((10 : Nat) : Int)]) W) (r5 : q3.op = .build 35 #[(0, .tmp 5)]) (r6 : q4.op = .alloc 35) (r7 : q5.op = .store 35 (.tmp 3) (.tmp 6)) (r8 : s1.op = .fieldAddr 35 (.tmp 3) 0) (r9 : s2.op = .load 3 (.tmp 7))
    (h : ∀ a' f' W, Fr 85 a' f' → f' 0 = PA hb 0 → f' 2 = PA w.heap.size 0 → f' 3 = PA (w.heap.size + 1) 0 → f' 8 = .int .i64 (rstep (num 1 10) 0 bs st).1 → DX w hb ao n cap bs (rstep (num 1 10) 0 bs st).2 zeroC (kindM (rstep (num 1 10) 0 bs st).1) 35 W → c5.wp Try.prog (Exit.then (c6.wp Try.prog Q) Q) a' W) :
    ((Code.region id0 #[p1] false).seq ((Code.region id1 #[q1, q2, q3, q4, q5] false).seq (((Code.region id2 #[s1, s2] false).seq c5).seq c6))).wp Try.prog Q a w := by
  have hlt := hS.blk.lt
  have hb1 : Below w.heap.size w (w.alloc (.cells zeroC 35)) := by go_grown
  have hS1 := hS.keep hb1.block
  have hB1 : Blk (w.alloc (.cells zeroC 35)) w.heap.size zeroC 35 := heap_alloc_new w _
  have hsz1 : (w.alloc (.cells zeroC 35)).heap.size = w.heap.size + 1 := by simp
  have hn0 := rnum_any hb ao n cap bs st 1 10 (by omega) (by omega) _ hS1 hsm
  generalize rstep (num 1 10) 0 bs st = r0 at *
  refine wp_seq ?_
  refine wp_region_list ?_
  refine sw hF e1 (by omega) (wanted_none g1) (v := PA w.heap.size 0) (w' := w.alloc (.cells zeroC 35)) (by simp only [execOp, r1, Sem.run_bind, run_alloc35]; rfl) fun a1 F1 => ?_
  refine wpList_nil ?_
  show Code.wp _ _ _ _ _
  generalize w.alloc (.cells zeroC 35) = W at *
  refine wp_seq ?_
  refine wp_region_list ?_
  refine sy F1 e3 (by omega) (wanted_none g3) (v := PA hb 0) (by simp [execOp, r3, (F1.eval 0 (by omega)).trans (show _ = PA hb 0 from by simp [upd, h0])]) fun a2 F2 => ?_
  refine msc F2 e4 (by omega) (wanted_none g4) (r4 _ _ (fun _ => rfl) (fun _ => rfl) ((F2.eval 4 (by omega)).trans (upd_eq _ _ _))) hn0 ?_
  rintro e w1 ⟨rfl, hT1, hW1⟩
  refine ⟨_, rfl, fun a3 F3 => ?_⟩
  have hsw1 : w1.heap.size = w.heap.size + 1 := hW1.size.trans hsz1
  have hk35 : (kindM r0.1).all (·.oneCell') = true := by simp [kindM, msgCells, Value.oneCell', Str, Msg.zero]
  have hX0 : Blk (w1.alloc (.cells zeroC 35)) (w.heap.size + 1) zeroC 35 := by rw [← hsw1]; exact heap_alloc_new _ _
  have D0 : DX w hb ao n cap bs r0.2 zeroC (kindM r0.1) 35 ((w1.alloc (.cells zeroC 35)).setRow (w.heap.size + 1) (kindM r0.1)) := by
    have hb2 : Below w1.heap.size w1 ((w1.alloc (.cells zeroC 35)).setRow (w.heap.size + 1) (kindM r0.1)) := (show Below w1.heap.size w1 (w1.alloc (.cells zeroC 35)) from by go_grown).trans ⟨rfl, rfl, rfl, by simp [World.setRow], fun k hk => setRow_other _ _ _ _ (by omega)⟩
    exact ⟨hT1.keep hb2.block, setRow_blk hX0, (hb2.block _ (by omega)).trans ((hW1.block _ (by omega)).trans hB1), ((RX.up hb1 : RX hb w W).trans (RX.of hW1)).trans (RX.up hb2)⟩
  refine sy F3 e5 (by omega) (wanted_none g5) (v := .agg (kindM r0.1)) (by simp only [execOp, r5, List.map_toArray, List.map_cons, List.map_nil, (F3.eval 5 (by omega)).trans (upd_eq _ _ _), Sem.run_bind, m_build]; rfl) fun a5 F5 => ?_
  refine sw F5 e6 (by omega) (wanted_none g6) (v := PA (w.heap.size + 1) 0) (w' := w1.alloc (.cells zeroC 35)) (by simp only [execOp, r6, Sem.run_bind, run_alloc35, hsw1]; rfl) fun a6 F6 => ?_
  refine wpList_store_row g7 35 (.tmp 3) (.tmp 6) r7 (w.heap.size + 1) (kindM r0.1) ((F6.eval 3 (by omega)).trans (upd_eq _ _ _)) ((F6.eval 6 (by omega)).trans (by simp [upd])) 35 zeroC hX0 (by kernel_rfl) rfl hk35 ?_
  rw [e7]
  change wpList _ _ _ _ a6 _
  refine wpList_nil ?_
  show Code.wp _ _ _ _ _
  obtain ⟨f6, F6', k0, k2, k3⟩ : ∃ f6 : Nat → Value, Fr 85 a6 f6 ∧ f6 0 = PA hb 0 ∧ f6 2 = PA w.heap.size 0 ∧ f6 3 = PA (w.heap.size + 1) 0 := ⟨_, F6, by simp [upd, h0], by simp [upd], by simp [upd]⟩
  generalize (w1.alloc (.cells zeroC 35)).setRow (w.heap.size + 1) (kindM r0.1) = W2 at *
  have c0 : W2.cell? ⟨w.heap.size + 1, 0, none⟩ = some (.int .i64 r0.1) := D0.blk.cell 0
  clear F1 F2 F3 F5 F6
  refine wp_seq ?_
  refine wp_seq ?_
  refine wp_region_list ?_
  refine sy F6' e8 (by omega) (wanted_none g8) (v := PA (w.heap.size + 1) 0) (by simp only [execOp, r8, (F6'.eval 3 (by omega)).trans k3]; simp [go_sem]) fun a7 F7 => ?_
  refine sy F7 e9 (by omega) (wanted_none g9) (v := .int .i64 r0.1) (by simp only [execOp, r9, (F7.eval 7 (by omega)).trans (upd_eq _ _ _)]; simp [go_sem, c0]) fun a8 F8 => ?_
  refine wpList_nil ?_
  show Code.wp _ _ _ _ _
  exact h _ _ _ F8 (by simp [upd, k0]) (by simp [upd, k2]) (by simp [upd, k3]) (upd_eq _ _ _) D0
end Go.Proofs.Ytneiomimjgfbpaa
namespace Go.Proofs.Ytneiomimjgfbpaa
open Go.RowKit Go.PlainAid
set_option linter.unusedSimpArgs false
set_option linter.unusedVariables false
set_option maxRecDepth 100000 in
set_option maxHeartbeats 3200000 in
theorem rmsg3_any (hb : Nat) (ao : Option Addr) (n cap : Nat) (bs : List UInt8) (st : Nat × Bool) (w : World) (hS : RdB w hb ao n cap bs st) (hsm : n ≤ 140737488355328) (hrm : n ≤ cap) (hnil : ao = none → n = 0 ∧ cap = 0) (hform : ao = none ∨ ∃ b off, ao = some ⟨b, off, none⟩) (hab : ∀ b o, ao = some ⟨b, o, none⟩ → b < w.heap.size) (r0 : Int × Nat × Bool) (h0 : rstep (num 1 10) 0 bs st = r0) (hk : r0.1 = 3) :
    Calls Try.prog 87 #[.pointer (some ⟨hb, 0, none⟩)] w fun e w' => MsgAns w (p3 bs r0.2) e w' ∧ RdB w' hb ao n cap bs (p3 bs r0.2).2 ∧ RX hb w w' := by
  have HN : Hid (∀ r1 r2 r3 r4 r5, nstep [] bs r0.2 = r1 → rstep (num 1 1099511627776) 0 bs r1.2 = r2 → rstep (num 0 1099511627776) 0 bs r2.2 = r3 → rstep (num 1 1099511627776) 0 bs r3.2 = r4 → rstep (num 0 15) 0 bs r4.2 = r5 → p3 bs r0.2 = ({ Msg.zero with kind := 3, name := r1.1, cap := r2.1, recaps := r3.1, round := r4.1, rank := r5.1 }, r5.2)) := by
    intro r1 r2 r3 r4 r5 hr1 hr2 hr3 hr4 hr5
    subst hr1 hr2 hr3 hr4 hr5
    rfl
  have hlt := hS.blk.lt
  generalize hpp : p3 bs r0.2 = pp at *
  clear hpp
  refine calls_of_wp Try.func87 rfl ?_
  have e : Try.f87.ntmps - (#[Value.pointer (some ⟨hb, 0, none⟩)] : Array Value).size = 84 := by rw [Try.ntmps87]; rfl
  rw [e]
  have hF0 := m_frame (.pointer (some ⟨hb, 0, none⟩)) 84
  generalize ({ tmps := #[Value.pointer (some ⟨hb, 0, none⟩)] ++ Array.replicate 84 undef, defers := [] } : Act) = a0 at *
  refine mstart hF0 rfl hS hsm rfl rfl rfl rfl rfl rfl rfl rfl rfl rfl rfl rfl rfl rfl rfl rfl rfl rfl (fun ev W hcst hfn h => by simp only [execOp, resolve, invoke, List.map_toArray, List.map_cons, List.map_nil, h, hcst, hfn]; simp [go_sem]) rfl rfl rfl rfl rfl ?_
  clear hS hF0 e
  rw [h0, hk]
  clear h0 hk
  intro a f W hF h0 h2 h3 h8 hS
  obtain ⟨cc0, HC0, hs0, h00⟩ : ∃ cc : Array Value, Hid (cc = kindM 3) ∧ cc.size = 20 ∧ cc[0]? = some (.int .i64 3) := ⟨_, rfl, rfl, rfl⟩
  rw [← HC0.out] at hS
  refine wp_block ?_
  refine wp_seq ?_
  refine wp_region_list ?_
  refine m_swt (d := 9) false hF h0 h2 h3 h8 (by omega) (by omega) rfl rfl rfl rfl (fun ev hcst h => by simp only [execOp, h, hcst]; simp [go_sem]) (fun ev h => by simp only [execOp, h]; rfl) ?_
  intro a f hF h0 h2 h3 h8 hp
  show Code.wp _ _ _ _ _
  refine wp_cond_false ((hF.eval 9 (by omega)).trans hp) ?_
  clear hp
  refine wp_seq ?_
  refine wp_region_list ?_
  refine m_swt (d := 18) false hF h0 h2 h3 h8 (by omega) (by omega) rfl rfl rfl rfl (fun ev hcst h => by simp only [execOp, h, hcst]; simp [go_sem]) (fun ev h => by simp only [execOp, h]; rfl) ?_
  intro a f hF h0 h2 h3 h8 hp
  show Code.wp _ _ _ _ _
  refine wp_cond_false ((hF.eval 18 (by omega)).trans hp) ?_
  clear hp
  refine wp_seq ?_
  refine wp_region_list ?_
  refine m_swt (d := 44) false hF h0 h2 h3 h8 (by omega) (by omega) rfl rfl rfl rfl (fun ev hcst h => by simp only [execOp, h, hcst]; simp [go_sem]) (fun ev h => by simp only [execOp, h]; rfl) ?_
  intro a f hF h0 h2 h3 h8 hp
  show Code.wp _ _ _ _ _
  refine wp_cond_false ((hF.eval 44 (by omega)).trans hp) ?_
  clear hp
  refine wp_skip ?_
  show Code.wp _ _ _ _ _
  refine wp_seq ?_
  refine wp_region_list ?_
  have hc : Calls Try.prog 100 #[_, .string ⟨#[]⟩] W _ := rname2_any hb ao n cap bs [] r0.2 W hS.rd hsm hrm hnil hform
  refine m_fld (d := 50) hF h0 h2 h3 h8 (by omega) (by omega) rfl rfl rfl rfl rfl rfl rfl rfl rfl (fun ev hcst hfn h => by simp only [execOp, resolve, invoke, List.map_toArray, List.map_cons, List.map_nil, h, hcst, hfn]; simp [go_sem]) hc ?_
  rintro e x ⟨rfl, hT, hX⟩
  replace HN : Hid _ := fun r2 r3 r4 r5 => HN.out _ r2 r3 r4 r5 rfl
  generalize nstep [] bs r0.2 = r1 at *
  unfold Str
  have hD := hS.rw hlt hT (RX.of hX)
  obtain ⟨u1, hu1⟩ := arr20 hs0 1 (by decide)
  have c1 : x.cell? ⟨w.heap.size + 1, 1, none⟩ = some u1 := (hD.blk.cell 1).trans hu1
  have z1 := hD.blk.frozen 1
  have hS2 : DX w hb ao n cap bs r1.2 zeroC (cc0.setIfInBounds 1 (.string ⟨r1.1.toArray⟩)) 35 (x.setCell ⟨w.heap.size + 1, 1, none⟩ (.string ⟨r1.1.toArray⟩)) := (hD.set hlt hab 1 _)
  refine ⟨_, PA (w.heap.size + 1) 1, (x.setCell ⟨w.heap.size + 1, 1, none⟩ (.string ⟨r1.1.toArray⟩)), rfl, fun ev h => by simp only [execOp, h]; simp [go_sem], fun ev h h' => by simp only [execOp, h, h']; simp [go_sem, c1, z1], ?_⟩
  obtain ⟨cc1, HC1, hs1, h01⟩ : ∃ cc : Array Value, Hid (cc = (cc0.setIfInBounds 1 (.string ⟨r1.1.toArray⟩))) ∧ cc.size = 20 ∧ cc[0]? = some (.int .i64 3) := ⟨_, rfl, (set20 hs0 1 _), (set0 h00 1 _ (by decide))⟩
  rw [← HC1.out] at hS2
  clear hD hS hc hT hX hs0 h00 c1 z1 hu1 hF h0 h2 h3 h8
  generalize (x.setCell ⟨w.heap.size + 1, 1, none⟩ (.string ⟨r1.1.toArray⟩)) = W at *
  have hS := hS2
  clear hS2
  intro a f hF h0 h2 h3 h8
  show Code.wp _ _ _ _ _
  refine wp_seq ?_
  refine wp_region_list ?_
  have hc := rnum_any hb ao n cap bs r1.2 1 1099511627776 (by omega) (by omega) W hS.rd hsm
  refine m_fld (d := 53) hF h0 h2 h3 h8 (by omega) (by omega) rfl rfl rfl rfl rfl rfl rfl rfl rfl (fun ev hcst hfn h => by simp only [execOp, resolve, invoke, List.map_toArray, List.map_cons, List.map_nil, h, hcst, hfn]; simp [go_sem]) hc ?_
  rintro e x ⟨rfl, hT, hX⟩
  replace HN : Hid _ := fun r3 r4 r5 => HN.out _ r3 r4 r5 rfl
  generalize rstep (num 1 1099511627776) 0 bs r1.2 = r2 at *
  have hD := hS.rw hlt hT (RX.of hX)
  obtain ⟨u2, hu2⟩ := arr20 hs1 2 (by decide)
  have c2 : x.cell? ⟨w.heap.size + 1, 2, none⟩ = some u2 := (hD.blk.cell 2).trans hu2
  have z2 := hD.blk.frozen 2
  have hS2 : DX w hb ao n cap bs r2.2 zeroC (cc1.setIfInBounds 2 (.int .i64 r2.1)) 35 (x.setCell ⟨w.heap.size + 1, 2, none⟩ (.int .i64 r2.1)) := (hD.set hlt hab 2 _)
  refine ⟨_, PA (w.heap.size + 1) 2, (x.setCell ⟨w.heap.size + 1, 2, none⟩ (.int .i64 r2.1)), rfl, fun ev h => by simp only [execOp, h]; simp [go_sem], fun ev h h' => by simp only [execOp, h, h']; simp [go_sem, c2, z2], ?_⟩
  obtain ⟨cc2, HC2, hs2, h02⟩ : ∃ cc : Array Value, Hid (cc = (cc1.setIfInBounds 2 (.int .i64 r2.1))) ∧ cc.size = 20 ∧ cc[0]? = some (.int .i64 3) := ⟨_, rfl, (set20 hs1 2 _), (set0 h01 2 _ (by decide))⟩
  rw [← HC2.out] at hS2
  clear hD hS hc hT hX hs1 h01 c2 z2 hu2 hF h0 h2 h3 h8
  generalize (x.setCell ⟨w.heap.size + 1, 2, none⟩ (.int .i64 r2.1)) = W at *
  have hS := hS2
  clear hS2
  intro a f hF h0 h2 h3 h8
  show Code.wp _ _ _ _ _
  refine wp_seq ?_
  refine wp_region_list ?_
  have hc := rnum_any hb ao n cap bs r2.2 0 1099511627776 (by omega) (by omega) W hS.rd hsm
  refine m_fld (d := 56) hF h0 h2 h3 h8 (by omega) (by omega) rfl rfl rfl rfl rfl rfl rfl rfl rfl (fun ev hcst hfn h => by simp only [execOp, resolve, invoke, List.map_toArray, List.map_cons, List.map_nil, h, hcst, hfn]; simp [go_sem]) hc ?_
  rintro e x ⟨rfl, hT, hX⟩
  replace HN : Hid _ := fun r4 r5 => HN.out _ r4 r5 rfl
  generalize rstep (num 0 1099511627776) 0 bs r2.2 = r3 at *
  have hD := hS.rw hlt hT (RX.of hX)
  obtain ⟨u3, hu3⟩ := arr20 hs2 3 (by decide)
  have c3 : x.cell? ⟨w.heap.size + 1, 3, none⟩ = some u3 := (hD.blk.cell 3).trans hu3
  have z3 := hD.blk.frozen 3
  have hS2 : DX w hb ao n cap bs r3.2 zeroC (cc2.setIfInBounds 3 (.int .i64 r3.1)) 35 (x.setCell ⟨w.heap.size + 1, 3, none⟩ (.int .i64 r3.1)) := (hD.set hlt hab 3 _)
  refine ⟨_, PA (w.heap.size + 1) 3, (x.setCell ⟨w.heap.size + 1, 3, none⟩ (.int .i64 r3.1)), rfl, fun ev h => by simp only [execOp, h]; simp [go_sem], fun ev h h' => by simp only [execOp, h, h']; simp [go_sem, c3, z3], ?_⟩
  obtain ⟨cc3, HC3, hs3, h03⟩ : ∃ cc : Array Value, Hid (cc = (cc2.setIfInBounds 3 (.int .i64 r3.1))) ∧ cc.size = 20 ∧ cc[0]? = some (.int .i64 3) := ⟨_, rfl, (set20 hs2 3 _), (set0 h02 3 _ (by decide))⟩
  rw [← HC3.out] at hS2
  clear hD hS hc hT hX hs2 h02 c3 z3 hu3 hF h0 h2 h3 h8
  generalize (x.setCell ⟨w.heap.size + 1, 3, none⟩ (.int .i64 r3.1)) = W at *
  have hS := hS2
  clear hS2
  intro a f hF h0 h2 h3 h8
  show Code.wp _ _ _ _ _
  refine wp_seq ?_
  refine wp_seq ?_
  refine wp_region_list ?_
  have k0 : W.cell? ⟨w.heap.size + 1, 0, none⟩ = some (.int .i64 3) := (hS.blk.cell 0).trans h03
  refine m_tst (d := 59) (p1 := PA (w.heap.size + 1) 0) (u := .int .i64 3) true hF h0 h2 h3 h8 (by omega) (by omega) rfl rfl rfl rfl rfl rfl (fun ev h => by simp only [execOp, h]; simp [go_sem]) (fun ev h => by simp only [execOp, h]; simp [go_sem, k0]) (fun ev hcst h => by simp only [execOp, h, hcst]; simp [go_sem]) ?_
  clear k0 hF h0 h2 h3 h8
  intro a f hF h0 h2 h3 h8 hp
  refine wpList_nil ?_
  show Code.wp _ _ _ _ _
  refine wp_cond_true ((hF.eval 61 (by omega)).trans hp) ?_
  clear hp
  refine wp_region_list ?_
  have hc := repoch2_any hb ao n cap bs r3.2 W hS.rd hsm (fun b o e => by have := hab b o e; have := hS.rx.size; omega) _ _ rfl rfl
  refine m_fld (d := 62) hF h0 h2 h3 h8 (by omega) (by omega) rfl rfl rfl rfl rfl rfl rfl rfl rfl (fun ev hcst hfn h => by simp only [execOp, resolve, invoke, List.map_toArray, List.map_cons, List.map_nil, h, hcst, hfn]; simp [go_sem]) hc ?_
  rintro e x ⟨rfl, hT, hX⟩
  replace HN : Hid _ := fun r5 => HN.out _ r5 rfl
  generalize rstep (num 1 1099511627776) 0 bs r3.2 = r4 at *
  replace HN : Hid _ := HN.out _  rfl
  generalize rstep (num 0 15) 0 bs r4.2 = r5 at *
  unfold two
  have hD := hS.rw hlt hT (hX)
  obtain ⟨u4, hu4⟩ := arr20 hs3 4 (by decide)
  have c4 : x.cell? ⟨w.heap.size + 1, 4, none⟩ = some u4 := (hD.blk.cell 4).trans hu4
  have z4 := hD.blk.frozen 4
  obtain ⟨u5, hu5⟩ := arr20 hs3 5 (by decide)
  have c5 : x.cell? ⟨w.heap.size + 1, 5, none⟩ = some u5 := (hD.blk.cell 5).trans hu5
  have z5 := hD.blk.frozen 5
  have hS2 : DX w hb ao n cap bs r5.2 zeroC ((cc3.setIfInBounds 4 (.int .i64 r4.1)).setIfInBounds 5 (.int .i64 r5.1)) 35 ((x.setCell ⟨w.heap.size + 1, 4, none⟩ (.int .i64 r4.1)).setCell ⟨w.heap.size + 1, 5, none⟩ (.int .i64 r5.1)) := ((hD.set hlt hab 4 _).set hlt hab 5 _)
  refine ⟨_, PA (w.heap.size + 1) 4, ((x.setCell ⟨w.heap.size + 1, 4, none⟩ (.int .i64 r4.1)).setCell ⟨w.heap.size + 1, 5, none⟩ (.int .i64 r5.1)), rfl, fun ev h => by simp only [execOp, h]; simp [go_sem], fun ev h h' => by simp only [execOp, h, h']; simp [go_sem, c4, z4, c5, z5], ?_⟩
  obtain ⟨cc4, HC4, hs4, h04⟩ : ∃ cc : Array Value, Hid (cc = ((cc3.setIfInBounds 4 (.int .i64 r4.1)).setIfInBounds 5 (.int .i64 r5.1))) ∧ cc.size = 20 ∧ cc[0]? = some (.int .i64 3) := ⟨_, rfl, (set20 (set20 hs3 4 _) 5 _), (set0 (set0 h03 4 _ (by decide)) 5 _ (by decide))⟩
  rw [← HC4.out] at hS2
  clear hD hS hc hT hX hs3 h03 c4 z4 hu4 c5 z5 hu5 hF h0 h2 h3 h8
  generalize ((x.setCell ⟨w.heap.size + 1, 4, none⟩ (.int .i64 r4.1)).setCell ⟨w.heap.size + 1, 5, none⟩ (.int .i64 r5.1)) = W at *
  have hS := hS2
  clear hS2
  intro a f hF h0 h2 h3 h8
  show Code.wp _ _ _ _ _
  refine wp_seq ?_
  refine wp_seq ?_
  refine wp_region_list ?_
  have k0 : W.cell? ⟨w.heap.size + 1, 0, none⟩ = some (.int .i64 3) := (hS.blk.cell 0).trans h04
  refine m_tst (d := 65) (p1 := PA (w.heap.size + 1) 0) (u := .int .i64 3) false hF h0 h2 h3 h8 (by omega) (by omega) rfl rfl rfl rfl rfl rfl (fun ev h => by simp only [execOp, h]; simp [go_sem]) (fun ev h => by simp only [execOp, h]; simp [go_sem, k0]) (fun ev hcst h => by simp only [execOp, h, hcst]; simp [go_sem]) ?_
  clear k0 hF h0 h2 h3 h8
  intro a f hF h0 h2 h3 h8 hp
  refine wpList_nil ?_
  show Code.wp _ _ _ _ _
  refine wp_cond_false ((hF.eval 67 (by omega)).trans hp) ?_
  clear hp
  refine wp_skip ?_
  show Code.wp _ _ _ _ _
  refine wp_seq ?_
  refine wp_seq ?_
  refine wp_region_list ?_
  have k0 : W.cell? ⟨w.heap.size + 1, 0, none⟩ = some (.int .i64 3) := (hS.blk.cell 0).trans h04
  refine m_tst (d := 72) (p1 := PA (w.heap.size + 1) 0) (u := .int .i64 3) false hF h0 h2 h3 h8 (by omega) (by omega) rfl rfl rfl rfl rfl rfl (fun ev h => by simp only [execOp, h]; simp [go_sem]) (fun ev h => by simp only [execOp, h]; simp [go_sem, k0]) (fun ev hcst h => by simp only [execOp, h, hcst]; simp [go_sem]) ?_
  clear k0 hF h0 h2 h3 h8
  intro a f hF h0 h2 h3 h8 hp
  refine wpList_nil ?_
  show Code.wp _ _ _ _ _
  refine wp_cond_false ((hF.eval 74 (by omega)).trans hp) ?_
  clear hp
  refine wp_skip ?_
  show Code.wp _ _ _ _ _
  refine wp_seq ?_
  refine wp_seq ?_
  refine wp_region_list ?_
  have k0 : W.cell? ⟨w.heap.size + 1, 0, none⟩ = some (.int .i64 3) := (hS.blk.cell 0).trans h04
  refine m_tst (d := 78) (p1 := PA (w.heap.size + 1) 0) (u := .int .i64 3) false hF h0 h2 h3 h8 (by omega) (by omega) rfl rfl rfl rfl rfl rfl (fun ev h => by simp only [execOp, h]; simp [go_sem]) (fun ev h => by simp only [execOp, h]; simp [go_sem, k0]) (fun ev hcst h => by simp only [execOp, h, hcst]; simp [go_sem]) ?_
  clear k0 hF h0 h2 h3 h8
  intro a f hF h0 h2 h3 h8 hp
  refine wpList_nil ?_
  show Code.wp _ _ _ _ _
  refine wp_cond_false ((hF.eval 80 (by omega)).trans hp) ?_
  clear hp
  refine wp_skip ?_
  show Code.wp _ _ _ _ _
  obtain ⟨DD, HDD⟩ : ∃ DD : Array Value, Hid (DD = msgCells { Msg.zero with kind := 3, name := r1.1, cap := r2.1, recaps := r3.1, round := r4.1, rank := r5.1 } (.slice none 0 0)) := ⟨_, rfl⟩
  have hcD : cc4 = DD := by
    rw [HDD.out, HC4.out, HC3.out, HC2.out, HC1.out, HC0.out]
    rfl
  rw [hcD] at hS
  have hall : DD.all (·.oneCell') = true := by rw [HDD.out]; simp [msgCells, Str, Value.oneCell', Msg.zero]
  have hfin : RdB (W.setRow w.heap.size DD) hb ao n cap bs r5.2 := hS.rd.row _ _ (by omega) (fun b o e => by have := hab b o e; omega)
  have hfx : RX hb w (W.setRow w.heap.size DD) := ⟨hS.rx.os, hS.rx.tape, hS.rx.output, by simpa [World.setRow] using hS.rx.size, fun k h1 h2 => (setRow_other _ _ _ _ (by omega)).trans (hS.rx.block k h1 h2)⟩
  have hans : MsgAns w pp (.returned (.agg DD)) (W.setRow w.heap.size DD) := ⟨{ Msg.zero with kind := 3, name := r1.1, cap := r2.1, recaps := r3.1, round := r4.1, rank := r5.1 }, none, 0, by rw [HDD.out]; rfl, World.ownsRow_nil _ _ _ _, by simp [Msg.zero], fun _ => by rw [HN.out]⟩
  have hszD : DD.size = 20 := by rw [HDD.out]; rfl
  refine m_end (d := 84) (Post := fun e z => MsgAns w pp e z ∧ RdB z hb ao n cap bs pp.2 ∧ RX hb w z) hF h2 h3 hS.res hS.blk hszD hall (by omega) (by omega) rfl rfl rfl rfl rfl rfl ?_ ?_
  · refine ⟨hans, ?_, hfx⟩
    rw [HN.out]
    exact hfin
  · intro a' W' hbp
    exact hbp
set_option maxRecDepth 100000 in
set_option maxHeartbeats 3200000 in
theorem rmsg7_any (hb : Nat) (ao : Option Addr) (n cap : Nat) (bs : List UInt8) (st : Nat × Bool) (w : World) (hS : RdB w hb ao n cap bs st) (hsm : n ≤ 140737488355328) (hrm : n ≤ cap) (hnil : ao = none → n = 0 ∧ cap = 0) (hform : ao = none ∨ ∃ b off, ao = some ⟨b, off, none⟩) (hab : ∀ b o, ao = some ⟨b, o, none⟩ → b < w.heap.size) (r0 : Int × Nat × Bool) (h0 : rstep (num 1 10) 0 bs st = r0) (hk : r0.1 = 7) :
    Calls Try.prog 87 #[.pointer (some ⟨hb, 0, none⟩)] w fun e w' => MsgAns w (p7 bs r0.2) e w' ∧ RdB w' hb ao n cap bs (p7 bs r0.2).2 ∧ RX hb w w' := by
  have HN : Hid (∀ r1 r2 r3 r4 r5 r6 r7, nstep [] bs r0.2 = r1 → rstep (num 1 1099511627776) 0 bs r1.2 = r2 → rstep (num 0 1099511627776) 0 bs r2.2 = r3 → rstep (num 1 1099511627776) 0 bs r3.2 = r4 → rstep (num 0 15) 0 bs r4.2 = r5 → rstep (num 1 1099511627776) 0 bs r5.2 = r6 → rstep (num 0 15) 0 bs r6.2 = r7 → p7 bs r0.2 = ({ Msg.zero with kind := 7, name := r1.1, cap := r2.1, recaps := r3.1, round := r4.1, rank := r5.1, oround := r6.1, orank := r7.1 }, r7.2)) := by
    intro r1 r2 r3 r4 r5 r6 r7 hr1 hr2 hr3 hr4 hr5 hr6 hr7
    subst hr1 hr2 hr3 hr4 hr5 hr6 hr7
    rfl
  have hlt := hS.blk.lt
  generalize hpp : p7 bs r0.2 = pp at *
  clear hpp
  refine calls_of_wp Try.func87 rfl ?_
  have e : Try.f87.ntmps - (#[Value.pointer (some ⟨hb, 0, none⟩)] : Array Value).size = 84 := by rw [Try.ntmps87]; rfl
  rw [e]
  have hF0 := m_frame (.pointer (some ⟨hb, 0, none⟩)) 84
  generalize ({ tmps := #[Value.pointer (some ⟨hb, 0, none⟩)] ++ Array.replicate 84 undef, defers := [] } : Act) = a0 at *
  refine mstart hF0 rfl hS hsm rfl rfl rfl rfl rfl rfl rfl rfl rfl rfl rfl rfl rfl rfl rfl rfl rfl rfl (fun ev W hcst hfn h => by simp only [execOp, resolve, invoke, List.map_toArray, List.map_cons, List.map_nil, h, hcst, hfn]; simp [go_sem]) rfl rfl rfl rfl rfl ?_
  clear hS hF0 e
  rw [h0, hk]
  clear h0 hk
  intro a f W hF h0 h2 h3 h8 hS
  obtain ⟨cc0, HC0, hs0, h00⟩ : ∃ cc : Array Value, Hid (cc = kindM 7) ∧ cc.size = 20 ∧ cc[0]? = some (.int .i64 7) := ⟨_, rfl, rfl, rfl⟩
  rw [← HC0.out] at hS
  refine wp_block ?_
  refine wp_seq ?_
  refine wp_region_list ?_
  refine m_swt (d := 9) false hF h0 h2 h3 h8 (by omega) (by omega) rfl rfl rfl rfl (fun ev hcst h => by simp only [execOp, h, hcst]; simp [go_sem]) (fun ev h => by simp only [execOp, h]; rfl) ?_
  intro a f hF h0 h2 h3 h8 hp
  show Code.wp _ _ _ _ _
  refine wp_cond_false ((hF.eval 9 (by omega)).trans hp) ?_
  clear hp
  refine wp_seq ?_
  refine wp_region_list ?_
  refine m_swt (d := 18) false hF h0 h2 h3 h8 (by omega) (by omega) rfl rfl rfl rfl (fun ev hcst h => by simp only [execOp, h, hcst]; simp [go_sem]) (fun ev h => by simp only [execOp, h]; rfl) ?_
  intro a f hF h0 h2 h3 h8 hp
  show Code.wp _ _ _ _ _
  refine wp_cond_false ((hF.eval 18 (by omega)).trans hp) ?_
  clear hp
  refine wp_seq ?_
  refine wp_region_list ?_
  refine m_swt (d := 44) false hF h0 h2 h3 h8 (by omega) (by omega) rfl rfl rfl rfl (fun ev hcst h => by simp only [execOp, h, hcst]; simp [go_sem]) (fun ev h => by simp only [execOp, h]; rfl) ?_
  intro a f hF h0 h2 h3 h8 hp
  show Code.wp _ _ _ _ _
  refine wp_cond_false ((hF.eval 44 (by omega)).trans hp) ?_
  clear hp
  refine wp_skip ?_
  show Code.wp _ _ _ _ _
  refine wp_seq ?_
  refine wp_region_list ?_
  have hc : Calls Try.prog 100 #[_, .string ⟨#[]⟩] W _ := rname2_any hb ao n cap bs [] r0.2 W hS.rd hsm hrm hnil hform
  refine m_fld (d := 50) hF h0 h2 h3 h8 (by omega) (by omega) rfl rfl rfl rfl rfl rfl rfl rfl rfl (fun ev hcst hfn h => by simp only [execOp, resolve, invoke, List.map_toArray, List.map_cons, List.map_nil, h, hcst, hfn]; simp [go_sem]) hc ?_
  rintro e x ⟨rfl, hT, hX⟩
  replace HN : Hid _ := fun r2 r3 r4 r5 r6 r7 => HN.out _ r2 r3 r4 r5 r6 r7 rfl
  generalize nstep [] bs r0.2 = r1 at *
  unfold Str
  have hD := hS.rw hlt hT (RX.of hX)
  obtain ⟨u1, hu1⟩ := arr20 hs0 1 (by decide)
  have c1 : x.cell? ⟨w.heap.size + 1, 1, none⟩ = some u1 := (hD.blk.cell 1).trans hu1
  have z1 := hD.blk.frozen 1
  have hS2 : DX w hb ao n cap bs r1.2 zeroC (cc0.setIfInBounds 1 (.string ⟨r1.1.toArray⟩)) 35 (x.setCell ⟨w.heap.size + 1, 1, none⟩ (.string ⟨r1.1.toArray⟩)) := (hD.set hlt hab 1 _)
  refine ⟨_, PA (w.heap.size + 1) 1, (x.setCell ⟨w.heap.size + 1, 1, none⟩ (.string ⟨r1.1.toArray⟩)), rfl, fun ev h => by simp only [execOp, h]; simp [go_sem], fun ev h h' => by simp only [execOp, h, h']; simp [go_sem, c1, z1], ?_⟩
  obtain ⟨cc1, HC1, hs1, h01⟩ : ∃ cc : Array Value, Hid (cc = (cc0.setIfInBounds 1 (.string ⟨r1.1.toArray⟩))) ∧ cc.size = 20 ∧ cc[0]? = some (.int .i64 7) := ⟨_, rfl, (set20 hs0 1 _), (set0 h00 1 _ (by decide))⟩
  rw [← HC1.out] at hS2
  clear hD hS hc hT hX hs0 h00 c1 z1 hu1 hF h0 h2 h3 h8
  generalize (x.setCell ⟨w.heap.size + 1, 1, none⟩ (.string ⟨r1.1.toArray⟩)) = W at *
  have hS := hS2
  clear hS2
  intro a f hF h0 h2 h3 h8
  show Code.wp _ _ _ _ _
  refine wp_seq ?_
  refine wp_region_list ?_
  have hc := rnum_any hb ao n cap bs r1.2 1 1099511627776 (by omega) (by omega) W hS.rd hsm
  refine m_fld (d := 53) hF h0 h2 h3 h8 (by omega) (by omega) rfl rfl rfl rfl rfl rfl rfl rfl rfl (fun ev hcst hfn h => by simp only [execOp, resolve, invoke, List.map_toArray, List.map_cons, List.map_nil, h, hcst, hfn]; simp [go_sem]) hc ?_
  rintro e x ⟨rfl, hT, hX⟩
  replace HN : Hid _ := fun r3 r4 r5 r6 r7 => HN.out _ r3 r4 r5 r6 r7 rfl
  generalize rstep (num 1 1099511627776) 0 bs r1.2 = r2 at *
  have hD := hS.rw hlt hT (RX.of hX)
  obtain ⟨u2, hu2⟩ := arr20 hs1 2 (by decide)
  have c2 : x.cell? ⟨w.heap.size + 1, 2, none⟩ = some u2 := (hD.blk.cell 2).trans hu2
  have z2 := hD.blk.frozen 2
  have hS2 : DX w hb ao n cap bs r2.2 zeroC (cc1.setIfInBounds 2 (.int .i64 r2.1)) 35 (x.setCell ⟨w.heap.size + 1, 2, none⟩ (.int .i64 r2.1)) := (hD.set hlt hab 2 _)
  refine ⟨_, PA (w.heap.size + 1) 2, (x.setCell ⟨w.heap.size + 1, 2, none⟩ (.int .i64 r2.1)), rfl, fun ev h => by simp only [execOp, h]; simp [go_sem], fun ev h h' => by simp only [execOp, h, h']; simp [go_sem, c2, z2], ?_⟩
  obtain ⟨cc2, HC2, hs2, h02⟩ : ∃ cc : Array Value, Hid (cc = (cc1.setIfInBounds 2 (.int .i64 r2.1))) ∧ cc.size = 20 ∧ cc[0]? = some (.int .i64 7) := ⟨_, rfl, (set20 hs1 2 _), (set0 h01 2 _ (by decide))⟩
  rw [← HC2.out] at hS2
  clear hD hS hc hT hX hs1 h01 c2 z2 hu2 hF h0 h2 h3 h8
  generalize (x.setCell ⟨w.heap.size + 1, 2, none⟩ (.int .i64 r2.1)) = W at *
  have hS := hS2
  clear hS2
  intro a f hF h0 h2 h3 h8
  show Code.wp _ _ _ _ _
  refine wp_seq ?_
  refine wp_region_list ?_
  have hc := rnum_any hb ao n cap bs r2.2 0 1099511627776 (by omega) (by omega) W hS.rd hsm
  refine m_fld (d := 56) hF h0 h2 h3 h8 (by omega) (by omega) rfl rfl rfl rfl rfl rfl rfl rfl rfl (fun ev hcst hfn h => by simp only [execOp, resolve, invoke, List.map_toArray, List.map_cons, List.map_nil, h, hcst, hfn]; simp [go_sem]) hc ?_
  rintro e x ⟨rfl, hT, hX⟩
  replace HN : Hid _ := fun r4 r5 r6 r7 => HN.out _ r4 r5 r6 r7 rfl
  generalize rstep (num 0 1099511627776) 0 bs r2.2 = r3 at *
  have hD := hS.rw hlt hT (RX.of hX)
  obtain ⟨u3, hu3⟩ := arr20 hs2 3 (by decide)
  have c3 : x.cell? ⟨w.heap.size + 1, 3, none⟩ = some u3 := (hD.blk.cell 3).trans hu3
  have z3 := hD.blk.frozen 3
  have hS2 : DX w hb ao n cap bs r3.2 zeroC (cc2.setIfInBounds 3 (.int .i64 r3.1)) 35 (x.setCell ⟨w.heap.size + 1, 3, none⟩ (.int .i64 r3.1)) := (hD.set hlt hab 3 _)
  refine ⟨_, PA (w.heap.size + 1) 3, (x.setCell ⟨w.heap.size + 1, 3, none⟩ (.int .i64 r3.1)), rfl, fun ev h => by simp only [execOp, h]; simp [go_sem], fun ev h h' => by simp only [execOp, h, h']; simp [go_sem, c3, z3], ?_⟩
  obtain ⟨cc3, HC3, hs3, h03⟩ : ∃ cc : Array Value, Hid (cc = (cc2.setIfInBounds 3 (.int .i64 r3.1))) ∧ cc.size = 20 ∧ cc[0]? = some (.int .i64 7) := ⟨_, rfl, (set20 hs2 3 _), (set0 h02 3 _ (by decide))⟩
  rw [← HC3.out] at hS2
  clear hD hS hc hT hX hs2 h02 c3 z3 hu3 hF h0 h2 h3 h8
  generalize (x.setCell ⟨w.heap.size + 1, 3, none⟩ (.int .i64 r3.1)) = W at *
  have hS := hS2
  clear hS2
  intro a f hF h0 h2 h3 h8
  show Code.wp _ _ _ _ _
  refine wp_seq ?_
  refine wp_seq ?_
  refine wp_region_list ?_
  have k0 : W.cell? ⟨w.heap.size + 1, 0, none⟩ = some (.int .i64 7) := (hS.blk.cell 0).trans h03
  refine m_tst (d := 59) (p1 := PA (w.heap.size + 1) 0) (u := .int .i64 7) true hF h0 h2 h3 h8 (by omega) (by omega) rfl rfl rfl rfl rfl rfl (fun ev h => by simp only [execOp, h]; simp [go_sem]) (fun ev h => by simp only [execOp, h]; simp [go_sem, k0]) (fun ev hcst h => by simp only [execOp, h, hcst]; simp [go_sem]) ?_
  clear k0 hF h0 h2 h3 h8
  intro a f hF h0 h2 h3 h8 hp
  refine wpList_nil ?_
  show Code.wp _ _ _ _ _
  refine wp_cond_true ((hF.eval 61 (by omega)).trans hp) ?_
  clear hp
  refine wp_region_list ?_
  have hc := repoch2_any hb ao n cap bs r3.2 W hS.rd hsm (fun b o e => by have := hab b o e; have := hS.rx.size; omega) _ _ rfl rfl
  refine m_fld (d := 62) hF h0 h2 h3 h8 (by omega) (by omega) rfl rfl rfl rfl rfl rfl rfl rfl rfl (fun ev hcst hfn h => by simp only [execOp, resolve, invoke, List.map_toArray, List.map_cons, List.map_nil, h, hcst, hfn]; simp [go_sem]) hc ?_
  rintro e x ⟨rfl, hT, hX⟩
  replace HN : Hid _ := fun r5 r6 r7 => HN.out _ r5 r6 r7 rfl
  generalize rstep (num 1 1099511627776) 0 bs r3.2 = r4 at *
  replace HN : Hid _ := fun r6 r7 => HN.out _ r6 r7 rfl
  generalize rstep (num 0 15) 0 bs r4.2 = r5 at *
  unfold two
  have hD := hS.rw hlt hT (hX)
  obtain ⟨u4, hu4⟩ := arr20 hs3 4 (by decide)
  have c4 : x.cell? ⟨w.heap.size + 1, 4, none⟩ = some u4 := (hD.blk.cell 4).trans hu4
  have z4 := hD.blk.frozen 4
  obtain ⟨u5, hu5⟩ := arr20 hs3 5 (by decide)
  have c5 : x.cell? ⟨w.heap.size + 1, 5, none⟩ = some u5 := (hD.blk.cell 5).trans hu5
  have z5 := hD.blk.frozen 5
  have hS2 : DX w hb ao n cap bs r5.2 zeroC ((cc3.setIfInBounds 4 (.int .i64 r4.1)).setIfInBounds 5 (.int .i64 r5.1)) 35 ((x.setCell ⟨w.heap.size + 1, 4, none⟩ (.int .i64 r4.1)).setCell ⟨w.heap.size + 1, 5, none⟩ (.int .i64 r5.1)) := ((hD.set hlt hab 4 _).set hlt hab 5 _)
  refine ⟨_, PA (w.heap.size + 1) 4, ((x.setCell ⟨w.heap.size + 1, 4, none⟩ (.int .i64 r4.1)).setCell ⟨w.heap.size + 1, 5, none⟩ (.int .i64 r5.1)), rfl, fun ev h => by simp only [execOp, h]; simp [go_sem], fun ev h h' => by simp only [execOp, h, h']; simp [go_sem, c4, z4, c5, z5], ?_⟩
  obtain ⟨cc4, HC4, hs4, h04⟩ : ∃ cc : Array Value, Hid (cc = ((cc3.setIfInBounds 4 (.int .i64 r4.1)).setIfInBounds 5 (.int .i64 r5.1))) ∧ cc.size = 20 ∧ cc[0]? = some (.int .i64 7) := ⟨_, rfl, (set20 (set20 hs3 4 _) 5 _), (set0 (set0 h03 4 _ (by decide)) 5 _ (by decide))⟩
  rw [← HC4.out] at hS2
  clear hD hS hc hT hX hs3 h03 c4 z4 hu4 c5 z5 hu5 hF h0 h2 h3 h8
  generalize ((x.setCell ⟨w.heap.size + 1, 4, none⟩ (.int .i64 r4.1)).setCell ⟨w.heap.size + 1, 5, none⟩ (.int .i64 r5.1)) = W at *
  have hS := hS2
  clear hS2
  intro a f hF h0 h2 h3 h8
  show Code.wp _ _ _ _ _
  refine wp_seq ?_
  refine wp_seq ?_
  refine wp_region_list ?_
  have k0 : W.cell? ⟨w.heap.size + 1, 0, none⟩ = some (.int .i64 7) := (hS.blk.cell 0).trans h04
  refine m_tst (d := 65) (p1 := PA (w.heap.size + 1) 0) (u := .int .i64 7) true hF h0 h2 h3 h8 (by omega) (by omega) rfl rfl rfl rfl rfl rfl (fun ev h => by simp only [execOp, h]; simp [go_sem]) (fun ev h => by simp only [execOp, h]; simp [go_sem, k0]) (fun ev hcst h => by simp only [execOp, h, hcst]; simp [go_sem]) ?_
  clear k0 hF h0 h2 h3 h8
  intro a f hF h0 h2 h3 h8 hp
  refine wpList_nil ?_
  show Code.wp _ _ _ _ _
  refine wp_cond_true ((hF.eval 67 (by omega)).trans hp) ?_
  clear hp
  refine wp_seq ?_
  refine wp_region_list ?_
  have hc := repoch2_any hb ao n cap bs r5.2 W hS.rd hsm (fun b o e => by have := hab b o e; have := hS.rx.size; omega) _ _ rfl rfl
  refine m_fld (d := 68) hF h0 h2 h3 h8 (by omega) (by omega) rfl rfl rfl rfl rfl rfl rfl rfl rfl (fun ev hcst hfn h => by simp only [execOp, resolve, invoke, List.map_toArray, List.map_cons, List.map_nil, h, hcst, hfn]; simp [go_sem]) hc ?_
  rintro e x ⟨rfl, hT, hX⟩
  replace HN : Hid _ := fun r7 => HN.out _ r7 rfl
  generalize rstep (num 1 1099511627776) 0 bs r5.2 = r6 at *
  replace HN : Hid _ := HN.out _  rfl
  generalize rstep (num 0 15) 0 bs r6.2 = r7 at *
  unfold two
  have hD := hS.rw hlt hT (hX)
  obtain ⟨u6, hu6⟩ := arr20 hs4 6 (by decide)
  have c6 : x.cell? ⟨w.heap.size + 1, 6, none⟩ = some u6 := (hD.blk.cell 6).trans hu6
  have z6 := hD.blk.frozen 6
  obtain ⟨u7, hu7⟩ := arr20 hs4 7 (by decide)
  have c7 : x.cell? ⟨w.heap.size + 1, 7, none⟩ = some u7 := (hD.blk.cell 7).trans hu7
  have z7 := hD.blk.frozen 7
  have hS2 : DX w hb ao n cap bs r7.2 zeroC ((cc4.setIfInBounds 6 (.int .i64 r6.1)).setIfInBounds 7 (.int .i64 r7.1)) 35 ((x.setCell ⟨w.heap.size + 1, 6, none⟩ (.int .i64 r6.1)).setCell ⟨w.heap.size + 1, 7, none⟩ (.int .i64 r7.1)) := ((hD.set hlt hab 6 _).set hlt hab 7 _)
  refine ⟨_, PA (w.heap.size + 1) 6, ((x.setCell ⟨w.heap.size + 1, 6, none⟩ (.int .i64 r6.1)).setCell ⟨w.heap.size + 1, 7, none⟩ (.int .i64 r7.1)), rfl, fun ev h => by simp only [execOp, h]; simp [go_sem], fun ev h h' => by simp only [execOp, h, h']; simp [go_sem, c6, z6, c7, z7], ?_⟩
  obtain ⟨cc5, HC5, hs5, h05⟩ : ∃ cc : Array Value, Hid (cc = ((cc4.setIfInBounds 6 (.int .i64 r6.1)).setIfInBounds 7 (.int .i64 r7.1))) ∧ cc.size = 20 ∧ cc[0]? = some (.int .i64 7) := ⟨_, rfl, (set20 (set20 hs4 6 _) 7 _), (set0 (set0 h04 6 _ (by decide)) 7 _ (by decide))⟩
  rw [← HC5.out] at hS2
  clear hD hS hc hT hX hs4 h04 c6 z6 hu6 c7 z7 hu7 hF h0 h2 h3 h8
  generalize ((x.setCell ⟨w.heap.size + 1, 6, none⟩ (.int .i64 r6.1)).setCell ⟨w.heap.size + 1, 7, none⟩ (.int .i64 r7.1)) = W at *
  have hS := hS2
  clear hS2
  intro a f hF h0 h2 h3 h8
  show Code.wp _ _ _ _ _
  obtain ⟨DD, HDD⟩ : ∃ DD : Array Value, Hid (DD = msgCells { Msg.zero with kind := 7, name := r1.1, cap := r2.1, recaps := r3.1, round := r4.1, rank := r5.1, oround := r6.1, orank := r7.1 } (.slice none 0 0)) := ⟨_, rfl⟩
  have hcD : cc5 = DD := by
    rw [HDD.out, HC5.out, HC4.out, HC3.out, HC2.out, HC1.out, HC0.out]
    rfl
  rw [hcD] at hS
  have hall : DD.all (·.oneCell') = true := by rw [HDD.out]; simp [msgCells, Str, Value.oneCell', Msg.zero]
  have hfin : RdB (W.setRow w.heap.size DD) hb ao n cap bs r7.2 := hS.rd.row _ _ (by omega) (fun b o e => by have := hab b o e; omega)
  have hfx : RX hb w (W.setRow w.heap.size DD) := ⟨hS.rx.os, hS.rx.tape, hS.rx.output, by simpa [World.setRow] using hS.rx.size, fun k h1 h2 => (setRow_other _ _ _ _ (by omega)).trans (hS.rx.block k h1 h2)⟩
  have hans : MsgAns w pp (.returned (.agg DD)) (W.setRow w.heap.size DD) := ⟨{ Msg.zero with kind := 7, name := r1.1, cap := r2.1, recaps := r3.1, round := r4.1, rank := r5.1, oround := r6.1, orank := r7.1 }, none, 0, by rw [HDD.out]; rfl, World.ownsRow_nil _ _ _ _, by simp [Msg.zero], fun _ => by rw [HN.out]⟩
  have hszD : DD.size = 20 := by rw [HDD.out]; rfl
  refine m_end (d := 71) (Post := fun e z => MsgAns w pp e z ∧ RdB z hb ao n cap bs pp.2 ∧ RX hb w z) hF h2 h3 hS.res hS.blk hszD hall (by omega) (by omega) rfl rfl rfl rfl rfl rfl ?_ ?_
  · refine ⟨hans, ?_, hfx⟩
    rw [HN.out]
    exact hfin
  · intro a' W' hbp
    exact hbp
end Go.Proofs.Ytneiomimjgfbpaa
namespace Go.Proofs.Ytneiomimjgfbpaa
open Go.RowKit Go.PlainAid
set_option linter.unusedSimpArgs false
set_option linter.unusedVariables false
set_option maxRecDepth 100000 in
set_option maxHeartbeats 3200000 in
theorem rmsg4_any (hb : Nat) (ao : Option Addr) (n cap : Nat) (bs : List UInt8) (st : Nat × Bool) (w : World) (hS : RdB w hb ao n cap bs st) (hsm : n ≤ 140737488355328) (hrm : n ≤ cap) (hnil : ao = none → n = 0 ∧ cap = 0) (hform : ao = none ∨ ∃ b off, ao = some ⟨b, off, none⟩) (hab : ∀ b o, ao = some ⟨b, o, none⟩ → b < w.heap.size) (r0 : Int × Nat × Bool) (h0 : rstep (num 1 10) 0 bs st = r0) (hk : r0.1 = 4) :
    Calls Try.prog 87 #[.pointer (some ⟨hb, 0, none⟩)] w fun e w' => MsgAns w (p4 bs r0.2) e w' ∧ RdB w' hb ao n cap bs (p4 bs r0.2).2 ∧ RX hb w w' := by
  have HN : Hid (∀ r1 r2 r3 r4 r5 r6 r7 r8, nstep [] bs r0.2 = r1 → rstep (num 1 1099511627776) 0 bs r1.2 = r2 → rstep (num 0 1099511627776) 0 bs r2.2 = r3 → rstep (num 1 1099511627776) 0 bs r3.2 = r4 → rstep (num 0 15) 0 bs r4.2 = r5 → rstep (num 0 1099511627776) 0 bs r5.2 = r6 → rstep (num 0 1099511627776) 0 bs r6.2 = r7 → rstep (num 0 1099511627776) 0 bs r7.2 = r8 → p4 bs r0.2 = ({ Msg.zero with kind := 4, name := r1.1, cap := r2.1, recaps := r3.1, round := r4.1, rank := r5.1, down := r6.1, up := r7.1, held := r8.1 }, r8.2)) := by
    intro r1 r2 r3 r4 r5 r6 r7 r8 hr1 hr2 hr3 hr4 hr5 hr6 hr7 hr8
    subst hr1 hr2 hr3 hr4 hr5 hr6 hr7 hr8
    rfl
  have hlt := hS.blk.lt
  generalize hpp : p4 bs r0.2 = pp at *
  clear hpp
  refine calls_of_wp Try.func87 rfl ?_
  have e : Try.f87.ntmps - (#[Value.pointer (some ⟨hb, 0, none⟩)] : Array Value).size = 84 := by rw [Try.ntmps87]; rfl
  rw [e]
  have hF0 := m_frame (.pointer (some ⟨hb, 0, none⟩)) 84
  generalize ({ tmps := #[Value.pointer (some ⟨hb, 0, none⟩)] ++ Array.replicate 84 undef, defers := [] } : Act) = a0 at *
  refine mstart hF0 rfl hS hsm rfl rfl rfl rfl rfl rfl rfl rfl rfl rfl rfl rfl rfl rfl rfl rfl rfl rfl (fun ev W hcst hfn h => by simp only [execOp, resolve, invoke, List.map_toArray, List.map_cons, List.map_nil, h, hcst, hfn]; simp [go_sem]) rfl rfl rfl rfl rfl ?_
  clear hS hF0 e
  rw [h0, hk]
  clear h0 hk
  intro a f W hF h0 h2 h3 h8 hS
  obtain ⟨cc0, HC0, hs0, h00⟩ : ∃ cc : Array Value, Hid (cc = kindM 4) ∧ cc.size = 20 ∧ cc[0]? = some (.int .i64 4) := ⟨_, rfl, rfl, rfl⟩
  rw [← HC0.out] at hS
  refine wp_block ?_
  refine wp_seq ?_
  refine wp_region_list ?_
  refine m_swt (d := 9) false hF h0 h2 h3 h8 (by omega) (by omega) rfl rfl rfl rfl (fun ev hcst h => by simp only [execOp, h, hcst]; simp [go_sem]) (fun ev h => by simp only [execOp, h]; rfl) ?_
  intro a f hF h0 h2 h3 h8 hp
  show Code.wp _ _ _ _ _
  refine wp_cond_false ((hF.eval 9 (by omega)).trans hp) ?_
  clear hp
  refine wp_seq ?_
  refine wp_region_list ?_
  refine m_swt (d := 18) false hF h0 h2 h3 h8 (by omega) (by omega) rfl rfl rfl rfl (fun ev hcst h => by simp only [execOp, h, hcst]; simp [go_sem]) (fun ev h => by simp only [execOp, h]; rfl) ?_
  intro a f hF h0 h2 h3 h8 hp
  show Code.wp _ _ _ _ _
  refine wp_cond_false ((hF.eval 18 (by omega)).trans hp) ?_
  clear hp
  refine wp_seq ?_
  refine wp_region_list ?_
  refine m_swt (d := 44) false hF h0 h2 h3 h8 (by omega) (by omega) rfl rfl rfl rfl (fun ev hcst h => by simp only [execOp, h, hcst]; simp [go_sem]) (fun ev h => by simp only [execOp, h]; rfl) ?_
  intro a f hF h0 h2 h3 h8 hp
  show Code.wp _ _ _ _ _
  refine wp_cond_false ((hF.eval 44 (by omega)).trans hp) ?_
  clear hp
  refine wp_skip ?_
  show Code.wp _ _ _ _ _
  refine wp_seq ?_
  refine wp_region_list ?_
  have hc : Calls Try.prog 100 #[_, .string ⟨#[]⟩] W _ := rname2_any hb ao n cap bs [] r0.2 W hS.rd hsm hrm hnil hform
  refine m_fld (d := 50) hF h0 h2 h3 h8 (by omega) (by omega) rfl rfl rfl rfl rfl rfl rfl rfl rfl (fun ev hcst hfn h => by simp only [execOp, resolve, invoke, List.map_toArray, List.map_cons, List.map_nil, h, hcst, hfn]; simp [go_sem]) hc ?_
  rintro e x ⟨rfl, hT, hX⟩
  replace HN : Hid _ := fun r2 r3 r4 r5 r6 r7 r8 => HN.out _ r2 r3 r4 r5 r6 r7 r8 rfl
  generalize nstep [] bs r0.2 = r1 at *
  unfold Str
  have hD := hS.rw hlt hT (RX.of hX)
  obtain ⟨u1, hu1⟩ := arr20 hs0 1 (by decide)
  have c1 : x.cell? ⟨w.heap.size + 1, 1, none⟩ = some u1 := (hD.blk.cell 1).trans hu1
  have z1 := hD.blk.frozen 1
  have hS2 : DX w hb ao n cap bs r1.2 zeroC (cc0.setIfInBounds 1 (.string ⟨r1.1.toArray⟩)) 35 (x.setCell ⟨w.heap.size + 1, 1, none⟩ (.string ⟨r1.1.toArray⟩)) := (hD.set hlt hab 1 _)
  refine ⟨_, PA (w.heap.size + 1) 1, (x.setCell ⟨w.heap.size + 1, 1, none⟩ (.string ⟨r1.1.toArray⟩)), rfl, fun ev h => by simp only [execOp, h]; simp [go_sem], fun ev h h' => by simp only [execOp, h, h']; simp [go_sem, c1, z1], ?_⟩
  obtain ⟨cc1, HC1, hs1, h01⟩ : ∃ cc : Array Value, Hid (cc = (cc0.setIfInBounds 1 (.string ⟨r1.1.toArray⟩))) ∧ cc.size = 20 ∧ cc[0]? = some (.int .i64 4) := ⟨_, rfl, (set20 hs0 1 _), (set0 h00 1 _ (by decide))⟩
  rw [← HC1.out] at hS2
  clear hD hS hc hT hX hs0 h00 c1 z1 hu1 hF h0 h2 h3 h8
  generalize (x.setCell ⟨w.heap.size + 1, 1, none⟩ (.string ⟨r1.1.toArray⟩)) = W at *
  have hS := hS2
  clear hS2
  intro a f hF h0 h2 h3 h8
  show Code.wp _ _ _ _ _
  refine wp_seq ?_
  refine wp_region_list ?_
  have hc := rnum_any hb ao n cap bs r1.2 1 1099511627776 (by omega) (by omega) W hS.rd hsm
  refine m_fld (d := 53) hF h0 h2 h3 h8 (by omega) (by omega) rfl rfl rfl rfl rfl rfl rfl rfl rfl (fun ev hcst hfn h => by simp only [execOp, resolve, invoke, List.map_toArray, List.map_cons, List.map_nil, h, hcst, hfn]; simp [go_sem]) hc ?_
  rintro e x ⟨rfl, hT, hX⟩
  replace HN : Hid _ := fun r3 r4 r5 r6 r7 r8 => HN.out _ r3 r4 r5 r6 r7 r8 rfl
  generalize rstep (num 1 1099511627776) 0 bs r1.2 = r2 at *
  have hD := hS.rw hlt hT (RX.of hX)
  obtain ⟨u2, hu2⟩ := arr20 hs1 2 (by decide)
  have c2 : x.cell? ⟨w.heap.size + 1, 2, none⟩ = some u2 := (hD.blk.cell 2).trans hu2
  have z2 := hD.blk.frozen 2
  have hS2 : DX w hb ao n cap bs r2.2 zeroC (cc1.setIfInBounds 2 (.int .i64 r2.1)) 35 (x.setCell ⟨w.heap.size + 1, 2, none⟩ (.int .i64 r2.1)) := (hD.set hlt hab 2 _)
  refine ⟨_, PA (w.heap.size + 1) 2, (x.setCell ⟨w.heap.size + 1, 2, none⟩ (.int .i64 r2.1)), rfl, fun ev h => by simp only [execOp, h]; simp [go_sem], fun ev h h' => by simp only [execOp, h, h']; simp [go_sem, c2, z2], ?_⟩
  obtain ⟨cc2, HC2, hs2, h02⟩ : ∃ cc : Array Value, Hid (cc = (cc1.setIfInBounds 2 (.int .i64 r2.1))) ∧ cc.size = 20 ∧ cc[0]? = some (.int .i64 4) := ⟨_, rfl, (set20 hs1 2 _), (set0 h01 2 _ (by decide))⟩
  rw [← HC2.out] at hS2
  clear hD hS hc hT hX hs1 h01 c2 z2 hu2 hF h0 h2 h3 h8
  generalize (x.setCell ⟨w.heap.size + 1, 2, none⟩ (.int .i64 r2.1)) = W at *
  have hS := hS2
  clear hS2
  intro a f hF h0 h2 h3 h8
  show Code.wp _ _ _ _ _
  refine wp_seq ?_
  refine wp_region_list ?_
  have hc := rnum_any hb ao n cap bs r2.2 0 1099511627776 (by omega) (by omega) W hS.rd hsm
  refine m_fld (d := 56) hF h0 h2 h3 h8 (by omega) (by omega) rfl rfl rfl rfl rfl rfl rfl rfl rfl (fun ev hcst hfn h => by simp only [execOp, resolve, invoke, List.map_toArray, List.map_cons, List.map_nil, h, hcst, hfn]; simp [go_sem]) hc ?_
  rintro e x ⟨rfl, hT, hX⟩
  replace HN : Hid _ := fun r4 r5 r6 r7 r8 => HN.out _ r4 r5 r6 r7 r8 rfl
  generalize rstep (num 0 1099511627776) 0 bs r2.2 = r3 at *
  have hD := hS.rw hlt hT (RX.of hX)
  obtain ⟨u3, hu3⟩ := arr20 hs2 3 (by decide)
  have c3 : x.cell? ⟨w.heap.size + 1, 3, none⟩ = some u3 := (hD.blk.cell 3).trans hu3
  have z3 := hD.blk.frozen 3
  have hS2 : DX w hb ao n cap bs r3.2 zeroC (cc2.setIfInBounds 3 (.int .i64 r3.1)) 35 (x.setCell ⟨w.heap.size + 1, 3, none⟩ (.int .i64 r3.1)) := (hD.set hlt hab 3 _)
  refine ⟨_, PA (w.heap.size + 1) 3, (x.setCell ⟨w.heap.size + 1, 3, none⟩ (.int .i64 r3.1)), rfl, fun ev h => by simp only [execOp, h]; simp [go_sem], fun ev h h' => by simp only [execOp, h, h']; simp [go_sem, c3, z3], ?_⟩
  obtain ⟨cc3, HC3, hs3, h03⟩ : ∃ cc : Array Value, Hid (cc = (cc2.setIfInBounds 3 (.int .i64 r3.1))) ∧ cc.size = 20 ∧ cc[0]? = some (.int .i64 4) := ⟨_, rfl, (set20 hs2 3 _), (set0 h02 3 _ (by decide))⟩
  rw [← HC3.out] at hS2
  clear hD hS hc hT hX hs2 h02 c3 z3 hu3 hF h0 h2 h3 h8
  generalize (x.setCell ⟨w.heap.size + 1, 3, none⟩ (.int .i64 r3.1)) = W at *
  have hS := hS2
  clear hS2
  intro a f hF h0 h2 h3 h8
  show Code.wp _ _ _ _ _
  refine wp_seq ?_
  refine wp_seq ?_
  refine wp_region_list ?_
  have k0 : W.cell? ⟨w.heap.size + 1, 0, none⟩ = some (.int .i64 4) := (hS.blk.cell 0).trans h03
  refine m_tst (d := 59) (p1 := PA (w.heap.size + 1) 0) (u := .int .i64 4) true hF h0 h2 h3 h8 (by omega) (by omega) rfl rfl rfl rfl rfl rfl (fun ev h => by simp only [execOp, h]; simp [go_sem]) (fun ev h => by simp only [execOp, h]; simp [go_sem, k0]) (fun ev hcst h => by simp only [execOp, h, hcst]; simp [go_sem]) ?_
  clear k0 hF h0 h2 h3 h8
  intro a f hF h0 h2 h3 h8 hp
  refine wpList_nil ?_
  show Code.wp _ _ _ _ _
  refine wp_cond_true ((hF.eval 61 (by omega)).trans hp) ?_
  clear hp
  refine wp_region_list ?_
  have hc := repoch2_any hb ao n cap bs r3.2 W hS.rd hsm (fun b o e => by have := hab b o e; have := hS.rx.size; omega) _ _ rfl rfl
  refine m_fld (d := 62) hF h0 h2 h3 h8 (by omega) (by omega) rfl rfl rfl rfl rfl rfl rfl rfl rfl (fun ev hcst hfn h => by simp only [execOp, resolve, invoke, List.map_toArray, List.map_cons, List.map_nil, h, hcst, hfn]; simp [go_sem]) hc ?_
  rintro e x ⟨rfl, hT, hX⟩
  replace HN : Hid _ := fun r5 r6 r7 r8 => HN.out _ r5 r6 r7 r8 rfl
  generalize rstep (num 1 1099511627776) 0 bs r3.2 = r4 at *
  replace HN : Hid _ := fun r6 r7 r8 => HN.out _ r6 r7 r8 rfl
  generalize rstep (num 0 15) 0 bs r4.2 = r5 at *
  unfold two
  have hD := hS.rw hlt hT (hX)
  obtain ⟨u4, hu4⟩ := arr20 hs3 4 (by decide)
  have c4 : x.cell? ⟨w.heap.size + 1, 4, none⟩ = some u4 := (hD.blk.cell 4).trans hu4
  have z4 := hD.blk.frozen 4
  obtain ⟨u5, hu5⟩ := arr20 hs3 5 (by decide)
  have c5 : x.cell? ⟨w.heap.size + 1, 5, none⟩ = some u5 := (hD.blk.cell 5).trans hu5
  have z5 := hD.blk.frozen 5
  have hS2 : DX w hb ao n cap bs r5.2 zeroC ((cc3.setIfInBounds 4 (.int .i64 r4.1)).setIfInBounds 5 (.int .i64 r5.1)) 35 ((x.setCell ⟨w.heap.size + 1, 4, none⟩ (.int .i64 r4.1)).setCell ⟨w.heap.size + 1, 5, none⟩ (.int .i64 r5.1)) := ((hD.set hlt hab 4 _).set hlt hab 5 _)
  refine ⟨_, PA (w.heap.size + 1) 4, ((x.setCell ⟨w.heap.size + 1, 4, none⟩ (.int .i64 r4.1)).setCell ⟨w.heap.size + 1, 5, none⟩ (.int .i64 r5.1)), rfl, fun ev h => by simp only [execOp, h]; simp [go_sem], fun ev h h' => by simp only [execOp, h, h']; simp [go_sem, c4, z4, c5, z5], ?_⟩
  obtain ⟨cc4, HC4, hs4, h04⟩ : ∃ cc : Array Value, Hid (cc = ((cc3.setIfInBounds 4 (.int .i64 r4.1)).setIfInBounds 5 (.int .i64 r5.1))) ∧ cc.size = 20 ∧ cc[0]? = some (.int .i64 4) := ⟨_, rfl, (set20 (set20 hs3 4 _) 5 _), (set0 (set0 h03 4 _ (by decide)) 5 _ (by decide))⟩
  rw [← HC4.out] at hS2
  clear hD hS hc hT hX hs3 h03 c4 z4 hu4 c5 z5 hu5 hF h0 h2 h3 h8
  generalize ((x.setCell ⟨w.heap.size + 1, 4, none⟩ (.int .i64 r4.1)).setCell ⟨w.heap.size + 1, 5, none⟩ (.int .i64 r5.1)) = W at *
  have hS := hS2
  clear hS2
  intro a f hF h0 h2 h3 h8
  show Code.wp _ _ _ _ _
  refine wp_seq ?_
  refine wp_seq ?_
  refine wp_region_list ?_
  have k0 : W.cell? ⟨w.heap.size + 1, 0, none⟩ = some (.int .i64 4) := (hS.blk.cell 0).trans h04
  refine m_tst (d := 65) (p1 := PA (w.heap.size + 1) 0) (u := .int .i64 4) false hF h0 h2 h3 h8 (by omega) (by omega) rfl rfl rfl rfl rfl rfl (fun ev h => by simp only [execOp, h]; simp [go_sem]) (fun ev h => by simp only [execOp, h]; simp [go_sem, k0]) (fun ev hcst h => by simp only [execOp, h, hcst]; simp [go_sem]) ?_
  clear k0 hF h0 h2 h3 h8
  intro a f hF h0 h2 h3 h8 hp
  refine wpList_nil ?_
  show Code.wp _ _ _ _ _
  refine wp_cond_false ((hF.eval 67 (by omega)).trans hp) ?_
  clear hp
  refine wp_skip ?_
  show Code.wp _ _ _ _ _
  refine wp_seq ?_
  refine wp_seq ?_
  refine wp_region_list ?_
  have k0 : W.cell? ⟨w.heap.size + 1, 0, none⟩ = some (.int .i64 4) := (hS.blk.cell 0).trans h04
  refine m_tst (d := 72) (p1 := PA (w.heap.size + 1) 0) (u := .int .i64 4) true hF h0 h2 h3 h8 (by omega) (by omega) rfl rfl rfl rfl rfl rfl (fun ev h => by simp only [execOp, h]; simp [go_sem]) (fun ev h => by simp only [execOp, h]; simp [go_sem, k0]) (fun ev hcst h => by simp only [execOp, h, hcst]; simp [go_sem]) ?_
  clear k0 hF h0 h2 h3 h8
  intro a f hF h0 h2 h3 h8 hp
  refine wpList_nil ?_
  show Code.wp _ _ _ _ _
  refine wp_cond_true ((hF.eval 74 (by omega)).trans hp) ?_
  clear hp
  refine wp_region_list ?_
  have hc := rrights2_any hb ao n cap bs r5.2 W hS.rd hsm (fun b o e => by have := hab b o e; have := hS.rx.size; omega) _ _ rfl rfl
  refine m_fld (d := 75) hF h0 h2 h3 h8 (by omega) (by omega) rfl rfl rfl rfl rfl rfl rfl rfl rfl (fun ev hcst hfn h => by simp only [execOp, resolve, invoke, List.map_toArray, List.map_cons, List.map_nil, h, hcst, hfn]; simp [go_sem]) hc ?_
  rintro e x ⟨rfl, hT, hX⟩
  replace HN : Hid _ := fun r7 r8 => HN.out _ r7 r8 rfl
  generalize rstep (num 0 1099511627776) 0 bs r5.2 = r6 at *
  replace HN : Hid _ := fun r8 => HN.out _ r8 rfl
  generalize rstep (num 0 1099511627776) 0 bs r6.2 = r7 at *
  unfold two
  have hD := hS.rw hlt hT (hX)
  obtain ⟨u8, hu8⟩ := arr20 hs4 8 (by decide)
  have c8 : x.cell? ⟨w.heap.size + 1, 8, none⟩ = some u8 := (hD.blk.cell 8).trans hu8
  have z8 := hD.blk.frozen 8
  obtain ⟨u9, hu9⟩ := arr20 hs4 9 (by decide)
  have c9 : x.cell? ⟨w.heap.size + 1, 9, none⟩ = some u9 := (hD.blk.cell 9).trans hu9
  have z9 := hD.blk.frozen 9
  have hS2 : DX w hb ao n cap bs r7.2 zeroC ((cc4.setIfInBounds 8 (.int .i64 r6.1)).setIfInBounds 9 (.int .i64 r7.1)) 35 ((x.setCell ⟨w.heap.size + 1, 8, none⟩ (.int .i64 r6.1)).setCell ⟨w.heap.size + 1, 9, none⟩ (.int .i64 r7.1)) := ((hD.set hlt hab 8 _).set hlt hab 9 _)
  refine ⟨_, PA (w.heap.size + 1) 8, ((x.setCell ⟨w.heap.size + 1, 8, none⟩ (.int .i64 r6.1)).setCell ⟨w.heap.size + 1, 9, none⟩ (.int .i64 r7.1)), rfl, fun ev h => by simp only [execOp, h]; simp [go_sem], fun ev h h' => by simp only [execOp, h, h']; simp [go_sem, c8, z8, c9, z9], ?_⟩
  obtain ⟨cc5, HC5, hs5, h05⟩ : ∃ cc : Array Value, Hid (cc = ((cc4.setIfInBounds 8 (.int .i64 r6.1)).setIfInBounds 9 (.int .i64 r7.1))) ∧ cc.size = 20 ∧ cc[0]? = some (.int .i64 4) := ⟨_, rfl, (set20 (set20 hs4 8 _) 9 _), (set0 (set0 h04 8 _ (by decide)) 9 _ (by decide))⟩
  rw [← HC5.out] at hS2
  clear hD hS hc hT hX hs4 h04 c8 z8 hu8 c9 z9 hu9 hF h0 h2 h3 h8
  generalize ((x.setCell ⟨w.heap.size + 1, 8, none⟩ (.int .i64 r6.1)).setCell ⟨w.heap.size + 1, 9, none⟩ (.int .i64 r7.1)) = W at *
  have hS := hS2
  clear hS2
  intro a f hF h0 h2 h3 h8
  show Code.wp _ _ _ _ _
  refine wp_seq ?_
  refine wp_seq ?_
  refine wp_region_list ?_
  have k0 : W.cell? ⟨w.heap.size + 1, 0, none⟩ = some (.int .i64 4) := (hS.blk.cell 0).trans h05
  refine m_tst (d := 78) (p1 := PA (w.heap.size + 1) 0) (u := .int .i64 4) true hF h0 h2 h3 h8 (by omega) (by omega) rfl rfl rfl rfl rfl rfl (fun ev h => by simp only [execOp, h]; simp [go_sem]) (fun ev h => by simp only [execOp, h]; simp [go_sem, k0]) (fun ev hcst h => by simp only [execOp, h, hcst]; simp [go_sem]) ?_
  clear k0 hF h0 h2 h3 h8
  intro a f hF h0 h2 h3 h8 hp
  refine wpList_nil ?_
  show Code.wp _ _ _ _ _
  refine wp_cond_true ((hF.eval 80 (by omega)).trans hp) ?_
  clear hp
  refine wp_region_list ?_
  have hc := rnum_any hb ao n cap bs r7.2 0 1099511627776 (by omega) (by omega) W hS.rd hsm
  refine m_fld (d := 81) hF h0 h2 h3 h8 (by omega) (by omega) rfl rfl rfl rfl rfl rfl rfl rfl rfl (fun ev hcst hfn h => by simp only [execOp, resolve, invoke, List.map_toArray, List.map_cons, List.map_nil, h, hcst, hfn]; simp [go_sem]) hc ?_
  rintro e x ⟨rfl, hT, hX⟩
  replace HN : Hid _ := HN.out _  rfl
  generalize rstep (num 0 1099511627776) 0 bs r7.2 = r8 at *
  have hD := hS.rw hlt hT (RX.of hX)
  obtain ⟨u10, hu10⟩ := arr20 hs5 10 (by decide)
  have c10 : x.cell? ⟨w.heap.size + 1, 10, none⟩ = some u10 := (hD.blk.cell 10).trans hu10
  have z10 := hD.blk.frozen 10
  have hS2 : DX w hb ao n cap bs r8.2 zeroC (cc5.setIfInBounds 10 (.int .i64 r8.1)) 35 (x.setCell ⟨w.heap.size + 1, 10, none⟩ (.int .i64 r8.1)) := (hD.set hlt hab 10 _)
  refine ⟨_, PA (w.heap.size + 1) 10, (x.setCell ⟨w.heap.size + 1, 10, none⟩ (.int .i64 r8.1)), rfl, fun ev h => by simp only [execOp, h]; simp [go_sem], fun ev h h' => by simp only [execOp, h, h']; simp [go_sem, c10, z10], ?_⟩
  obtain ⟨cc6, HC6, hs6, h06⟩ : ∃ cc : Array Value, Hid (cc = (cc5.setIfInBounds 10 (.int .i64 r8.1))) ∧ cc.size = 20 ∧ cc[0]? = some (.int .i64 4) := ⟨_, rfl, (set20 hs5 10 _), (set0 h05 10 _ (by decide))⟩
  rw [← HC6.out] at hS2
  clear hD hS hc hT hX hs5 h05 c10 z10 hu10 hF h0 h2 h3 h8
  generalize (x.setCell ⟨w.heap.size + 1, 10, none⟩ (.int .i64 r8.1)) = W at *
  have hS := hS2
  clear hS2
  intro a f hF h0 h2 h3 h8
  show Code.wp _ _ _ _ _
  obtain ⟨DD, HDD⟩ : ∃ DD : Array Value, Hid (DD = msgCells { Msg.zero with kind := 4, name := r1.1, cap := r2.1, recaps := r3.1, round := r4.1, rank := r5.1, down := r6.1, up := r7.1, held := r8.1 } (.slice none 0 0)) := ⟨_, rfl⟩
  have hcD : cc6 = DD := by
    rw [HDD.out, HC6.out, HC5.out, HC4.out, HC3.out, HC2.out, HC1.out, HC0.out]
    rfl
  rw [hcD] at hS
  have hall : DD.all (·.oneCell') = true := by rw [HDD.out]; simp [msgCells, Str, Value.oneCell', Msg.zero]
  have hfin : RdB (W.setRow w.heap.size DD) hb ao n cap bs r8.2 := hS.rd.row _ _ (by omega) (fun b o e => by have := hab b o e; omega)
  have hfx : RX hb w (W.setRow w.heap.size DD) := ⟨hS.rx.os, hS.rx.tape, hS.rx.output, by simpa [World.setRow] using hS.rx.size, fun k h1 h2 => (setRow_other _ _ _ _ (by omega)).trans (hS.rx.block k h1 h2)⟩
  have hans : MsgAns w pp (.returned (.agg DD)) (W.setRow w.heap.size DD) := ⟨{ Msg.zero with kind := 4, name := r1.1, cap := r2.1, recaps := r3.1, round := r4.1, rank := r5.1, down := r6.1, up := r7.1, held := r8.1 }, none, 0, by rw [HDD.out]; rfl, World.ownsRow_nil _ _ _ _, by simp [Msg.zero], fun _ => by rw [HN.out]⟩
  have hszD : DD.size = 20 := by rw [HDD.out]; rfl
  refine m_end (d := 84) (Post := fun e z => MsgAns w pp e z ∧ RdB z hb ao n cap bs pp.2 ∧ RX hb w z) hF h2 h3 hS.res hS.blk hszD hall (by omega) (by omega) rfl rfl rfl rfl rfl rfl ?_ ?_
  · refine ⟨hans, ?_, hfx⟩
    rw [HN.out]
    exact hfin
  · intro a' W' hbp
    exact hbp
set_option maxRecDepth 100000 in
set_option maxHeartbeats 3200000 in
theorem rmsg8_any (hb : Nat) (ao : Option Addr) (n cap : Nat) (bs : List UInt8) (st : Nat × Bool) (w : World) (hS : RdB w hb ao n cap bs st) (hsm : n ≤ 140737488355328) (hrm : n ≤ cap) (hnil : ao = none → n = 0 ∧ cap = 0) (hform : ao = none ∨ ∃ b off, ao = some ⟨b, off, none⟩) (hab : ∀ b o, ao = some ⟨b, o, none⟩ → b < w.heap.size) (r0 : Int × Nat × Bool) (h0 : rstep (num 1 10) 0 bs st = r0) (hk : r0.1 = 8) :
    Calls Try.prog 87 #[.pointer (some ⟨hb, 0, none⟩)] w fun e w' => MsgAns w (p8 bs r0.2) e w' ∧ RdB w' hb ao n cap bs (p8 bs r0.2).2 ∧ RX hb w w' := by
  have HN : Hid (∀ r1 r2 r3 r4 r5, nstep [] bs r0.2 = r1 → rstep (num 1 1099511627776) 0 bs r1.2 = r2 → rstep (num 0 1099511627776) 0 bs r2.2 = r3 → rstep (num 0 1099511627776) 0 bs r3.2 = r4 → rstep (num 0 1099511627776) 0 bs r4.2 = r5 → p8 bs r0.2 = ({ Msg.zero with kind := 8, name := r1.1, cap := r2.1, recaps := r3.1, down := r4.1, up := r5.1 }, r5.2)) := by
    intro r1 r2 r3 r4 r5 hr1 hr2 hr3 hr4 hr5
    subst hr1 hr2 hr3 hr4 hr5
    rfl
  have hlt := hS.blk.lt
  generalize hpp : p8 bs r0.2 = pp at *
  clear hpp
  refine calls_of_wp Try.func87 rfl ?_
  have e : Try.f87.ntmps - (#[Value.pointer (some ⟨hb, 0, none⟩)] : Array Value).size = 84 := by rw [Try.ntmps87]; rfl
  rw [e]
  have hF0 := m_frame (.pointer (some ⟨hb, 0, none⟩)) 84
  generalize ({ tmps := #[Value.pointer (some ⟨hb, 0, none⟩)] ++ Array.replicate 84 undef, defers := [] } : Act) = a0 at *
  refine mstart hF0 rfl hS hsm rfl rfl rfl rfl rfl rfl rfl rfl rfl rfl rfl rfl rfl rfl rfl rfl rfl rfl (fun ev W hcst hfn h => by simp only [execOp, resolve, invoke, List.map_toArray, List.map_cons, List.map_nil, h, hcst, hfn]; simp [go_sem]) rfl rfl rfl rfl rfl ?_
  clear hS hF0 e
  rw [h0, hk]
  clear h0 hk
  intro a f W hF h0 h2 h3 h8 hS
  obtain ⟨cc0, HC0, hs0, h00⟩ : ∃ cc : Array Value, Hid (cc = kindM 8) ∧ cc.size = 20 ∧ cc[0]? = some (.int .i64 8) := ⟨_, rfl, rfl, rfl⟩
  rw [← HC0.out] at hS
  refine wp_block ?_
  refine wp_seq ?_
  refine wp_region_list ?_
  refine m_swt (d := 9) false hF h0 h2 h3 h8 (by omega) (by omega) rfl rfl rfl rfl (fun ev hcst h => by simp only [execOp, h, hcst]; simp [go_sem]) (fun ev h => by simp only [execOp, h]; rfl) ?_
  intro a f hF h0 h2 h3 h8 hp
  show Code.wp _ _ _ _ _
  refine wp_cond_false ((hF.eval 9 (by omega)).trans hp) ?_
  clear hp
  refine wp_seq ?_
  refine wp_region_list ?_
  refine m_swt (d := 18) false hF h0 h2 h3 h8 (by omega) (by omega) rfl rfl rfl rfl (fun ev hcst h => by simp only [execOp, h, hcst]; simp [go_sem]) (fun ev h => by simp only [execOp, h]; rfl) ?_
  intro a f hF h0 h2 h3 h8 hp
  show Code.wp _ _ _ _ _
  refine wp_cond_false ((hF.eval 18 (by omega)).trans hp) ?_
  clear hp
  refine wp_seq ?_
  refine wp_region_list ?_
  refine m_swt (d := 44) false hF h0 h2 h3 h8 (by omega) (by omega) rfl rfl rfl rfl (fun ev hcst h => by simp only [execOp, h, hcst]; simp [go_sem]) (fun ev h => by simp only [execOp, h]; rfl) ?_
  intro a f hF h0 h2 h3 h8 hp
  show Code.wp _ _ _ _ _
  refine wp_cond_false ((hF.eval 44 (by omega)).trans hp) ?_
  clear hp
  refine wp_skip ?_
  show Code.wp _ _ _ _ _
  refine wp_seq ?_
  refine wp_region_list ?_
  have hc : Calls Try.prog 100 #[_, .string ⟨#[]⟩] W _ := rname2_any hb ao n cap bs [] r0.2 W hS.rd hsm hrm hnil hform
  refine m_fld (d := 50) hF h0 h2 h3 h8 (by omega) (by omega) rfl rfl rfl rfl rfl rfl rfl rfl rfl (fun ev hcst hfn h => by simp only [execOp, resolve, invoke, List.map_toArray, List.map_cons, List.map_nil, h, hcst, hfn]; simp [go_sem]) hc ?_
  rintro e x ⟨rfl, hT, hX⟩
  replace HN : Hid _ := fun r2 r3 r4 r5 => HN.out _ r2 r3 r4 r5 rfl
  generalize nstep [] bs r0.2 = r1 at *
  unfold Str
  have hD := hS.rw hlt hT (RX.of hX)
  obtain ⟨u1, hu1⟩ := arr20 hs0 1 (by decide)
  have c1 : x.cell? ⟨w.heap.size + 1, 1, none⟩ = some u1 := (hD.blk.cell 1).trans hu1
  have z1 := hD.blk.frozen 1
  have hS2 : DX w hb ao n cap bs r1.2 zeroC (cc0.setIfInBounds 1 (.string ⟨r1.1.toArray⟩)) 35 (x.setCell ⟨w.heap.size + 1, 1, none⟩ (.string ⟨r1.1.toArray⟩)) := (hD.set hlt hab 1 _)
  refine ⟨_, PA (w.heap.size + 1) 1, (x.setCell ⟨w.heap.size + 1, 1, none⟩ (.string ⟨r1.1.toArray⟩)), rfl, fun ev h => by simp only [execOp, h]; simp [go_sem], fun ev h h' => by simp only [execOp, h, h']; simp [go_sem, c1, z1], ?_⟩
  obtain ⟨cc1, HC1, hs1, h01⟩ : ∃ cc : Array Value, Hid (cc = (cc0.setIfInBounds 1 (.string ⟨r1.1.toArray⟩))) ∧ cc.size = 20 ∧ cc[0]? = some (.int .i64 8) := ⟨_, rfl, (set20 hs0 1 _), (set0 h00 1 _ (by decide))⟩
  rw [← HC1.out] at hS2
  clear hD hS hc hT hX hs0 h00 c1 z1 hu1 hF h0 h2 h3 h8
  generalize (x.setCell ⟨w.heap.size + 1, 1, none⟩ (.string ⟨r1.1.toArray⟩)) = W at *
  have hS := hS2
  clear hS2
  intro a f hF h0 h2 h3 h8
  show Code.wp _ _ _ _ _
  refine wp_seq ?_
  refine wp_region_list ?_
  have hc := rnum_any hb ao n cap bs r1.2 1 1099511627776 (by omega) (by omega) W hS.rd hsm
  refine m_fld (d := 53) hF h0 h2 h3 h8 (by omega) (by omega) rfl rfl rfl rfl rfl rfl rfl rfl rfl (fun ev hcst hfn h => by simp only [execOp, resolve, invoke, List.map_toArray, List.map_cons, List.map_nil, h, hcst, hfn]; simp [go_sem]) hc ?_
  rintro e x ⟨rfl, hT, hX⟩
  replace HN : Hid _ := fun r3 r4 r5 => HN.out _ r3 r4 r5 rfl
  generalize rstep (num 1 1099511627776) 0 bs r1.2 = r2 at *
  have hD := hS.rw hlt hT (RX.of hX)
  obtain ⟨u2, hu2⟩ := arr20 hs1 2 (by decide)
  have c2 : x.cell? ⟨w.heap.size + 1, 2, none⟩ = some u2 := (hD.blk.cell 2).trans hu2
  have z2 := hD.blk.frozen 2
  have hS2 : DX w hb ao n cap bs r2.2 zeroC (cc1.setIfInBounds 2 (.int .i64 r2.1)) 35 (x.setCell ⟨w.heap.size + 1, 2, none⟩ (.int .i64 r2.1)) := (hD.set hlt hab 2 _)
  refine ⟨_, PA (w.heap.size + 1) 2, (x.setCell ⟨w.heap.size + 1, 2, none⟩ (.int .i64 r2.1)), rfl, fun ev h => by simp only [execOp, h]; simp [go_sem], fun ev h h' => by simp only [execOp, h, h']; simp [go_sem, c2, z2], ?_⟩
  obtain ⟨cc2, HC2, hs2, h02⟩ : ∃ cc : Array Value, Hid (cc = (cc1.setIfInBounds 2 (.int .i64 r2.1))) ∧ cc.size = 20 ∧ cc[0]? = some (.int .i64 8) := ⟨_, rfl, (set20 hs1 2 _), (set0 h01 2 _ (by decide))⟩
  rw [← HC2.out] at hS2
  clear hD hS hc hT hX hs1 h01 c2 z2 hu2 hF h0 h2 h3 h8
  generalize (x.setCell ⟨w.heap.size + 1, 2, none⟩ (.int .i64 r2.1)) = W at *
  have hS := hS2
  clear hS2
  intro a f hF h0 h2 h3 h8
  show Code.wp _ _ _ _ _
  refine wp_seq ?_
  refine wp_region_list ?_
  have hc := rnum_any hb ao n cap bs r2.2 0 1099511627776 (by omega) (by omega) W hS.rd hsm
  refine m_fld (d := 56) hF h0 h2 h3 h8 (by omega) (by omega) rfl rfl rfl rfl rfl rfl rfl rfl rfl (fun ev hcst hfn h => by simp only [execOp, resolve, invoke, List.map_toArray, List.map_cons, List.map_nil, h, hcst, hfn]; simp [go_sem]) hc ?_
  rintro e x ⟨rfl, hT, hX⟩
  replace HN : Hid _ := fun r4 r5 => HN.out _ r4 r5 rfl
  generalize rstep (num 0 1099511627776) 0 bs r2.2 = r3 at *
  have hD := hS.rw hlt hT (RX.of hX)
  obtain ⟨u3, hu3⟩ := arr20 hs2 3 (by decide)
  have c3 : x.cell? ⟨w.heap.size + 1, 3, none⟩ = some u3 := (hD.blk.cell 3).trans hu3
  have z3 := hD.blk.frozen 3
  have hS2 : DX w hb ao n cap bs r3.2 zeroC (cc2.setIfInBounds 3 (.int .i64 r3.1)) 35 (x.setCell ⟨w.heap.size + 1, 3, none⟩ (.int .i64 r3.1)) := (hD.set hlt hab 3 _)
  refine ⟨_, PA (w.heap.size + 1) 3, (x.setCell ⟨w.heap.size + 1, 3, none⟩ (.int .i64 r3.1)), rfl, fun ev h => by simp only [execOp, h]; simp [go_sem], fun ev h h' => by simp only [execOp, h, h']; simp [go_sem, c3, z3], ?_⟩
  obtain ⟨cc3, HC3, hs3, h03⟩ : ∃ cc : Array Value, Hid (cc = (cc2.setIfInBounds 3 (.int .i64 r3.1))) ∧ cc.size = 20 ∧ cc[0]? = some (.int .i64 8) := ⟨_, rfl, (set20 hs2 3 _), (set0 h02 3 _ (by decide))⟩
  rw [← HC3.out] at hS2
  clear hD hS hc hT hX hs2 h02 c3 z3 hu3 hF h0 h2 h3 h8
  generalize (x.setCell ⟨w.heap.size + 1, 3, none⟩ (.int .i64 r3.1)) = W at *
  have hS := hS2
  clear hS2
  intro a f hF h0 h2 h3 h8
  show Code.wp _ _ _ _ _
  refine wp_seq ?_
  refine wp_seq ?_
  refine wp_region_list ?_
  have k0 : W.cell? ⟨w.heap.size + 1, 0, none⟩ = some (.int .i64 8) := (hS.blk.cell 0).trans h03
  refine m_tst (d := 59) (p1 := PA (w.heap.size + 1) 0) (u := .int .i64 8) false hF h0 h2 h3 h8 (by omega) (by omega) rfl rfl rfl rfl rfl rfl (fun ev h => by simp only [execOp, h]; simp [go_sem]) (fun ev h => by simp only [execOp, h]; simp [go_sem, k0]) (fun ev hcst h => by simp only [execOp, h, hcst]; simp [go_sem]) ?_
  clear k0 hF h0 h2 h3 h8
  intro a f hF h0 h2 h3 h8 hp
  refine wpList_nil ?_
  show Code.wp _ _ _ _ _
  refine wp_cond_false ((hF.eval 61 (by omega)).trans hp) ?_
  clear hp
  refine wp_skip ?_
  show Code.wp _ _ _ _ _
  refine wp_seq ?_
  refine wp_seq ?_
  refine wp_region_list ?_
  have k0 : W.cell? ⟨w.heap.size + 1, 0, none⟩ = some (.int .i64 8) := (hS.blk.cell 0).trans h03
  refine m_tst (d := 65) (p1 := PA (w.heap.size + 1) 0) (u := .int .i64 8) false hF h0 h2 h3 h8 (by omega) (by omega) rfl rfl rfl rfl rfl rfl (fun ev h => by simp only [execOp, h]; simp [go_sem]) (fun ev h => by simp only [execOp, h]; simp [go_sem, k0]) (fun ev hcst h => by simp only [execOp, h, hcst]; simp [go_sem]) ?_
  clear k0 hF h0 h2 h3 h8
  intro a f hF h0 h2 h3 h8 hp
  refine wpList_nil ?_
  show Code.wp _ _ _ _ _
  refine wp_cond_false ((hF.eval 67 (by omega)).trans hp) ?_
  clear hp
  refine wp_skip ?_
  show Code.wp _ _ _ _ _
  refine wp_seq ?_
  refine wp_seq ?_
  refine wp_region_list ?_
  have k0 : W.cell? ⟨w.heap.size + 1, 0, none⟩ = some (.int .i64 8) := (hS.blk.cell 0).trans h03
  refine m_tst (d := 72) (p1 := PA (w.heap.size + 1) 0) (u := .int .i64 8) true hF h0 h2 h3 h8 (by omega) (by omega) rfl rfl rfl rfl rfl rfl (fun ev h => by simp only [execOp, h]; simp [go_sem]) (fun ev h => by simp only [execOp, h]; simp [go_sem, k0]) (fun ev hcst h => by simp only [execOp, h, hcst]; simp [go_sem]) ?_
  clear k0 hF h0 h2 h3 h8
  intro a f hF h0 h2 h3 h8 hp
  refine wpList_nil ?_
  show Code.wp _ _ _ _ _
  refine wp_cond_true ((hF.eval 74 (by omega)).trans hp) ?_
  clear hp
  refine wp_region_list ?_
  have hc := rrights2_any hb ao n cap bs r3.2 W hS.rd hsm (fun b o e => by have := hab b o e; have := hS.rx.size; omega) _ _ rfl rfl
  refine m_fld (d := 75) hF h0 h2 h3 h8 (by omega) (by omega) rfl rfl rfl rfl rfl rfl rfl rfl rfl (fun ev hcst hfn h => by simp only [execOp, resolve, invoke, List.map_toArray, List.map_cons, List.map_nil, h, hcst, hfn]; simp [go_sem]) hc ?_
  rintro e x ⟨rfl, hT, hX⟩
  replace HN : Hid _ := fun r5 => HN.out _ r5 rfl
  generalize rstep (num 0 1099511627776) 0 bs r3.2 = r4 at *
  replace HN : Hid _ := HN.out _  rfl
  generalize rstep (num 0 1099511627776) 0 bs r4.2 = r5 at *
  unfold two
  have hD := hS.rw hlt hT (hX)
  obtain ⟨u8, hu8⟩ := arr20 hs3 8 (by decide)
  have c8 : x.cell? ⟨w.heap.size + 1, 8, none⟩ = some u8 := (hD.blk.cell 8).trans hu8
  have z8 := hD.blk.frozen 8
  obtain ⟨u9, hu9⟩ := arr20 hs3 9 (by decide)
  have c9 : x.cell? ⟨w.heap.size + 1, 9, none⟩ = some u9 := (hD.blk.cell 9).trans hu9
  have z9 := hD.blk.frozen 9
  have hS2 : DX w hb ao n cap bs r5.2 zeroC ((cc3.setIfInBounds 8 (.int .i64 r4.1)).setIfInBounds 9 (.int .i64 r5.1)) 35 ((x.setCell ⟨w.heap.size + 1, 8, none⟩ (.int .i64 r4.1)).setCell ⟨w.heap.size + 1, 9, none⟩ (.int .i64 r5.1)) := ((hD.set hlt hab 8 _).set hlt hab 9 _)
  refine ⟨_, PA (w.heap.size + 1) 8, ((x.setCell ⟨w.heap.size + 1, 8, none⟩ (.int .i64 r4.1)).setCell ⟨w.heap.size + 1, 9, none⟩ (.int .i64 r5.1)), rfl, fun ev h => by simp only [execOp, h]; simp [go_sem], fun ev h h' => by simp only [execOp, h, h']; simp [go_sem, c8, z8, c9, z9], ?_⟩
  obtain ⟨cc4, HC4, hs4, h04⟩ : ∃ cc : Array Value, Hid (cc = ((cc3.setIfInBounds 8 (.int .i64 r4.1)).setIfInBounds 9 (.int .i64 r5.1))) ∧ cc.size = 20 ∧ cc[0]? = some (.int .i64 8) := ⟨_, rfl, (set20 (set20 hs3 8 _) 9 _), (set0 (set0 h03 8 _ (by decide)) 9 _ (by decide))⟩
  rw [← HC4.out] at hS2
  clear hD hS hc hT hX hs3 h03 c8 z8 hu8 c9 z9 hu9 hF h0 h2 h3 h8
  generalize ((x.setCell ⟨w.heap.size + 1, 8, none⟩ (.int .i64 r4.1)).setCell ⟨w.heap.size + 1, 9, none⟩ (.int .i64 r5.1)) = W at *
  have hS := hS2
  clear hS2
  intro a f hF h0 h2 h3 h8
  show Code.wp _ _ _ _ _
  refine wp_seq ?_
  refine wp_seq ?_
  refine wp_region_list ?_
  have k0 : W.cell? ⟨w.heap.size + 1, 0, none⟩ = some (.int .i64 8) := (hS.blk.cell 0).trans h04
  refine m_tst (d := 78) (p1 := PA (w.heap.size + 1) 0) (u := .int .i64 8) false hF h0 h2 h3 h8 (by omega) (by omega) rfl rfl rfl rfl rfl rfl (fun ev h => by simp only [execOp, h]; simp [go_sem]) (fun ev h => by simp only [execOp, h]; simp [go_sem, k0]) (fun ev hcst h => by simp only [execOp, h, hcst]; simp [go_sem]) ?_
  clear k0 hF h0 h2 h3 h8
  intro a f hF h0 h2 h3 h8 hp
  refine wpList_nil ?_
  show Code.wp _ _ _ _ _
  refine wp_cond_false ((hF.eval 80 (by omega)).trans hp) ?_
  clear hp
  refine wp_skip ?_
  show Code.wp _ _ _ _ _
  obtain ⟨DD, HDD⟩ : ∃ DD : Array Value, Hid (DD = msgCells { Msg.zero with kind := 8, name := r1.1, cap := r2.1, recaps := r3.1, down := r4.1, up := r5.1 } (.slice none 0 0)) := ⟨_, rfl⟩
  have hcD : cc4 = DD := by
    rw [HDD.out, HC4.out, HC3.out, HC2.out, HC1.out, HC0.out]
    rfl
  rw [hcD] at hS
  have hall : DD.all (·.oneCell') = true := by rw [HDD.out]; simp [msgCells, Str, Value.oneCell', Msg.zero]
  have hfin : RdB (W.setRow w.heap.size DD) hb ao n cap bs r5.2 := hS.rd.row _ _ (by omega) (fun b o e => by have := hab b o e; omega)
  have hfx : RX hb w (W.setRow w.heap.size DD) := ⟨hS.rx.os, hS.rx.tape, hS.rx.output, by simpa [World.setRow] using hS.rx.size, fun k h1 h2 => (setRow_other _ _ _ _ (by omega)).trans (hS.rx.block k h1 h2)⟩
  have hans : MsgAns w pp (.returned (.agg DD)) (W.setRow w.heap.size DD) := ⟨{ Msg.zero with kind := 8, name := r1.1, cap := r2.1, recaps := r3.1, down := r4.1, up := r5.1 }, none, 0, by rw [HDD.out]; rfl, World.ownsRow_nil _ _ _ _, by simp [Msg.zero], fun _ => by rw [HN.out]⟩
  have hszD : DD.size = 20 := by rw [HDD.out]; rfl
  refine m_end (d := 84) (Post := fun e z => MsgAns w pp e z ∧ RdB z hb ao n cap bs pp.2 ∧ RX hb w z) hF h2 h3 hS.res hS.blk hszD hall (by omega) (by omega) rfl rfl rfl rfl rfl rfl ?_ ?_
  · refine ⟨hans, ?_, hfx⟩
    rw [HN.out]
    exact hfin
  · intro a' W' hbp
    exact hbp
end Go.Proofs.Ytneiomimjgfbpaa
