import Derived.Test.YtfgnlfemckdfnaaBare2
import Derived.Test.YtfgnlfemckdfnaaJF
namespace Go.Proofs.Ytfgnlfemckdfnaa
open Go.RowKit Go.PlainAid
set_option linter.unusedSimpArgs false
set_option linter.unusedVariables false
theorem upd_eq (f : Nat → Value) (d : Nat) (v : Value) : upd f d v d = v := by simp [upd]
theorem upd_ne (f : Nat → Value) {d j : Nat} (v : Value) (h : j ≠ d) : upd f d v j = f j := by simp [upd, h]
theorem pick_run (ev : Operand → Value) {o : Oper} {c x y : Operand} (r : o.op = .pick c x y) {P : Bool} (hc : ev c = .bool P) {v : Value} (w : World) (hv : (if P then ev x else ev y) = v) : (execOp ev o).run Try.prog w = .ok (.value v) w := by
  subst hv
  cases P <;> simp [execOp, r, hc, go_sem]
def comb (b P r : Bool) : Bool := if b then P && r else P || r
section
variable {ops : Array Oper} {Q : Exit → Act → World → Prop} {a : Act} {w : World} {rest : List Oper} {f : Nat → Value} {N : Nat}
theorem ck (b : Bool) {d p g : Nat} {o1 o2 o3 o4 o5 o6 : Oper} (hF : Fr N a f) {P : Bool} (r : Bool) {X Y : Value} (u1 u2 u3 u4 : Value)
    (h2 : f 2 = X) (h3 : f 3 = Y) (hp : f p = .bool P) (hg : (ops[g]?).bind (·.dst) = some p) (hd : d + 5 < N) (hpd : p < d) (h3d : 3 < d)
    (e1 : o1.dst = some d) (e2 : o2.dst = some (d + 1)) (e3 : o3.dst = some (d + 2)) (e4 : o4.dst = some (d + 3)) (e5 : o5.dst = some (d + 4)) (e6 : o6.dst = some (d + 5))
    (q1 : o1.guard = some (g, b)) (q2 : o2.guard = some (g, b)) (q3 : o3.guard = some (g, b)) (q4 : o4.guard = some (g, b)) (q5 : o5.guard = some (g, b)) (q6 : o6.guard = none)
    (r1 : ∀ ev : Operand → Value, ev (.tmp 2) = X → (execOp ev o1).run Try.prog w = .ok (.value u1) w)
    (r2 : ∀ ev : Operand → Value, ev (.tmp d) = u1 → (execOp ev o2).run Try.prog w = .ok (.value u2) w)
    (r3 : ∀ ev : Operand → Value, ev (.tmp 3) = Y → (execOp ev o3).run Try.prog w = .ok (.value u3) w)
    (r4 : ∀ ev : Operand → Value, ev (.tmp (d + 2)) = u3 → (execOp ev o4).run Try.prog w = .ok (.value u4) w)
    (r5 : ∀ ev : Operand → Value, ev (.tmp (d + 1)) = u2 → ev (.tmp (d + 3)) = u4 → (execOp ev o5).run Try.prog w = .ok (.value (.bool r)) w)
    (r6 : o6.op = if b then .pick (.tmp p) (.tmp (d + 4)) (.const (.bool false)) else .pick (.tmp p) (.const (.bool true)) (.tmp (d + 4)))
    (h : ∀ a' f', Fr N a' f' → f' 2 = X → f' 3 = Y → f' (d + 5) = .bool (comb b P r) → wpList Try.prog ops Q rest a' w) :
    wpList Try.prog ops Q (o1 :: o2 :: o3 :: o4 :: o5 :: o6 :: rest) a w := by
  by_cases hP : P = b
  · subst hP
    refine sy hF e1 (by omega) (by rw [wanted_some q1, hF.yields hg (by omega) hp]; simp) (r1 _ ((hF.eval 2 (by omega)).trans h2)) fun a1 F1 => ?_
    refine sy F1 e2 (by omega) (by rw [wanted_some q2, F1.yields hg (by omega) (by rw [upd_ne _ _ (by omega)]; exact hp)]; simp) (r2 _ ((F1.eval d (by omega)).trans (upd_eq _ _ _))) fun a2 F2 => ?_
    refine sy F2 e3 (by omega) (by rw [wanted_some q3, F2.yields hg (by omega) (by rw [upd_ne _ _ (by omega), upd_ne _ _ (by omega)]; exact hp)]; simp) (r3 _ ((F2.eval 3 (by omega)).trans (by rw [upd_ne _ _ (by omega), upd_ne _ _ (by omega)]; exact h3))) fun a3 F3 => ?_
    refine sy F3 e4 (by omega) (by rw [wanted_some q4, F3.yields hg (by omega) (by rw [upd_ne _ _ (by omega), upd_ne _ _ (by omega), upd_ne _ _ (by omega)]; exact hp)]; simp) (r4 _ ((F3.eval (d + 2) (by omega)).trans (upd_eq _ _ _))) fun a4 F4 => ?_
    refine sy F4 e5 (by omega) (by rw [wanted_some q5, F4.yields hg (by omega) (by rw [upd_ne _ _ (by omega), upd_ne _ _ (by omega), upd_ne _ _ (by omega), upd_ne _ _ (by omega)]; exact hp)]; simp)
      (r5 _ ((F4.eval (d + 1) (by omega)).trans (by rw [upd_ne _ _ (by omega), upd_ne _ _ (by omega), upd_eq])) ((F4.eval (d + 3) (by omega)).trans (upd_eq _ _ _))) fun a5 F5 => ?_
    have k1 : a5.eval (.tmp p) = .bool P := (F5.eval p (by omega)).trans (by rw [upd_ne _ _ (by omega), upd_ne _ _ (by omega), upd_ne _ _ (by omega), upd_ne _ _ (by omega), upd_ne _ _ (by omega)]; exact hp)
    have k2 : a5.eval (.tmp (d + 4)) = .bool r := (F5.eval (d + 4) (by omega)).trans (upd_eq _ _ _)
    refine sy F5 e6 (by omega) (wanted_none q6) (v := .bool (comb P P r)) (by cases P <;> exact pick_run _ r6 k1 w (by simp only [k2, comb]; rfl)) fun a6 F6 => ?_
    refine h _ _ F6 ?_ ?_ (upd_eq _ _ _)
    · simp only [upd_ne _ _ (show 2 ≠ d + 5 by omega), upd_ne _ _ (show 2 ≠ d + 4 by omega), upd_ne _ _ (show 2 ≠ d + 3 by omega), upd_ne _ _ (show 2 ≠ d + 2 by omega), upd_ne _ _ (show 2 ≠ d + 1 by omega), upd_ne _ _ (show 2 ≠ d by omega)]; exact h2
    · simp only [upd_ne _ _ (show 3 ≠ d + 5 by omega), upd_ne _ _ (show 3 ≠ d + 4 by omega), upd_ne _ _ (show 3 ≠ d + 3 by omega), upd_ne _ _ (show 3 ≠ d + 2 by omega), upd_ne _ _ (show 3 ≠ d + 1 by omega), upd_ne _ _ (show 3 ≠ d by omega)]; exact h3
  · have hn : (some P == some b) = false := by simpa using hP
    refine sn hF e1 (by omega) (by rw [wanted_some q1, hF.yields hg (by omega) hp, hn]) fun a1 F1 => ?_
    refine sn F1 e2 (by omega) (by rw [wanted_some q2, F1.yields hg (by omega) (by rw [upd_ne _ _ (by omega)]; exact hp), hn]) fun a2 F2 => ?_
    refine sn F2 e3 (by omega) (by rw [wanted_some q3, F2.yields hg (by omega) (by rw [upd_ne _ _ (by omega), upd_ne _ _ (by omega)]; exact hp), hn]) fun a3 F3 => ?_
    refine sn F3 e4 (by omega) (by rw [wanted_some q4, F3.yields hg (by omega) (by rw [upd_ne _ _ (by omega), upd_ne _ _ (by omega), upd_ne _ _ (by omega)]; exact hp), hn]) fun a4 F4 => ?_
    refine sn F4 e5 (by omega) (by rw [wanted_some q5, F4.yields hg (by omega) (by rw [upd_ne _ _ (by omega), upd_ne _ _ (by omega), upd_ne _ _ (by omega), upd_ne _ _ (by omega)]; exact hp), hn]) fun a5 F5 => ?_
    have k1 : a5.eval (.tmp p) = .bool P := (F5.eval p (by omega)).trans (by rw [upd_ne _ _ (by omega), upd_ne _ _ (by omega), upd_ne _ _ (by omega), upd_ne _ _ (by omega), upd_ne _ _ (by omega)]; exact hp)
    have hc : ∀ v, a5.eval (.const v) = v := fun _ => rfl
    refine sy F5 e6 (by omega) (wanted_none q6) (v := .bool (comb b P r)) (by cases b <;> cases P <;> first | exact absurd rfl hP | exact pick_run _ r6 k1 w rfl) fun a6 F6 => ?_
    refine h _ _ F6 ?_ ?_ (upd_eq _ _ _)
    · simp only [upd_ne _ _ (show 2 ≠ d + 5 by omega), upd_ne _ _ (show 2 ≠ d + 4 by omega), upd_ne _ _ (show 2 ≠ d + 3 by omega), upd_ne _ _ (show 2 ≠ d + 2 by omega), upd_ne _ _ (show 2 ≠ d + 1 by omega), upd_ne _ _ (show 2 ≠ d by omega)]; exact h2
    · simp only [upd_ne _ _ (show 3 ≠ d + 5 by omega), upd_ne _ _ (show 3 ≠ d + 4 by omega), upd_ne _ _ (show 3 ≠ d + 3 by omega), upd_ne _ _ (show 3 ≠ d + 2 by omega), upd_ne _ _ (show 3 ≠ d + 1 by omega), upd_ne _ _ (show 3 ≠ d by omega)]; exact h3
theorem mv {d p : Nat} {o : Oper} (hF : Fr N a f) {v X Y : Value} (h2 : f 2 = X) (h3 : f 3 = Y) (hp : f p = v) (hpN : p < N) (hd : d < N) (h3d : 3 < d) (e : o.dst = some d) (q : o.guard = none) (r : o.op = .move (.tmp p))
    (h : ∀ a' f', Fr N a' f' → f' 2 = X → f' 3 = Y → f' d = v → wpList Try.prog ops Q rest a' w) : wpList Try.prog ops Q (o :: rest) a w := by
  have k1 : a.eval (.tmp p) = v := (hF.eval p hpN).trans hp
  refine sy hF e hd (wanted_none q) (v := v) (by simp [execOp, r, k1]) fun a6 F6 => ?_
  exact h _ _ F6 (by rw [upd_ne _ _ (by omega)]; exact h2) (by rw [upd_ne _ _ (by omega)]; exact h3) (upd_eq _ _ _)
end
theorem neq25 (xround xrank yround yrank : Int) (w : World) : Sem.run Try.prog (binOp .neq 25 (.agg #[.int .i64 xround, .int .i64 xrank]) (.agg #[.int .i64 yround, .int .i64 yrank])) w = .ok (.bool (!(xround == yround && xrank == yrank))) w := by
  simp [go_sem]
  by_cases h : xround = yround
  · subst h
    try simp
    by_cases h : xrank = yrank
    · subst h
      try simp
    · simp [h]
  · simp [h]
theorem eql27 (xdown xup ydown yup : Int) (w : World) : Sem.run Try.prog (binOp .eql 27 (.agg #[.int .i64 xdown, .int .i64 xup]) (.agg #[.int .i64 ydown, .int .i64 yup])) w = .ok (.bool ((xdown == ydown && xup == yup))) w := by
  simp [go_sem]
  by_cases h : xdown = ydown
  · subst h
    try simp
    by_cases h : xup = yup
    · subst h
      try simp
    · simp [h]
  · simp [h]
theorem eql29 (xsession xid ysession yid : Int) (w : World) : Sem.run Try.prog (binOp .eql 29 (.agg #[.int .i64 xsession, .int .i64 xid]) (.agg #[.int .i64 ysession, .int .i64 yid])) w = .ok (.bool ((xsession == ysession && xid == yid))) w := by
  simp [go_sem]
  by_cases h : xsession = ysession
  · subst h
    try simp
    by_cases h : xid = yid
    · subst h
      try simp
    · simp [h]
  · simp [h]
theorem eql31 (xokind xoa xob yokind yoa yob : Int) (xoname yoname : List UInt8) (w : World) : Sem.run Try.prog (binOp .eql 31 (.agg #[.int .i64 xokind, .string ⟨xoname.toArray⟩, .int .i64 xoa, .int .i64 xob]) (.agg #[.int .i64 yokind, .string ⟨yoname.toArray⟩, .int .i64 yoa, .int .i64 yob])) w = .ok (.bool ((xokind == yokind && xoname == yoname && xoa == yoa && xob == yob))) w := by
  simp [go_sem]
  by_cases h : xokind = yokind
  · subst h
    try simp
    by_cases h : xoname = yoname
    · subst h
      try simp
      by_cases h : xoa = yoa
      · subst h
        try simp
        by_cases h : xob = yob
        · subst h
          try simp
        · simp [h]
      · simp [h]
    · simp [h]
  · simp [h]
end Go.Proofs.Ytfgnlfemckdfnaa
namespace Go.Proofs.Ytfgnlfemckdfnaa
open Go.RowKit Go.PlainAid
set_option linter.unusedSimpArgs false
set_option linter.unusedVariables false
section
variable {ops : Array Oper} {Q : Exit → Act → World → Prop} {a : Act} {w : World} {rest : List Oper} {f : Nat → Value} {N : Nat}
theorem ck0 {d : Nat} {o1 o2 o3 o4 o5 : Oper} (hF : Fr N a f) (r : Bool) {X Y : Value} (u1 u2 u3 u4 : Value)
    (h2 : f 2 = X) (h3 : f 3 = Y) (hd : d + 4 < N) (h3d : 3 < d)
    (e1 : o1.dst = some d) (e2 : o2.dst = some (d + 1)) (e3 : o3.dst = some (d + 2)) (e4 : o4.dst = some (d + 3)) (e5 : o5.dst = some (d + 4))
    (q1 : o1.guard = none) (q2 : o2.guard = none) (q3 : o3.guard = none) (q4 : o4.guard = none) (q5 : o5.guard = none)
    (r1 : ∀ ev : Operand → Value, ev (.tmp 2) = X → (execOp ev o1).run Try.prog w = .ok (.value u1) w)
    (r2 : ∀ ev : Operand → Value, ev (.tmp d) = u1 → (execOp ev o2).run Try.prog w = .ok (.value u2) w)
    (r3 : ∀ ev : Operand → Value, ev (.tmp 3) = Y → (execOp ev o3).run Try.prog w = .ok (.value u3) w)
    (r4 : ∀ ev : Operand → Value, ev (.tmp (d + 2)) = u3 → (execOp ev o4).run Try.prog w = .ok (.value u4) w)
    (r5 : ∀ ev : Operand → Value, ev (.tmp (d + 1)) = u2 → ev (.tmp (d + 3)) = u4 → (execOp ev o5).run Try.prog w = .ok (.value (.bool r)) w)
    (h : ∀ a' f', Fr N a' f' → f' 2 = X → f' 3 = Y → f' (d + 4) = .bool r → wpList Try.prog ops Q rest a' w) :
    wpList Try.prog ops Q (o1 :: o2 :: o3 :: o4 :: o5 :: rest) a w := by
  refine sy hF e1 (by omega) (wanted_none q1) (r1 _ ((hF.eval 2 (by omega)).trans h2)) fun a1 F1 => ?_
  refine sy F1 e2 (by omega) (wanted_none q2) (r2 _ ((F1.eval d (by omega)).trans (upd_eq _ _ _))) fun a2 F2 => ?_
  refine sy F2 e3 (by omega) (wanted_none q3) (r3 _ ((F2.eval 3 (by omega)).trans (by rw [upd_ne _ _ (by omega), upd_ne _ _ (by omega)]; exact h3))) fun a3 F3 => ?_
  refine sy F3 e4 (by omega) (wanted_none q4) (r4 _ ((F3.eval (d + 2) (by omega)).trans (upd_eq _ _ _))) fun a4 F4 => ?_
  refine sy F4 e5 (by omega) (wanted_none q5)
      (r5 _ ((F4.eval (d + 1) (by omega)).trans (by rw [upd_ne _ _ (by omega), upd_ne _ _ (by omega), upd_eq])) ((F4.eval (d + 3) (by omega)).trans (upd_eq _ _ _))) fun a5 F5 => ?_
  refine h _ _ F5 ?_ ?_ (upd_eq _ _ _)
  · simp only [upd_ne _ _ (show 2 ≠ d + 4 by omega), upd_ne _ _ (show 2 ≠ d + 3 by omega), upd_ne _ _ (show 2 ≠ d + 2 by omega), upd_ne _ _ (show 2 ≠ d + 1 by omega), upd_ne _ _ (show 2 ≠ d by omega)]; exact h2
  · simp only [upd_ne _ _ (show 3 ≠ d + 4 by omega), upd_ne _ _ (show 3 ≠ d + 3 by omega), upd_ne _ _ (show 3 ≠ d + 2 by omega), upd_ne _ _ (show 3 ≠ d + 1 by omega), upd_ne _ _ (show 3 ≠ d by omega)]; exact h3
theorem sc' {o : Oper} {d : Nat} {Post : Ending → World → Prop} (hF : Fr N a f) (hd : o.dst = some d) (hN : d < N) (hw : Region.wanted o (yielded ops a.tmps) = true) {k : Nat} {args : Array Value} (hr : (execOp a.eval o).run Try.prog w = .ok (.enter k args) w) (hc : Calls Try.prog k args w Post)
    (h : ∀ e w', Post e w' → ∃ v, e = .returned v ∧ ∀ a', Fr N a' (upd f d v) → wpList Try.prog ops Q rest a' w') : wpList Try.prog ops Q (o :: rest) a w :=
  wpList_step fun K hK => by
    rw [if_pos hw]
    unfold Oper.wp
    rw [hr]
    refine hc.mono ?_
    intro e w' hp
    obtain ⟨v, rfl, h'⟩ := h e w' hp
    exact hK _ _ (by rw [hd]; exact h' _ (hF.put d v hN))
end
def ne1 (x y : Msg) : Bool := ((((((x.kind != y.kind) || (x.name != y.name)) || (x.cap != y.cap)) || (x.recaps != y.recaps)) || (!(x.round == y.round && x.rank == y.rank))) || (!(x.oround == y.oround && x.orank == y.orank)))
def eq3 (x y : Msg) : Bool := (((((((x.down == y.down && x.up == y.up)) && (x.held == y.held)) && ((x.session == y.session && x.id == y.id))) && ((x.okind == y.okind && x.oname == y.oname && x.oa == y.oa && x.ob == y.ob))) && (x.err == y.err)) && (x.value == y.value))
def sameB (x y : Msg) : Bool := !ne1 x y && viewsB x.views y.views && eq3 x y
theorem sameB_iff (x y : Msg) : sameB x y = true ↔ x = y := by
  cases x; cases y
  simp only [sameB, ne1, eq3, Bool.and_eq_true, Bool.not_eq_true', Bool.or_eq_false_iff, bne_eq_false_iff_eq, beq_iff_eq, viewsB_iff, Msg.mk.injEq, Bool.not_eq_false']
  exact ⟨fun h => by simp_all, fun h => by simp_all⟩
theorem run_box' (cs : Array Value) (w : World) : (Instr.box 35 (.agg cs)).run Try.prog w = .ok (.pointer (some ⟨w.heap.size, 0, none⟩)) (w.alloc (.cells cs 35)) := by
  simp [go_sem]
set_option maxRecDepth 100000 in
set_option maxHeartbeats 1600000 in
theorem same_any (x y : Msg) (ao bo : Option Addr) (ca cb : Nat) (w : World) (hx : VFrom w ao x.views) (hy : VFrom w bo y.views) (hxb : ∀ b o, ao = some ⟨b, o, none⟩ → 0 < x.views.length → b < w.heap.size) (hyb : ∀ b o, bo = some ⟨b, o, none⟩ → 0 < y.views.length → b < w.heap.size) (hnb : x.views.length ≤ 140000000000000) :
    Calls Try.prog 13 #[.agg (msgCells x (.slice ao x.views.length ca)), .agg (msgCells y (.slice bo y.views.length cb))] w (fun e w' => e = .returned (.bool (sameB x y)) ∧ Below w.heap.size w w') := by
  refine calls_of_wp Try.func13 rfl ?_
  generalize hDx : msgCells x (.slice ao x.views.length ca) = Dx
  generalize hDy : msgCells y (.slice bo y.views.length cb) = Dy
  have e : Try.f13.ntmps - (#[Value.agg Dx, .agg Dy] : Array Value).size = 91 := by rw [Try.ntmps13]; rfl
  rw [e]
  have hF := frame_init (.agg Dx) (.agg Dy) 91
  generalize ({ tmps := #[Value.agg Dx, .agg Dy] ++ Array.replicate 91 undef, defers := [] } : Act) = a at *
  have hbl : Below w.heap.size w ((w.alloc (.cells Dx 35)).alloc (.cells Dy 35)) := by go_grown
  have hX : Blk ((w.alloc (.cells Dx 35)).alloc (.cells Dy 35)) w.heap.size Dx 35 := (Below.heap_alloc _ _ _ (by simp)).trans (heap_alloc_new w _)
  have hY : Blk ((w.alloc (.cells Dx 35)).alloc (.cells Dy 35)) (w.heap.size + 1) Dy 35 := by
    have := heap_alloc_new (w.alloc (.cells Dx 35)) (.cells Dy 35)
    rw [World.size_alloc] at this
    exact this
  have hx' := hx.keep fun b o e h0 => hbl.block b (hxb b o e h0)
  have hy' := hy.keep fun b o e h0 => hbl.block b (hyb b o e h0)
  refine wp_seq ?_
  refine wp_region_list ?_
  refine sw hF rfl (by omega) (wanted_none rfl) (v := .pointer (some ⟨w.heap.size, 0, none⟩)) (w' := w.alloc (.cells Dx 35)) (by simp only [execOp, hF.eval 0 (by omega), if_true, Sem.run_bind, run_box']; rfl) fun a1 hF1 => ?_
  have h11 : a1.eval (.tmp 1) = .agg Dy := (hF1.eval 1 (by omega)).trans (by simp [upd])
  refine sw hF1 rfl (by omega) (wanted_none rfl) (v := .pointer (some ⟨w.heap.size + 1, 0, none⟩)) (w' := (w.alloc (.cells Dx 35)).alloc (.cells Dy 35)) (by simp only [execOp, h11, Sem.run_bind, run_box', World.size_alloc]; rfl) fun a2 hF2 => ?_
  refine sy hF2 rfl (by omega) (wanted_none rfl) (v := .bool false) (by simp [execOp, Act.eval]) fun a3 hF3 => ?_
  refine wpList_nil ?_
  generalize (w.alloc (.cells Dx 35)).alloc (.cells Dy 35) = W at *
  generalize hL : w.heap.size = L at *
  have h2 : (upd (upd (upd (fun j => if j = 0 then Value.agg Dx else if j = 1 then .agg Dy else undef) 2 (.pointer (some ⟨L, 0, none⟩))) 3 (.pointer (some ⟨L + 1, 0, none⟩))) 4 (.bool false)) 2 = .pointer (some ⟨L, 0, none⟩) := by simp [upd]
  have h3 : (upd (upd (upd (fun j => if j = 0 then Value.agg Dx else if j = 1 then .agg Dy else undef) 2 (.pointer (some ⟨L, 0, none⟩))) 3 (.pointer (some ⟨L + 1, 0, none⟩))) 4 (.bool false)) 3 = .pointer (some ⟨L + 1, 0, none⟩) := by simp [upd]
  generalize upd (upd (upd (fun j => if j = 0 then Value.agg Dx else if j = 1 then .agg Dy else undef) 2 (.pointer (some ⟨L, 0, none⟩))) 3 (.pointer (some ⟨L + 1, 0, none⟩))) 4 (.bool false) = f at *
  clear hF hF1 hF2 h11
  have hF := hF3
  clear hF3
  subst hDx hDy
  have x0 : W.cell? ⟨L, 0, none⟩ = some (.int .i64 x.kind) := (hX.cell 0).trans rfl
  have y0 : W.cell? ⟨L + 1, 0, none⟩ = some (.int .i64 y.kind) := (hY.cell 0).trans rfl
  have x1 : W.cell? ⟨L, 1, none⟩ = some (.string ⟨x.name.toArray⟩) := (hX.cell 1).trans rfl
  have y1 : W.cell? ⟨L + 1, 1, none⟩ = some (.string ⟨y.name.toArray⟩) := (hY.cell 1).trans rfl
  have x2 : W.cell? ⟨L, 2, none⟩ = some (.int .i64 x.cap) := (hX.cell 2).trans rfl
  have y2 : W.cell? ⟨L + 1, 2, none⟩ = some (.int .i64 y.cap) := (hY.cell 2).trans rfl
  have x3 : W.cell? ⟨L, 3, none⟩ = some (.int .i64 x.recaps) := (hX.cell 3).trans rfl
  have y3 : W.cell? ⟨L + 1, 3, none⟩ = some (.int .i64 y.recaps) := (hY.cell 3).trans rfl
  have x4 : W.cell? ⟨L, 4, none⟩ = some (.int .i64 x.round) := (hX.cell 4).trans rfl
  have y4 : W.cell? ⟨L + 1, 4, none⟩ = some (.int .i64 y.round) := (hY.cell 4).trans rfl
  have x5 : W.cell? ⟨L, 5, none⟩ = some (.int .i64 x.rank) := (hX.cell 5).trans rfl
  have y5 : W.cell? ⟨L + 1, 5, none⟩ = some (.int .i64 y.rank) := (hY.cell 5).trans rfl
  have x6 : W.cell? ⟨L, 6, none⟩ = some (.int .i64 x.oround) := (hX.cell 6).trans rfl
  have y6 : W.cell? ⟨L + 1, 6, none⟩ = some (.int .i64 y.oround) := (hY.cell 6).trans rfl
  have x7 : W.cell? ⟨L, 7, none⟩ = some (.int .i64 x.orank) := (hX.cell 7).trans rfl
  have y7 : W.cell? ⟨L + 1, 7, none⟩ = some (.int .i64 y.orank) := (hY.cell 7).trans rfl
  have x8 : W.cell? ⟨L, 8, none⟩ = some (.int .i64 x.down) := (hX.cell 8).trans rfl
  have y8 : W.cell? ⟨L + 1, 8, none⟩ = some (.int .i64 y.down) := (hY.cell 8).trans rfl
  have x9 : W.cell? ⟨L, 9, none⟩ = some (.int .i64 x.up) := (hX.cell 9).trans rfl
  have y9 : W.cell? ⟨L + 1, 9, none⟩ = some (.int .i64 y.up) := (hY.cell 9).trans rfl
  have x10 : W.cell? ⟨L, 10, none⟩ = some (.int .i64 x.held) := (hX.cell 10).trans rfl
  have y10 : W.cell? ⟨L + 1, 10, none⟩ = some (.int .i64 y.held) := (hY.cell 10).trans rfl
  have x11 : W.cell? ⟨L, 11, none⟩ = some (.int .i64 x.session) := (hX.cell 11).trans rfl
  have y11 : W.cell? ⟨L + 1, 11, none⟩ = some (.int .i64 y.session) := (hY.cell 11).trans rfl
  have x12 : W.cell? ⟨L, 12, none⟩ = some (.int .i64 x.id) := (hX.cell 12).trans rfl
  have y12 : W.cell? ⟨L + 1, 12, none⟩ = some (.int .i64 y.id) := (hY.cell 12).trans rfl
  have x13 : W.cell? ⟨L, 13, none⟩ = some (.int .i64 x.okind) := (hX.cell 13).trans rfl
  have y13 : W.cell? ⟨L + 1, 13, none⟩ = some (.int .i64 y.okind) := (hY.cell 13).trans rfl
  have x14 : W.cell? ⟨L, 14, none⟩ = some (.string ⟨x.oname.toArray⟩) := (hX.cell 14).trans rfl
  have y14 : W.cell? ⟨L + 1, 14, none⟩ = some (.string ⟨y.oname.toArray⟩) := (hY.cell 14).trans rfl
  have x15 : W.cell? ⟨L, 15, none⟩ = some (.int .i64 x.oa) := (hX.cell 15).trans rfl
  have y15 : W.cell? ⟨L + 1, 15, none⟩ = some (.int .i64 y.oa) := (hY.cell 15).trans rfl
  have x16 : W.cell? ⟨L, 16, none⟩ = some (.int .i64 x.ob) := (hX.cell 16).trans rfl
  have y16 : W.cell? ⟨L + 1, 16, none⟩ = some (.int .i64 y.ob) := (hY.cell 16).trans rfl
  have x17 : W.cell? ⟨L, 17, none⟩ = some (.int .i64 x.err) := (hX.cell 17).trans rfl
  have y17 : W.cell? ⟨L + 1, 17, none⟩ = some (.int .i64 y.err) := (hY.cell 17).trans rfl
  have x18 : W.cell? ⟨L, 18, none⟩ = some (.int .i64 x.value) := (hX.cell 18).trans rfl
  have y18 : W.cell? ⟨L + 1, 18, none⟩ = some (.int .i64 y.value) := (hY.cell 18).trans rfl
  have x19 : W.cell? ⟨L, 19, none⟩ = some (.slice ao x.views.length ca) := (hX.cell 19).trans rfl
  have y19 : W.cell? ⟨L + 1, 19, none⟩ = some (.slice bo y.views.length cb) := (hY.cell 19).trans rfl
  show Code.wp _ _ _ _ _
  refine wp_seq ?_
  refine wp_seq ?_
  refine wp_region_list ?_
  refine ck0 (d := 5) hF (x.kind != y.kind) (.pointer (some ⟨L, 0, none⟩)) (.int .i64 x.kind) (.pointer (some ⟨L + 1, 0, none⟩)) (.int .i64 y.kind) h2 h3 (by omega) (by omega) rfl rfl rfl rfl rfl rfl rfl rfl rfl rfl (fun ev h => by simp only [execOp, h]; simp [go_sem]) (fun ev h => by simp only [execOp, h]; simp [go_sem, x0]) (fun ev h => by simp only [execOp, h]; simp [go_sem]) (fun ev h => by simp only [execOp, h]; simp [go_sem, y0]) (fun ev h h' => by simp only [execOp, h, h']; simp [go_sem, bne]) ?_
  intro a f hF h2 h3 hp
  refine mv (d := 10) (p := 9) hF h2 h3 hp (by omega) (by omega) (by omega) rfl rfl rfl ?_
  intro a f hF h2 h3 hp
  refine ck false (d := 11) (p := 10) (g := 5) hF (x.name != y.name) (.pointer (some ⟨L, 1, none⟩)) (.string ⟨x.name.toArray⟩) (.pointer (some ⟨L + 1, 1, none⟩)) (.string ⟨y.name.toArray⟩) h2 h3 hp rfl (by omega) (by omega) (by omega) rfl rfl rfl rfl rfl rfl rfl rfl rfl rfl rfl rfl (fun ev h => by simp only [execOp, h]; simp [go_sem]) (fun ev h => by simp only [execOp, h]; simp [go_sem, x1]) (fun ev h => by simp only [execOp, h]; simp [go_sem]) (fun ev h => by simp only [execOp, h]; simp [go_sem, y1]) (fun ev h h' => by simp only [execOp, h, h']; simp [go_sem, bne]) rfl ?_
  intro a f hF h2 h3 hp
  refine mv (d := 17) (p := 16) hF h2 h3 hp (by omega) (by omega) (by omega) rfl rfl rfl ?_
  intro a f hF h2 h3 hp
  refine ck false (d := 18) (p := 17) (g := 12) hF (x.cap != y.cap) (.pointer (some ⟨L, 2, none⟩)) (.int .i64 x.cap) (.pointer (some ⟨L + 1, 2, none⟩)) (.int .i64 y.cap) h2 h3 hp rfl (by omega) (by omega) (by omega) rfl rfl rfl rfl rfl rfl rfl rfl rfl rfl rfl rfl (fun ev h => by simp only [execOp, h]; simp [go_sem]) (fun ev h => by simp only [execOp, h]; simp [go_sem, x2]) (fun ev h => by simp only [execOp, h]; simp [go_sem]) (fun ev h => by simp only [execOp, h]; simp [go_sem, y2]) (fun ev h h' => by simp only [execOp, h, h']; simp [go_sem, bne]) rfl ?_
  intro a f hF h2 h3 hp
  refine mv (d := 24) (p := 23) hF h2 h3 hp (by omega) (by omega) (by omega) rfl rfl rfl ?_
  intro a f hF h2 h3 hp
  refine ck false (d := 25) (p := 24) (g := 19) hF (x.recaps != y.recaps) (.pointer (some ⟨L, 3, none⟩)) (.int .i64 x.recaps) (.pointer (some ⟨L + 1, 3, none⟩)) (.int .i64 y.recaps) h2 h3 hp rfl (by omega) (by omega) (by omega) rfl rfl rfl rfl rfl rfl rfl rfl rfl rfl rfl rfl (fun ev h => by simp only [execOp, h]; simp [go_sem]) (fun ev h => by simp only [execOp, h]; simp [go_sem, x3]) (fun ev h => by simp only [execOp, h]; simp [go_sem]) (fun ev h => by simp only [execOp, h]; simp [go_sem, y3]) (fun ev h h' => by simp only [execOp, h, h']; simp [go_sem, bne]) rfl ?_
  intro a f hF h2 h3 hp
  refine mv (d := 31) (p := 30) hF h2 h3 hp (by omega) (by omega) (by omega) rfl rfl rfl ?_
  intro a f hF h2 h3 hp
  refine ck false (d := 32) (p := 31) (g := 26) hF (!(x.round == y.round && x.rank == y.rank)) (.pointer (some ⟨L, 4, none⟩)) (.agg #[.int .i64 x.round, .int .i64 x.rank]) (.pointer (some ⟨L + 1, 4, none⟩)) (.agg #[.int .i64 y.round, .int .i64 y.rank]) h2 h3 hp rfl (by omega) (by omega) (by omega) rfl rfl rfl rfl rfl rfl rfl rfl rfl rfl rfl rfl (fun ev h => by simp only [execOp, h]; simp [go_sem]) (fun ev h => by simp only [execOp, h]; simp [go_sem, x4, x5]) (fun ev h => by simp only [execOp, h]; simp [go_sem]) (fun ev h => by simp only [execOp, h]; simp [go_sem, y4, y5]) (fun ev h h' => by simp only [execOp, h, h', Sem.run_bind, neq25]; simp [go_sem]) rfl ?_
  intro a f hF h2 h3 hp
  refine mv (d := 38) (p := 37) hF h2 h3 hp (by omega) (by omega) (by omega) rfl rfl rfl ?_
  intro a f hF h2 h3 hp
  refine ck false (d := 39) (p := 38) (g := 33) hF (!(x.oround == y.oround && x.orank == y.orank)) (.pointer (some ⟨L, 6, none⟩)) (.agg #[.int .i64 x.oround, .int .i64 x.orank]) (.pointer (some ⟨L + 1, 6, none⟩)) (.agg #[.int .i64 y.oround, .int .i64 y.orank]) h2 h3 hp rfl (by omega) (by omega) (by omega) rfl rfl rfl rfl rfl rfl rfl rfl rfl rfl rfl rfl (fun ev h => by simp only [execOp, h]; simp [go_sem]) (fun ev h => by simp only [execOp, h]; simp [go_sem, x6, x7]) (fun ev h => by simp only [execOp, h]; simp [go_sem]) (fun ev h => by simp only [execOp, h]; simp [go_sem, y6, y7]) (fun ev h h' => by simp only [execOp, h, h', Sem.run_bind, neq25]; simp [go_sem]) rfl ?_
  intro a f hF h2 h3 hp
  refine mv (d := 45) (p := 44) hF h2 h3 hp (by omega) (by omega) (by omega) rfl rfl rfl ?_
  intro a f hF h2 h3 hp
  have hp1 : f 45 = .bool (ne1 x y) := hp
  clear hp
  cases hn : ne1 x y with
  | true =>
    rw [hn] at hp1
    refine sn hF rfl (by omega) (by rw [wanted_some rfl, hF.yields (d := 45) rfl (by omega) (b := true) (by simp [upd, hp1])]; rfl) fun a0 G0 => ?_
    refine sn G0 rfl (by omega) (by rw [wanted_some rfl, G0.yields (d := 45) rfl (by omega) (b := true) (by simp [upd, hp1])]; rfl) fun a1 G1 => ?_
    refine sn G1 rfl (by omega) (by rw [wanted_some rfl, G1.yields (d := 45) rfl (by omega) (b := true) (by simp [upd, hp1])]; rfl) fun a2 G2 => ?_
    refine sn G2 rfl (by omega) (by rw [wanted_some rfl, G2.yields (d := 45) rfl (by omega) (b := true) (by simp [upd, hp1])]; rfl) fun a3 G3 => ?_
    refine sn G3 rfl (by omega) (by rw [wanted_some rfl, G3.yields (d := 45) rfl (by omega) (b := true) (by simp [upd, hp1])]; rfl) fun a4 G4 => ?_
    refine sn G4 rfl (by omega) (by rw [wanted_some rfl, G4.yields (d := 45) rfl (by omega) (b := true) (by simp [upd, hp1])]; rfl) fun a5 G5 => ?_
    refine sy G5 rfl (by omega) (wanted_none rfl) (v := .bool true) (pick_run _ rfl (P := true) ((G5.eval 45 (by omega)).trans (by simp [upd, hp1])) W rfl) fun a7 G7 => ?_
    refine wpList_nil ?_
    show Code.wp _ _ _ _ _
    refine wp_cond_true ((G7.eval 52 (by omega)).trans (by simp [upd])) ?_
    refine wp_seq ?_
    refine wp_region_list ?_
    refine sy G7 rfl (by omega) (wanted_none rfl) (v := .bool false) (by simp [execOp, Act.eval]) fun a8 G8 => ?_
    refine wpList_nil ?_
    show Code.wp _ _ _ _ _
    refine wp_ret ?_
    have h4 : a8.tmps.getD 4 undef = .bool (false) := by
      have := G8.eval 4 (by omega)
      simpa [Act.eval, upd] using this
    try simp only [Exit.then]
    refine bodyPost_ret (results_tmp Try.results13 _ _ _) G8.defers ?_
    exact ⟨by rw [h4]; simp [sameB, hn], hbl⟩
  | false =>
    rw [hn] at hp1
    refine sy hF rfl (by omega) (by rw [wanted_some rfl, hF.yields (d := 45) rfl (by omega) (b := false) (by simp [upd, hp1])]; rfl) (v := .pointer (some ⟨L, 19, none⟩)) (by simp only [execOp, hF.eval 2 (by omega), h2]; simp [go_sem]) fun a0 G0 => ?_
    refine sy G0 rfl (by omega) (by rw [wanted_some rfl, G0.yields (d := 45) rfl (by omega) (b := false) (by simp [upd, hp1])]; rfl) (v := .slice ao x.views.length ca) (by simp only [execOp, (G0.eval 46 (by omega)).trans (upd_eq _ _ _)]; simp [go_sem, x19]) fun a1 G1 => ?_
    refine sy G1 rfl (by omega) (by rw [wanted_some rfl, G1.yields (d := 45) rfl (by omega) (b := false) (by simp [upd, hp1])]; rfl) (v := .pointer (some ⟨L + 1, 19, none⟩)) (by simp only [execOp, (G1.eval 3 (by omega)).trans (show _ = Value.pointer (some ⟨L + 1, 0, none⟩) from by simp [upd, h3])]; simp [go_sem]) fun a2 G2 => ?_
    refine sy G2 rfl (by omega) (by rw [wanted_some rfl, G2.yields (d := 45) rfl (by omega) (b := false) (by simp [upd, hp1])]; rfl) (v := .slice bo y.views.length cb) (by simp only [execOp, (G2.eval 48 (by omega)).trans (upd_eq _ _ _)]; simp [go_sem, y19]) fun a3 G3 => ?_
    refine sc' G3 rfl (by omega) (by rw [wanted_some rfl, G3.yields (d := 45) rfl (by omega) (b := false) (by simp [upd, hp1])]; rfl) (k := 33) (args := #[.slice ao x.views.length ca, .slice bo y.views.length cb]) (by simp only [execOp, resolve, invoke, List.map_toArray, List.map_cons, List.map_nil, (G3.eval 47 (by omega)).trans (show _ = Value.slice ao x.views.length ca from by simp [upd]), (G3.eval 49 (by omega)).trans (upd_eq _ _ _)]; simp [go_sem, Act.eval]) (sameViews_any ao bo _ _ ca cb x.views y.views W rfl rfl hx' hy' hnb) ?_
    rintro e W' ⟨rfl, hD⟩
    refine ⟨_, rfl, fun a4 G4 => ?_⟩
    have k : ∀ a : Addr, W'.cell? a = W.cell? a := fun a => World.cell?_of_block (w := W) (by rw [hD.heap])
    have hbl' : Below L w W' := hbl.trans (hD.below.mono (by have := hbl.size; omega))
    cases hv : viewsB x.views y.views
    · rw [hv] at G4
      refine sy G4 rfl (by omega) (by rw [wanted_some rfl, G4.yields (d := 45) rfl (by omega) (b := false) (by simp [upd, hp1])]; rfl) (v := .bool true) (by simp only [execOp, (G4.eval 50 (by omega)).trans (upd_eq _ _ _)]; simp [go_sem]) fun a5 G5 => ?_
      refine sy G5 rfl (by omega) (wanted_none rfl) (v := .bool true) (pick_run _ rfl (P := false) ((G5.eval 45 (by omega)).trans (by simp [upd, hp1])) W' (by rw [if_neg (by decide)]; exact (G5.eval 51 (by omega)).trans (upd_eq _ _ _))) fun a7 G7 => ?_
      refine wpList_nil ?_
      show Code.wp _ _ _ _ _
      refine wp_cond_true ((G7.eval 52 (by omega)).trans (by simp [upd])) ?_
      refine wp_seq ?_
      refine wp_region_list ?_
      refine sy G7 rfl (by omega) (wanted_none rfl) (v := .bool false) (by simp [execOp, Act.eval]) fun a8 G8 => ?_
      refine wpList_nil ?_
      show Code.wp _ _ _ _ _
      refine wp_ret ?_
      have h4 : a8.tmps.getD 4 undef = .bool (false) := by
        have := G8.eval 4 (by omega)
        simpa [Act.eval, upd] using this
      try simp only [Exit.then]
      refine bodyPost_ret (results_tmp Try.results13 _ _ _) G8.defers ?_
      exact ⟨by rw [h4]; simp [sameB, hv], hbl'⟩
    · rw [hv] at G4
      refine sy G4 rfl (by omega) (by rw [wanted_some rfl, G4.yields (d := 45) rfl (by omega) (b := false) (by simp [upd, hp1])]; rfl) (v := .bool false) (by simp only [execOp, (G4.eval 50 (by omega)).trans (upd_eq _ _ _)]; simp [go_sem]) fun a5 G5 => ?_
      refine sy G5 rfl (by omega) (wanted_none rfl) (v := .bool false) (pick_run _ rfl (P := false) ((G5.eval 45 (by omega)).trans (by simp [upd, hp1])) W' (by rw [if_neg (by decide)]; exact (G5.eval 51 (by omega)).trans (upd_eq _ _ _))) fun a7 G7 => ?_
      refine wpList_nil ?_
      show Code.wp _ _ _ _ _
      refine wp_cond_false ((G7.eval 52 (by omega)).trans (by simp [upd])) ?_
      refine wp_skip ?_
      show Code.wp _ _ _ _ _
      have h2' := h2
      have h3' := h3
      clear h2 h3
      have h2 := (upd_ne (upd (upd (upd (upd (upd (upd f 46 (.pointer (some ⟨L, 19, none⟩))) 47 (.slice ao x.views.length ca)) 48 (.pointer (some ⟨L + 1, 19, none⟩))) 49 (.slice bo y.views.length cb)) 50 (.bool true)) 51 (.bool false)) (.bool false) (show 2 ≠ 52 from by omega)).trans (show _ = Value.pointer (some ⟨L, 0, none⟩) from by simp [upd, h2'])
      have h3 := (upd_ne (upd (upd (upd (upd (upd (upd f 46 (.pointer (some ⟨L, 19, none⟩))) 47 (.slice ao x.views.length ca)) 48 (.pointer (some ⟨L + 1, 19, none⟩))) 49 (.slice bo y.views.length cb)) 50 (.bool true)) 51 (.bool false)) (.bool false) (show 3 ≠ 52 from by omega)).trans (show _ = Value.pointer (some ⟨L + 1, 0, none⟩) from by simp [upd, h3'])
      generalize upd (upd (upd (upd (upd (upd (upd f 46 (.pointer (some ⟨L, 19, none⟩))) 47 (.slice ao x.views.length ca)) 48 (.pointer (some ⟨L + 1, 19, none⟩))) 49 (.slice bo y.views.length cb)) 50 (.bool true)) 51 (.bool false)) 52 (.bool false) = f' at *
      have hF := G7
      clear G0 G1 G2 G3 G4 G5 G7 h2' h3'
      rw [← k] at x8 y8 x9 y9 x10 y10 x11 y11 x12 y12 x13 y13 x14 y14 x15 y15 x16 y16 x17 y17 x18 y18
      refine wp_seq ?_
      refine wp_region_list ?_
      refine ck0 (d := 53) hF ((x.down == y.down && x.up == y.up)) (.pointer (some ⟨L, 8, none⟩)) (.agg #[.int .i64 x.down, .int .i64 x.up]) (.pointer (some ⟨L + 1, 8, none⟩)) (.agg #[.int .i64 y.down, .int .i64 y.up]) h2 h3 (by omega) (by omega) rfl rfl rfl rfl rfl rfl rfl rfl rfl rfl (fun ev h => by simp only [execOp, h]; simp [go_sem]) (fun ev h => by simp only [execOp, h]; simp [go_sem, x8, x9]) (fun ev h => by simp only [execOp, h]; simp [go_sem]) (fun ev h => by simp only [execOp, h]; simp [go_sem, y8, y9]) (fun ev h h' => by simp only [execOp, h, h', Sem.run_bind, eql27]; simp [go_sem]) ?_
      intro a f hF h2 h3 hp
      refine mv (d := 58) (p := 57) hF h2 h3 hp (by omega) (by omega) (by omega) rfl rfl rfl ?_
      intro a f hF h2 h3 hp
      refine ck true (d := 59) (p := 58) (g := 5) hF (x.held == y.held) (.pointer (some ⟨L, 10, none⟩)) (.int .i64 x.held) (.pointer (some ⟨L + 1, 10, none⟩)) (.int .i64 y.held) h2 h3 hp rfl (by omega) (by omega) (by omega) rfl rfl rfl rfl rfl rfl rfl rfl rfl rfl rfl rfl (fun ev h => by simp only [execOp, h]; simp [go_sem]) (fun ev h => by simp only [execOp, h]; simp [go_sem, x10]) (fun ev h => by simp only [execOp, h]; simp [go_sem]) (fun ev h => by simp only [execOp, h]; simp [go_sem, y10]) (fun ev h h' => by simp only [execOp, h, h']; simp [go_sem, bne]) rfl ?_
      intro a f hF h2 h3 hp
      refine mv (d := 65) (p := 64) hF h2 h3 hp (by omega) (by omega) (by omega) rfl rfl rfl ?_
      intro a f hF h2 h3 hp
      refine ck true (d := 66) (p := 65) (g := 12) hF ((x.session == y.session && x.id == y.id)) (.pointer (some ⟨L, 11, none⟩)) (.agg #[.int .i64 x.session, .int .i64 x.id]) (.pointer (some ⟨L + 1, 11, none⟩)) (.agg #[.int .i64 y.session, .int .i64 y.id]) h2 h3 hp rfl (by omega) (by omega) (by omega) rfl rfl rfl rfl rfl rfl rfl rfl rfl rfl rfl rfl (fun ev h => by simp only [execOp, h]; simp [go_sem]) (fun ev h => by simp only [execOp, h]; simp [go_sem, x11, x12]) (fun ev h => by simp only [execOp, h]; simp [go_sem]) (fun ev h => by simp only [execOp, h]; simp [go_sem, y11, y12]) (fun ev h h' => by simp only [execOp, h, h', Sem.run_bind, eql29]; simp [go_sem]) rfl ?_
      intro a f hF h2 h3 hp
      refine mv (d := 72) (p := 71) hF h2 h3 hp (by omega) (by omega) (by omega) rfl rfl rfl ?_
      intro a f hF h2 h3 hp
      refine ck true (d := 73) (p := 72) (g := 19) hF ((x.okind == y.okind && x.oname == y.oname && x.oa == y.oa && x.ob == y.ob)) (.pointer (some ⟨L, 13, none⟩)) (.agg #[.int .i64 x.okind, .string ⟨x.oname.toArray⟩, .int .i64 x.oa, .int .i64 x.ob]) (.pointer (some ⟨L + 1, 13, none⟩)) (.agg #[.int .i64 y.okind, .string ⟨y.oname.toArray⟩, .int .i64 y.oa, .int .i64 y.ob]) h2 h3 hp rfl (by omega) (by omega) (by omega) rfl rfl rfl rfl rfl rfl rfl rfl rfl rfl rfl rfl (fun ev h => by simp only [execOp, h]; simp [go_sem]) (fun ev h => by simp only [execOp, h]; simp [go_sem, x13, x14, x15, x16]) (fun ev h => by simp only [execOp, h]; simp [go_sem]) (fun ev h => by simp only [execOp, h]; simp [go_sem, y13, y14, y15, y16]) (fun ev h h' => by simp only [execOp, h, h', Sem.run_bind, eql31]; simp [go_sem]) rfl ?_
      intro a f hF h2 h3 hp
      refine mv (d := 79) (p := 78) hF h2 h3 hp (by omega) (by omega) (by omega) rfl rfl rfl ?_
      intro a f hF h2 h3 hp
      refine ck true (d := 80) (p := 79) (g := 26) hF (x.err == y.err) (.pointer (some ⟨L, 17, none⟩)) (.int .i64 x.err) (.pointer (some ⟨L + 1, 17, none⟩)) (.int .i64 y.err) h2 h3 hp rfl (by omega) (by omega) (by omega) rfl rfl rfl rfl rfl rfl rfl rfl rfl rfl rfl rfl (fun ev h => by simp only [execOp, h]; simp [go_sem]) (fun ev h => by simp only [execOp, h]; simp [go_sem, x17]) (fun ev h => by simp only [execOp, h]; simp [go_sem]) (fun ev h => by simp only [execOp, h]; simp [go_sem, y17]) (fun ev h h' => by simp only [execOp, h, h']; simp [go_sem, bne]) rfl ?_
      intro a f hF h2 h3 hp
      refine mv (d := 86) (p := 85) hF h2 h3 hp (by omega) (by omega) (by omega) rfl rfl rfl ?_
      intro a f hF h2 h3 hp
      refine ck true (d := 87) (p := 86) (g := 33) hF (x.value == y.value) (.pointer (some ⟨L, 18, none⟩)) (.int .i64 x.value) (.pointer (some ⟨L + 1, 18, none⟩)) (.int .i64 y.value) h2 h3 hp rfl (by omega) (by omega) (by omega) rfl rfl rfl rfl rfl rfl rfl rfl rfl rfl rfl rfl (fun ev h => by simp only [execOp, h]; simp [go_sem]) (fun ev h => by simp only [execOp, h]; simp [go_sem, x18]) (fun ev h => by simp only [execOp, h]; simp [go_sem]) (fun ev h => by simp only [execOp, h]; simp [go_sem, y18]) (fun ev h h' => by simp only [execOp, h, h']; simp [go_sem, bne]) rfl ?_
      intro a f hF h2 h3 hp
      have hp3 : f 92 = .bool (eq3 x y) := hp
      refine sy hF rfl (by omega) (wanted_none rfl) (v := .bool (eq3 x y)) (by simp only [execOp, hF.eval 92 (by omega), hp3]; rfl) fun a8 G8 => ?_
      refine wpList_nil ?_
      show Code.wp _ _ _ _ _
      refine wp_ret ?_
      have h4 : a8.tmps.getD 4 undef = .bool (eq3 x y) := by
        have := G8.eval 4 (by omega)
        simpa [Act.eval, upd] using this
      try simp only [Exit.then]
      refine bodyPost_ret (results_tmp Try.results13 _ _ _) G8.defers ?_
      exact ⟨by rw [h4]; simp [sameB, hn, hv], hbl'⟩
end Go.Proofs.Ytfgnlfemckdfnaa
