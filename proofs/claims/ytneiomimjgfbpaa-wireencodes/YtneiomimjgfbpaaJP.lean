import Derived.Test.YtneiomimjgfbpaaBare2
import Derived.Test.YtneiomimjgfbpaaJA
import Derived.Test.YtneiomimjgfbpaaFits
namespace Go.Proofs.Ytneiomimjgfbpaa
open Go.RowKit Go.PlainAid
set_option linter.unusedSimpArgs false
set_option linter.unusedVariables false
theorem upd_eq (f : Nat → Value) (d : Nat) (v : Value) : upd f d v d = v := by simp [upd]
theorem upd_ne (f : Nat → Value) {d j : Nat} (v : Value) (h : j ≠ d) : upd f d v j = f j := by simp [upd, h]
theorem pick_run (ev : Operand → Value) {o : Oper} {c x y : Operand} (r : o.op = .pick c x y) {P : Bool} (hc : ev c = .bool P) {v : Value} (w : World) (hv : (if P then ev x else ev y) = v) : (execOp ev o).run Try.prog w = .ok (.value v) w := by
  subst hv
  cases P <;> simp [execOp, r, hc, go_sem]
def comb (b P r : Bool) : Bool := if b then P && r else P || r
section
variable {ops : Array Oper} {Q : Exit → Act → World → Prop} {a : Act} {w : World} {rest : List Oper} {f : Nat → Value} {N : Nat}
theorem ck (b : Bool) {d p g : Nat} {o1 o2 o3 o4 o5 o6 : Oper} (hF : Fr N a f) {P : Bool} (r : Bool) {X Y : Value} (u1 u2 u3 u4 : Value)
    (h2 : f 2 = X) (h3 : f 3 = Y) (hp : f p = .bool P) (hg : (ops[g]?).bind (·.dst) = some p) (hd : d + 5 < N) (hpd : p < d) (h3d : 3 < d)
    (e1 : o1.dst = some d) (e2 : o2.dst = some (d + 1)) (e3 : o3.dst = some (d + 2)) (e4 : o4.dst = some (d + 3)) (e5 : o5.dst = some (d + 4)) (e6 : o6.dst = some (d + 5))
    (q1 : o1.guard = some (g, b)) (q2 : o2.guard = some (g, b)) (q3 : o3.guard = some (g, b)) (q4 : o4.guard = some (g, b)) (q5 : o5.guard = some (g, b)) (q6 : o6.guard = none)
    (r1 : ∀ ev : Operand → Value, ev (.tmp 2) = X → (execOp ev o1).run Try.prog w = .ok (.value u1) w)
    (r2 : ∀ ev : Operand → Value, ev (.tmp d) = u1 → (execOp ev o2).run Try.prog w = .ok (.value u2) w)
    (r3 : ∀ ev : Operand → Value, ev (.tmp 3) = Y → (execOp ev o3).run Try.prog w = .ok (.value u3) w)
    (r4 : ∀ ev : Operand → Value, ev (.tmp (d + 2)) = u3 → (execOp ev o4).run Try.prog w = .ok (.value u4) w)
    (r5 : ∀ ev : Operand → Value, ev (.tmp (d + 1)) = u2 → ev (.tmp (d + 3)) = u4 → (execOp ev o5).run Try.prog w = .ok (.value (.bool r)) w)
    (r6 : o6.op = if b then .pick (.tmp p) (.tmp (d + 4)) (.const (.bool false)) else .pick (.tmp p) (.const (.bool true)) (.tmp (d + 4)))
    (h : ∀ a' f', Fr N a' f' → f' 2 = X → f' 3 = Y → f' (d + 5) = .bool (comb b P r) → wpList Try.prog ops Q rest a' w) :
    wpList Try.prog ops Q (o1 :: o2 :: o3 :: o4 :: o5 :: o6 :: rest) a w := by
  by_cases hP : P = b
  · subst hP
    refine sy hF e1 (by omega) (by rw [wanted_some q1, hF.yields hg (by omega) hp]; simp) (r1 _ ((hF.eval 2 (by omega)).trans h2)) fun a1 F1 => ?_
    refine sy F1 e2 (by omega) (by rw [wanted_some q2, F1.yields hg (by omega) (by rw [upd_ne _ _ (by omega)]; exact hp)]; simp) (r2 _ ((F1.eval d (by omega)).trans (upd_eq _ _ _))) fun a2 F2 => ?_
    refine sy F2 e3 (by omega) (by rw [wanted_some q3, F2.yields hg (by omega) (by rw [upd_ne _ _ (by omega), upd_ne _ _ (by omega)]; exact hp)]; simp) (r3 _ ((F2.eval 3 (by omega)).trans (by rw [upd_ne _ _ (by omega), upd_ne _ _ (by omega)]; exact h3))) fun a3 F3 => ?_
    refine sy F3 e4 (by omega) (by rw [wanted_some q4, F3.yields hg (by omega) (by rw [upd_ne _ _ (by omega), upd_ne _ _ (by omega), upd_ne _ _ (by omega)]; exact hp)]; simp) (r4 _ ((F3.eval (d + 2) (by omega)).trans (upd_eq _ _ _))) fun a4 F4 => ?_
    refine sy F4 e5 (by omega) (by rw [wanted_some q5, F4.yields hg (by omega) (by rw [upd_ne _ _ (by omega), upd_ne _ _ (by omega), upd_ne _ _ (by omega), upd_ne _ _ (by omega)]; exact hp)]; simp)
      (r5 _ ((F4.eval (d + 1) (by omega)).trans (by rw [upd_ne _ _ (by omega), upd_ne _ _ (by omega), upd_eq])) ((F4.eval (d + 3) (by omega)).trans (upd_eq _ _ _))) fun a5 F5 => ?_
    have k1 : a5.eval (.tmp p) = .bool P := (F5.eval p (by omega)).trans (by rw [upd_ne _ _ (by omega), upd_ne _ _ (by omega), upd_ne _ _ (by omega), upd_ne _ _ (by omega), upd_ne _ _ (by omega)]; exact hp)
    have k2 : a5.eval (.tmp (d + 4)) = .bool r := (F5.eval (d + 4) (by omega)).trans (upd_eq _ _ _)
    refine sy F5 e6 (by omega) (wanted_none q6) (v := .bool (comb P P r)) (by cases P <;> exact pick_run _ r6 k1 w (by simp only [k2, comb]; rfl)) fun a6 F6 => ?_
    refine h _ _ F6 ?_ ?_ (upd_eq _ _ _)
    · simp only [upd_ne _ _ (show 2 ≠ d + 5 by omega), upd_ne _ _ (show 2 ≠ d + 4 by omega), upd_ne _ _ (show 2 ≠ d + 3 by omega), upd_ne _ _ (show 2 ≠ d + 2 by omega), upd_ne _ _ (show 2 ≠ d + 1 by omega), upd_ne _ _ (show 2 ≠ d by omega)]; exact h2
    · simp only [upd_ne _ _ (show 3 ≠ d + 5 by omega), upd_ne _ _ (show 3 ≠ d + 4 by omega), upd_ne _ _ (show 3 ≠ d + 3 by omega), upd_ne _ _ (show 3 ≠ d + 2 by omega), upd_ne _ _ (show 3 ≠ d + 1 by omega), upd_ne _ _ (show 3 ≠ d by omega)]; exact h3
  · have hn : (some P == some b) = false := by simpa using hP
    refine sn hF e1 (by omega) (by rw [wanted_some q1, hF.yields hg (by omega) hp, hn]) fun a1 F1 => ?_
    refine sn F1 e2 (by omega) (by rw [wanted_some q2, F1.yields hg (by omega) (by rw [upd_ne _ _ (by omega)]; exact hp), hn]) fun a2 F2 => ?_
    refine sn F2 e3 (by omega) (by rw [wanted_some q3, F2.yields hg (by omega) (by rw [upd_ne _ _ (by omega), upd_ne _ _ (by omega)]; exact hp), hn]) fun a3 F3 => ?_
    refine sn F3 e4 (by omega) (by rw [wanted_some q4, F3.yields hg (by omega) (by rw [upd_ne _ _ (by omega), upd_ne _ _ (by omega), upd_ne _ _ (by omega)]; exact hp), hn]) fun a4 F4 => ?_
    refine sn F4 e5 (by omega) (by rw [wanted_some q5, F4.yields hg (by omega) (by rw [upd_ne _ _ (by omega), upd_ne _ _ (by omega), upd_ne _ _ (by omega), upd_ne _ _ (by omega)]; exact hp), hn]) fun a5 F5 => ?_
    have k1 : a5.eval (.tmp p) = .bool P := (F5.eval p (by omega)).trans (by rw [upd_ne _ _ (by omega), upd_ne _ _ (by omega), upd_ne _ _ (by omega), upd_ne _ _ (by omega), upd_ne _ _ (by omega)]; exact hp)
    have hc : ∀ v, a5.eval (.const v) = v := fun _ => rfl
    refine sy F5 e6 (by omega) (wanted_none q6) (v := .bool (comb b P r)) (by cases b <;> cases P <;> first | exact absurd rfl hP | exact pick_run _ r6 k1 w rfl) fun a6 F6 => ?_
    refine h _ _ F6 ?_ ?_ (upd_eq _ _ _)
    · simp only [upd_ne _ _ (show 2 ≠ d + 5 by omega), upd_ne _ _ (show 2 ≠ d + 4 by omega), upd_ne _ _ (show 2 ≠ d + 3 by omega), upd_ne _ _ (show 2 ≠ d + 2 by omega), upd_ne _ _ (show 2 ≠ d + 1 by omega), upd_ne _ _ (show 2 ≠ d by omega)]; exact h2
    · simp only [upd_ne _ _ (show 3 ≠ d + 5 by omega), upd_ne _ _ (show 3 ≠ d + 4 by omega), upd_ne _ _ (show 3 ≠ d + 3 by omega), upd_ne _ _ (show 3 ≠ d + 2 by omega), upd_ne _ _ (show 3 ≠ d + 1 by omega), upd_ne _ _ (show 3 ≠ d by omega)]; exact h3
theorem mv {d p : Nat} {o : Oper} (hF : Fr N a f) {v X Y : Value} (h2 : f 2 = X) (h3 : f 3 = Y) (hp : f p = v) (hpN : p < N) (hd : d < N) (h3d : 3 < d) (e : o.dst = some d) (q : o.guard = none) (r : o.op = .move (.tmp p))
    (h : ∀ a' f', Fr N a' f' → f' 2 = X → f' 3 = Y → f' d = v → wpList Try.prog ops Q rest a' w) : wpList Try.prog ops Q (o :: rest) a w := by
  have k1 : a.eval (.tmp p) = v := (hF.eval p hpN).trans hp
  refine sy hF e hd (wanted_none q) (v := v) (by simp [execOp, r, k1]) fun a6 F6 => ?_
  exact h _ _ F6 (by rw [upd_ne _ _ (by omega)]; exact h2) (by rw [upd_ne _ _ (by omega)]; exact h3) (upd_eq _ _ _)
end
theorem neq25 (xround xrank yround yrank : Int) (w : World) : Sem.run Try.prog (binOp .neq 25 (.agg #[.int .i64 xround, .int .i64 xrank]) (.agg #[.int .i64 yround, .int .i64 yrank])) w = .ok (.bool (!(xround == yround && xrank == yrank))) w := by
  simp [go_sem]
  by_cases h : xround = yround
  · subst h
    try simp
    by_cases h : xrank = yrank
    · subst h
      try simp
    · simp [h]
  · simp [h]
theorem eql27 (xdown xup ydown yup : Int) (w : World) : Sem.run Try.prog (binOp .eql 27 (.agg #[.int .i64 xdown, .int .i64 xup]) (.agg #[.int .i64 ydown, .int .i64 yup])) w = .ok (.bool ((xdown == ydown && xup == yup))) w := by
  simp [go_sem]
  by_cases h : xdown = ydown
  · subst h
    try simp
    by_cases h : xup = yup
    · subst h
      try simp
    · simp [h]
  · simp [h]
theorem eql29 (xsession xid ysession yid : Int) (w : World) : Sem.run Try.prog (binOp .eql 29 (.agg #[.int .i64 xsession, .int .i64 xid]) (.agg #[.int .i64 ysession, .int .i64 yid])) w = .ok (.bool ((xsession == ysession && xid == yid))) w := by
  simp [go_sem]
  by_cases h : xsession = ysession
  · subst h
    try simp
    by_cases h : xid = yid
    · subst h
      try simp
    · simp [h]
  · simp [h]
theorem eql31 (xokind xoa xob yokind yoa yob : Int) (xoname yoname : List UInt8) (w : World) : Sem.run Try.prog (binOp .eql 31 (.agg #[.int .i64 xokind, .string ⟨xoname.toArray⟩, .int .i64 xoa, .int .i64 xob]) (.agg #[.int .i64 yokind, .string ⟨yoname.toArray⟩, .int .i64 yoa, .int .i64 yob])) w = .ok (.bool ((xokind == yokind && xoname == yoname && xoa == yoa && xob == yob))) w := by
  simp [go_sem]
  by_cases h : xokind = yokind
  · subst h
    try simp
    by_cases h : xoname = yoname
    · subst h
      try simp
      by_cases h : xoa = yoa
      · subst h
        try simp
        by_cases h : xob = yob
        · subst h
          try simp
        · simp [h]
      · simp [h]
    · simp [h]
  · simp [h]
end Go.Proofs.Ytneiomimjgfbpaa
namespace Go.Proofs.Ytneiomimjgfbpaa
open Go.RowKit Go.PlainAid
set_option linter.unusedSimpArgs false
set_option linter.unusedVariables false
section
variable {ops : Array Oper} {Q : Exit → Act → World → Prop} {a : Act} {w : World} {rest : List Oper} {f : Nat → Value} {N : Nat}
theorem ck0 {d : Nat} {o1 o2 o3 o4 o5 : Oper} (hF : Fr N a f) (r : Bool) {X Y : Value} (u1 u2 u3 u4 : Value)
    (h2 : f 2 = X) (h3 : f 3 = Y) (hd : d + 4 < N) (h3d : 3 < d)
    (e1 : o1.dst = some d) (e2 : o2.dst = some (d + 1)) (e3 : o3.dst = some (d + 2)) (e4 : o4.dst = some (d + 3)) (e5 : o5.dst = some (d + 4))
    (q1 : o1.guard = none) (q2 : o2.guard = none) (q3 : o3.guard = none) (q4 : o4.guard = none) (q5 : o5.guard = none)
    (r1 : ∀ ev : Operand → Value, ev (.tmp 2) = X → (execOp ev o1).run Try.prog w = .ok (.value u1) w)
    (r2 : ∀ ev : Operand → Value, ev (.tmp d) = u1 → (execOp ev o2).run Try.prog w = .ok (.value u2) w)
    (r3 : ∀ ev : Operand → Value, ev (.tmp 3) = Y → (execOp ev o3).run Try.prog w = .ok (.value u3) w)
    (r4 : ∀ ev : Operand → Value, ev (.tmp (d + 2)) = u3 → (execOp ev o4).run Try.prog w = .ok (.value u4) w)
    (r5 : ∀ ev : Operand → Value, ev (.tmp (d + 1)) = u2 → ev (.tmp (d + 3)) = u4 → (execOp ev o5).run Try.prog w = .ok (.value (.bool r)) w)
    (h : ∀ a' f', Fr N a' f' → f' 2 = X → f' 3 = Y → f' (d + 4) = .bool r → wpList Try.prog ops Q rest a' w) :
    wpList Try.prog ops Q (o1 :: o2 :: o3 :: o4 :: o5 :: rest) a w := by
  refine sy hF e1 (by omega) (wanted_none q1) (r1 _ ((hF.eval 2 (by omega)).trans h2)) fun a1 F1 => ?_
  refine sy F1 e2 (by omega) (wanted_none q2) (r2 _ ((F1.eval d (by omega)).trans (upd_eq _ _ _))) fun a2 F2 => ?_
  refine sy F2 e3 (by omega) (wanted_none q3) (r3 _ ((F2.eval 3 (by omega)).trans (by rw [upd_ne _ _ (by omega), upd_ne _ _ (by omega)]; exact h3))) fun a3 F3 => ?_
  refine sy F3 e4 (by omega) (wanted_none q4) (r4 _ ((F3.eval (d + 2) (by omega)).trans (upd_eq _ _ _))) fun a4 F4 => ?_
  refine sy F4 e5 (by omega) (wanted_none q5)
      (r5 _ ((F4.eval (d + 1) (by omega)).trans (by rw [upd_ne _ _ (by omega), upd_ne _ _ (by omega), upd_eq])) ((F4.eval (d + 3) (by omega)).trans (upd_eq _ _ _))) fun a5 F5 => ?_
  refine h _ _ F5 ?_ ?_ (upd_eq _ _ _)
  · simp only [upd_ne _ _ (show 2 ≠ d + 4 by omega), upd_ne _ _ (show 2 ≠ d + 3 by omega), upd_ne _ _ (show 2 ≠ d + 2 by omega), upd_ne _ _ (show 2 ≠ d + 1 by omega), upd_ne _ _ (show 2 ≠ d by omega)]; exact h2
  · simp only [upd_ne _ _ (show 3 ≠ d + 4 by omega), upd_ne _ _ (show 3 ≠ d + 3 by omega), upd_ne _ _ (show 3 ≠ d + 2 by omega), upd_ne _ _ (show 3 ≠ d + 1 by omega), upd_ne _ _ (show 3 ≠ d by omega)]; exact h3
end
def ne1 (x y : Msg) : Bool := ((((((x.kind != y.kind) || (x.name != y.name)) || (x.cap != y.cap)) || (x.recaps != y.recaps)) || (!(x.round == y.round && x.rank == y.rank))) || (!(x.oround == y.oround && x.orank == y.orank)))
def eq3 (x y : Msg) : Bool := (((((((x.down == y.down && x.up == y.up)) && (x.held == y.held)) && ((x.session == y.session && x.id == y.id))) && ((x.okind == y.okind && x.oname == y.oname && x.oa == y.oa && x.ob == y.ob))) && (x.err == y.err)) && (x.value == y.value))
theorem run_box' (cs : Array Value) (w : World) : (Instr.box 35 (.agg cs)).run Try.prog w = .ok (.pointer (some ⟨w.heap.size, 0, none⟩)) (w.alloc (.cells cs 35)) := by
  simp [go_sem]
end Go.Proofs.Ytneiomimjgfbpaa
namespace Go.Proofs.Ytneiomimjgfbpaa
open Go.RowKit Go.PlainAid
set_option maxRecDepth 100000 in
set_option maxHeartbeats 1600000 in
theorem valid_any (m : Msg) (ao : Option Addr) (cv : Nat) (w : World) (hf : Fit m) (hsrc : VFrom w ao m.views) (hsb : ∀ b1 o1, ao = some ⟨b1, o1, none⟩ → b1 < w.heap.size) :
    Calls Try.prog 25 #[.agg (msgCells m (.slice ao m.views.length cv))] w (fun e w' => e = .returned (.bool (message.wr m).isSome) ∧ Below w.heap.size w w') := by
  generalize hD : msgCells m (.slice ao m.views.length cv) = D
  have hsz : D.size = 20 := by rw [← hD]; rfl
  have hi35 : (Try.prog.info? 35).map (·.size) = some D.size := by rw [hsz]; kernel_rfl
  have hb1 : Below w.heap.size w (w.alloc (.cells D 35)) := by go_grown
  have n0 : Blk (w.alloc (.cells D 35)) w.heap.size D 35 := heap_alloc_new w _
  have hen := encode_any m ao cv (w.alloc (.cells D 35)) hf (hsrc.keep fun b1 o1 e => hb1.block b1 (hsb b1 o1 e)) (fun b1 o1 e => by have := hsb b1 o1 e; simp; omega)
  rw [← enc_is, hD] at hen
  clear hD
  go_enter Try.func25, Try.ntmps25
  go_wp2_with (first | (refine wpList_load_row rfl 35 (.tmp 1) rfl w.heap.size rfl 35 D (0, 0) _ n0 Try.underlying35 rfl hi35 ?_) | fail)
  refine hen.mono ?_
  cases hr : message.wr m with
  | none =>
    rintro e1 w1 ⟨hb, rfl⟩
    go_wp2
    go_ret
    exact ⟨by rw [hr]; rfl, hb1.trans (hb.mono hb1.size)⟩
  | some bs =>
    rintro e1 w1 ⟨hb, v, rfl, hv⟩
    obtain ⟨ao1, cap1, rfl, _, _, _, _⟩ := own_from hv
    go_wp2
    go_ret
    exact ⟨by rw [hr]; rfl, hb1.trans (hb.mono hb1.size)⟩
end Go.Proofs.Ytneiomimjgfbpaa
namespace Go.Proofs.Ytneiomimjgfbpaa
open Go.RowKit Go.PlainAid
def exM : Msg := { Msg.zero with kind := 3, name := [107], cap := 10, round := 2, rank := 1 }
theorem exM_wr : message.wr exM = some [3, 1, 107, 10, 0, 2, 1] := by kernel_rfl
theorem exM_rd : whole message [3, 1, 107, 10, 0, 2, 1] = .ok (exM, 0) := by kernel_rfl
def exS : Seg := ⟨0, 1, 0, 7, []⟩
theorem exS_wr : segment.wr exS = some [0, 1, 0, 7, 0] := by kernel_rfl
theorem exQ_rd : whole request [3, 1, 2, 1, 107, 10, 0] = .ok (((3, 1), 2, [107], 5, 0), 0) := by kernel_rfl
theorem exR_wr : reply.wr ((0, 9), 0, -3) = some [0, 9, 0, 5] := by kernel_rfl
theorem From.below {w w' : World} {ao : Option Addr} {bs : List UInt8} (h : From w ao bs) (hb : Below w.heap.size w w') : From w' ao bs := by
  intro h0
  obtain ⟨b, off, rfl, hc⟩ := h h0
  refine ⟨b, off, rfl, fun j u hu => ?_⟩
  have := hc j u hu
  rw [hb.cell (World.block_lt_of_cell? w _ this)]
  exact this
theorem load_row_g {ops : Array Oper} {rest : List Oper} {o : Oper} {a : Act} {w : World} {Q : Exit → Act → World → Prop} (ty : TypeId) (x : Operand) (ho : o.op = .load ty x) (hw : Region.wanted o (yielded ops a.tmps) = true)
    (g : Nat) (hx : a.eval x = .pointer (some ⟨g, 0, none⟩)) (t : TypeId) (cs : Array Value) (fr : Nat × Nat) (fs : _) (hg : w.heap[g]? = some (.cells cs t fr))
    (hu : Try.prog.underlying ty = some (.struct fs)) (hi : (Try.prog.info? ty).map (·.size) = some cs.size)
    (h : wpList Try.prog ops Q rest (a.put o.dst (.agg cs)) w) : wpList Try.prog ops Q (o :: rest) a w :=
  wpList_step fun K hK => by
    rw [if_pos hw]
    exact wp_load_row ty x ho g hx t cs fr _ hg hu rfl hi (hK _ _ h)
set_option maxRecDepth 100000 in
set_option maxHeartbeats 3200000 in
theorem able_any (w : World) :
    Calls Try.prog 9 #[] w (fun e w' => e = .returned (.bool true) ∧ Below w.heap.size w w') := by
  go_enter Try.func9, Try.ntmps9
  go_wp2_with fail
  have f1 : Fit exM := (fit_of exM_wr).1
  have he := encode_any exM none 0 w f1 (by intro i x h; cases h) (by intro b o h; cases h)
  rw [← enc_is, exM_wr] at he
  refine Calls.mono (show Calls Try.prog 14 _ w _ from he) ?_
  rintro e1 w1 ⟨hb1, v1, rfl, hv1⟩
  obtain ⟨ao1, cap1, rfl, _, _, hs1, _⟩ := own_from hv1
  clear he
  go_wp2_with fail
  have hsz1 := hb1.size
  have hd := decode_any w1.heap.size 0 7 7 [3, 1, 107, 10, 0, 2, 1] (w1.alloc (.cells #[.int .u8 3, .int .u8 1, .int .u8 107, .int .u8 10, .int .u8 0, .int .u8 2, .int .u8 1] 5)) rfl (from_mark w1 _ _ _ rfl) (by simp) (by decide) (by decide)
  rw [exM_rd] at hd
  refine Calls.mono hd ?_
  rintro e2 w2 ⟨hb2, ao2, c2, rfl, hv2⟩
  obtain ⟨rfl, rfl⟩ : ao2 = none ∧ c2 = 0 := by
    rcases hv2 with ⟨_, h1, h2⟩ | ⟨_, _, _, _, h, _⟩
    · exact ⟨h1, h2⟩
    · exact absurd h (by decide)
  have hB2 : Below w.heap.size w w2 := hb1.trans ((show Below w1.heap.size w1 (w1.alloc _) from by go_grown).trans (hb2.mono (by simp)) |>.mono hsz1)
  have hs2 : From w2 ao1 [3, 1, 107, 10, 0, 2, 1] := hs1.keep fun b o e => by
    have hlt : b < w1.heap.size := by
      subst e
      exact (hv1.lt b rfl).2
    exact (hb2.block b (by simp; omega)).trans (by rw [Below.heap_alloc _ _ _ (by omega)])
  have hsz2 := hB2.size
  have hle : w1.heap.size ≤ w2.heap.size := by have := hb2.size; simp at this; omega
  clear hd hb2 hv2 hv1 hb1 hs1
  have hall : (msgCells exM (.slice none exM.views.length 0)).all (·.oneCell') = true := by kernel_rfl
  generalize hD : msgCells exM (.slice none exM.views.length 0) = D at *
  have HD : Hid _ := hD
  have hsz : D.size = 20 := by rw [← hD]; rfl
  have hi35 : (Try.prog.info? 35).map (·.size) = some D.size := by rw [hsz]; kernel_rfl
  clear hD f1
  have hB0 : Blk (w2.alloc (.cells zeroC 35)) w2.heap.size zeroC 35 := heap_alloc_new w2 _
  have hB3 := setRow_blk (cs := D) hB0
  have hB4 : Below w2.heap.size w2 ((w2.alloc (.cells zeroC 35)).setRow w2.heap.size D) := (show Below w2.heap.size w2 (w2.alloc _) from by go_grown).trans ⟨rfl, rfl, rfl, by simp [World.setRow], fun k hk => setRow_other _ _ _ _ (by omega)⟩
  have HS : Hid _ := (And.intro hsz1 (And.intro hsz2 (And.intro hle hB2)))
  clear hsz1 hsz2 hle hB2
  go_wp2_with (first | (refine wpList_store_row rfl 35 (.tmp 3) (.tmp 23) rfl w2.heap.size D rfl rfl 35 zeroC hB0 hi35 (by rw [hsz]; rfl) hall ?_) | fail)
  rw [zero_is]
  have hs3 := From.below hs2 hB4
  have hB5 : Below w.heap.size w ((w2.alloc (.cells zeroC 35)).setRow w2.heap.size D) := HS.out.2.2.2.trans (hB4.mono HS.out.2.1)
  generalize hW3 : (w2.alloc (.cells zeroC 35)).setRow w2.heap.size D = W3 at *
  generalize hg : w2.heap.size = g at *
  clear hB0 HS hs2 hB4 hW3 hg
  have he := encodeSeg_any exS none 0 W3 (fun _ => ⟨rfl, rfl⟩) (by intro h; exact absurd h (by decide)) (by intro b o h; cases h) (by decide)
  rw [exS_wr] at he
  refine Calls.mono (show Calls Try.prog 18 _ W3 _ from he) ?_
  rintro e4 w4 ⟨hb4, v4, rfl, hv4⟩
  obtain ⟨ao4, cap4, rfl, _, _, hs4, _⟩ := own_from hv4
  have hB4 : Blk w4 g D 35 := (hb4.block g hB3.lt).trans hB3
  have hs3 := From.below hs3 hb4
  have hB5 := hB5.trans (hb4.mono hB5.size)
  clear he hv4 hb4 hB3
  go_wp2_with fail
  have hd := decodeReq_any w4.heap.size 0 7 7 [3, 1, 2, 1, 107, 10, 0] (w4.alloc (.cells #[.int .u8 3, .int .u8 1, .int .u8 2, .int .u8 1, .int .u8 107, .int .u8 10, .int .u8 0] 5)) rfl (from_mark w4 _ _ _ rfl) (by simp) (by decide) (by decide)
  rw [exQ_rd] at hd
  refine Calls.mono hd ?_
  rintro e5 w5 ⟨hb5, rfl⟩
  have hb5 : Below w4.heap.size w4 w5 := (show Below w4.heap.size w4 (w4.alloc _) from by go_grown).trans (hb5.mono (by simp))
  have hB5' : Blk w5 g D 35 := (hb5.block g hB4.lt).trans hB4
  have hs3 := From.below hs3 hb5
  have hs4 := From.below hs4 hb5
  have hB5 := hB5.trans (hb5.mono hB5.size)
  clear hd hb5 hB4
  simp only [callCells, opCells, Str]
  go_wp2_with fail
  have hb6 : Below w5.heap.size w5 ((w5.alloc (.cells #[.int .i64 3, .int .i64 1] 29)).alloc (.cells #[.int .i64 2, .string ⟨#[107]⟩, .int .i64 5, .int .i64 0] 31)) := by go_grown
  have cq : ((w5.alloc (.cells #[.int .i64 3, .int .i64 1] 29)).alloc (.cells #[.int .i64 2, .string ⟨#[107]⟩, .int .i64 5, .int .i64 0] 31)).cell? ⟨w5.heap.size, 0, none⟩ = some (.int .i64 3) := by
    rw [cell_of_row _ w5.heap.size 0 #[.int .i64 3, .int .i64 1] 29 (0, 0) ((Below.heap_alloc _ _ _ (by simp)).trans (heap_alloc_new w5 _))]; rfl
  have co : ((w5.alloc (.cells #[.int .i64 3, .int .i64 1] 29)).alloc (.cells #[.int .i64 2, .string ⟨#[107]⟩, .int .i64 5, .int .i64 0] 31)).cell? ⟨w5.heap.size + 1, 2, none⟩ = some (.int .i64 5) := by
    have := heap_alloc_new (w5.alloc (.cells #[.int .i64 3, .int .i64 1] 29)) (.cells #[.int .i64 2, .string ⟨#[107]⟩, .int .i64 5, .int .i64 0] 31)
    rw [World.size_alloc] at this
    rw [cell_of_row _ (w5.heap.size + 1) 2 _ 31 (0, 0) this]; rfl
  have hB6 : Blk ((w5.alloc (.cells #[.int .i64 3, .int .i64 1] 29)).alloc (.cells #[.int .i64 2, .string ⟨#[107]⟩, .int .i64 5, .int .i64 0] 31)) g D 35 := (hb6.block g hB5'.lt).trans hB5'
  have hs3 := From.below hs3 hb6
  have hs4 := From.below hs4 hb6
  have hB5 := hB5.trans (hb6.mono hB5.size)
  have hl6 : w5.heap.size + 1 < ((w5.alloc (.cells #[.int .i64 3, .int .i64 1] 29)).alloc (.cells #[.int .i64 2, .string ⟨#[107]⟩, .int .i64 5, .int .i64 0] 31)).heap.size := by simp
  generalize (w5.alloc (.cells #[.int .i64 3, .int .i64 1] 29)).alloc (.cells #[.int .i64 2, .string ⟨#[107]⟩, .int .i64 5, .int .i64 0] 31) = W6 at *
  generalize w5.heap.size = h at *
  clear hb6 hB5'
  have he := encodeRep_any ((0, 9), 0, -3) W6 (by decide) (by decide)
  rw [exR_wr] at he
  refine Calls.mono (show Calls Try.prog 22 _ W6 _ from he) ?_
  rintro e7 w7 ⟨hb7, v7, rfl, hv7⟩
  obtain ⟨ao7, cap7, rfl, _, _, hs7, _⟩ := own_from hv7
  have hB7 : Blk w7 g D 35 := (hb7.block g hB6.lt).trans hB6
  have hs3 := From.below hs3 hb7
  have hs4 := From.below hs4 hb7
  have hB5 := hB5.trans (hb7.mono hB5.size)
  have cq : w7.cell? ⟨h, 0, none⟩ = some (.int .i64 3) := (hb7.cell (by simp; omega)).trans cq
  have co : w7.cell? ⟨h + 1, 2, none⟩ = some (.int .i64 5) := (hb7.cell (by simp; omega)).trans co
  clear he hv7 hb7 hB6
  go_wp2_with fail
  have hb8 : Below w7.heap.size w7 (w7.alloc (.cells #[.int .u8 3, .int .u8 1, .int .u8 107, .int .u8 10, .int .u8 0, .int .u8 2, .int .u8 1] 5)) := by go_grown
  refine Calls.mono (alike_any ao1 (some ⟨w7.heap.size, 0, none⟩) 7 7 cap1 7 [3, 1, 107, 10, 0, 2, 1] [3, 1, 107, 10, 0, 2, 1] _ rfl rfl (From.below hs3 hb8) (from_mark w7 [3, 1, 107, 10, 0, 2, 1] _ _ rfl)) ?_
  rw [show decide (([3, 1, 107, 10, 0, 2, 1] : List UInt8) = [3, 1, 107, 10, 0, 2, 1]) = true from by decide]
  rintro e8 w8 ⟨rfl, hw8⟩
  rw [← hw8] at hb8
  have hs4 := From.below hs4 hb8
  have hs7 := From.below hs7 hb8
  have cq := (hb8.cell (World.block_lt_of_cell? _ _ cq)).trans cq
  have co := (hb8.cell (World.block_lt_of_cell? _ _ co)).trans co
  have hB7 : Blk w8 g D 35 := (hb8.block g hB7.lt).trans hB7
  have hB5 := hB5.trans (hb8.mono hB5.size)
  have d0 : w8.cell? ⟨g, 0, none⟩ = some (.int .i64 3) := (hB7.cell 0).trans (by rw [← HD.out]; rfl)
  have d2 : w8.cell? ⟨g, 2, none⟩ = some (.int .i64 10) := (hB7.cell 2).trans (by rw [← HD.out]; rfl)
  have d4 : w8.cell? ⟨g, 4, none⟩ = some (.int .i64 2) := (hB7.cell 4).trans (by rw [← HD.out]; rfl)
  clear hb8 hw8
  go_wp2_with fail
  have hb9 : Below w8.heap.size w8 (w8.alloc (.cells #[.int .u8 0, .int .u8 1, .int .u8 0, .int .u8 7, .int .u8 0] 5)) := by go_grown
  refine Calls.mono (alike_any ao4 (some ⟨w8.heap.size, 0, none⟩) 5 5 cap4 5 [0, 1, 0, 7, 0] [0, 1, 0, 7, 0] _ rfl rfl (From.below hs4 hb9) (from_mark w8 [0, 1, 0, 7, 0] _ _ rfl)) ?_
  rw [show decide (([0, 1, 0, 7, 0] : List UInt8) = [0, 1, 0, 7, 0]) = true from by decide]
  rintro e9 w9 ⟨rfl, hw9⟩
  rw [← hw9] at hb9
  have hs4 := From.below hs4 hb9
  have hs7 := From.below hs7 hb9
  have cq := (hb9.cell (World.block_lt_of_cell? _ _ cq)).trans cq
  have co := (hb9.cell (World.block_lt_of_cell? _ _ co)).trans co
  have hB7 : Blk w9 g D 35 := (hb9.block g hB7.lt).trans hB7
  have hB5 := hB5.trans (hb9.mono hB5.size)
  have d0 : w9.cell? ⟨g, 0, none⟩ = some (.int .i64 3) := (hB7.cell 0).trans (by rw [← HD.out]; rfl)
  have d2 : w9.cell? ⟨g, 2, none⟩ = some (.int .i64 10) := (hB7.cell 2).trans (by rw [← HD.out]; rfl)
  have d4 : w9.cell? ⟨g, 4, none⟩ = some (.int .i64 2) := (hB7.cell 4).trans (by rw [← HD.out]; rfl)
  clear hb9 hw9
  go_wp2_with fail
  have hb10 : Below w9.heap.size w9 (w9.alloc (.cells #[.int .u8 0, .int .u8 9, .int .u8 0, .int .u8 5] 5)) := by go_grown
  refine Calls.mono (alike_any ao7 (some ⟨w9.heap.size, 0, none⟩) 4 4 cap7 4 [0, 9, 0, 5] [0, 9, 0, 5] _ rfl rfl (From.below hs7 hb10) (from_mark w9 [0, 9, 0, 5] _ _ rfl)) ?_
  rw [show decide (([0, 9, 0, 5] : List UInt8) = [0, 9, 0, 5]) = true from by decide]
  rintro e10 w10 ⟨rfl, hw10⟩
  rw [← hw10] at hb10
  have hs4 := From.below hs4 hb10
  have hs7 := From.below hs7 hb10
  have cq := (hb10.cell (World.block_lt_of_cell? _ _ cq)).trans cq
  have co := (hb10.cell (World.block_lt_of_cell? _ _ co)).trans co
  have hB7 : Blk w10 g D 35 := (hb10.block g hB7.lt).trans hB7
  have hB5 := hB5.trans (hb10.mono hB5.size)
  have d0 : w10.cell? ⟨g, 0, none⟩ = some (.int .i64 3) := (hB7.cell 0).trans (by rw [← HD.out]; rfl)
  have d2 : w10.cell? ⟨g, 2, none⟩ = some (.int .i64 10) := (hB7.cell 2).trans (by rw [← HD.out]; rfl)
  have d4 : w10.cell? ⟨g, 4, none⟩ = some (.int .i64 2) := (hB7.cell 4).trans (by rw [← HD.out]; rfl)
  clear hb10 hw10
  have hva := valid_any exM none 0 w10 (fit_of exM_wr).1 (by intro i x h; cases h) (by intro b o h; cases h)
  rw [exM_wr, HD.out] at hva
  clear d0 d2 d4
  go_wp2_with (first | (refine load_row_g 35 (.tmp 3) rfl (by rfl) g rfl 35 D (0, 0) _ hB7 Try.underlying35 hi35 ?_) | (go_at_call 25; refine hva.mono ?_; rintro e11 w11 ⟨rfl, hb11⟩) | fail)
  go_ret
  exact ⟨rfl, hB5.trans (hb11.mono hB5.size)⟩
end Go.Proofs.Ytneiomimjgfbpaa
namespace Go.Proofs.Ytneiomimjgfbpaa
open Go.RowKit Go.PlainAid
end Go.Proofs.Ytneiomimjgfbpaa
namespace Go.Proofs.Ytneiomimjgfbpaa
open Go.RowKit Go.PlainAid
theorem Fr.lit {N : Nat} {a : Act} {f : Nat → Value} (h : Fr N a f) : a = { tmps := ((List.range N).map f).toArray, defers := [] } := by
  obtain ⟨t, d⟩ := a
  have h1 := h.size
  have h2 := h.defers
  simp only at h1 h2
  subst h2
  congr 1
  apply Array.ext_getElem?
  intro i
  by_cases hi : i < N
  · rw [h.get i hi]
    simp [hi]
  · rw [Array.getElem?_eq_none (by omega), Array.getElem?_eq_none (by simp; omega)]
end Go.Proofs.Ytneiomimjgfbpaa
namespace Go.Proofs.Ytneiomimjgfbpaa
open Go.RowKit Go.PlainAid
set_option linter.unusedSimpArgs false
theorem Fr.ofLit {N : Nat} (t : Array Value) (h : t.size = N) : Fr N { tmps := t, defers := [] } (fun j => t.getD j undef) := by
  refine ⟨h, rfl, fun j hj => ?_⟩
  simp [Array.getD, h, hj]
end Go.Proofs.Ytneiomimjgfbpaa
