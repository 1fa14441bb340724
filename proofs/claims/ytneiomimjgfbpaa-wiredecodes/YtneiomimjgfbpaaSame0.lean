import Derived.Test.YtneiomimjgfbpaaBare2
import Derived.Test.YtneiomimjgfbpaaSameV
namespace Go.Proofs.Ytneiomimjgfbpaa
open Go.RowKit Go.PlainAid
set_option linter.unusedSimpArgs false
set_option linter.unusedVariables false

theorem upd_eq (f : Nat → Value) (d : Nat) (v : Value) : upd f d v d = v := by simp [upd]
theorem upd_ne (f : Nat → Value) {d j : Nat} (v : Value) (h : j ≠ d) : upd f d v j = f j := by simp [upd, h]

theorem pick_run (ev : Operand → Value) {o : Oper} {c x y : Operand} (r : o.op = .pick c x y) {P : Bool} (hc : ev c = .bool P) {v : Value} (w : World) (hv : (if P then ev x else ev y) = v) : (execOp ev o).run Try.prog w = .ok (.value v) w := by
  subst hv
  cases P <;> simp [execOp, r, hc, go_sem]
def comb (b P r : Bool) : Bool := if b then P && r else P || r
section
variable {ops : Array Oper} {Q : Exit → Act → World → Prop} {a : Act} {w : World} {rest : List Oper} {f : Nat → Value} {N : Nat}
/-- A comparison behind a guard, and what comes of both. -/
theorem ck (b : Bool) {d p g : Nat} {o1 o2 o3 o4 o5 o6 : Oper} (hF : Fr N a f) {P : Bool} (r : Bool) {X Y : Value} (u1 u2 u3 u4 : Value)
    (h2 : f 2 = X) (h3 : f 3 = Y) (hp : f p = .bool P) (hg : (ops[g]?).bind (·.dst) = some p) (hd : d + 5 < N) (hpd : p < d) (h3d : 3 < d)
    (e1 : o1.dst = some d) (e2 : o2.dst = some (d + 1)) (e3 : o3.dst = some (d + 2)) (e4 : o4.dst = some (d + 3)) (e5 : o5.dst = some (d + 4)) (e6 : o6.dst = some (d + 5))
    (q1 : o1.guard = some (g, b)) (q2 : o2.guard = some (g, b)) (q3 : o3.guard = some (g, b)) (q4 : o4.guard = some (g, b)) (q5 : o5.guard = some (g, b)) (q6 : o6.guard = none)
    (r1 : ∀ ev : Operand → Value, ev (.tmp 2) = X → (execOp ev o1).run Try.prog w = .ok (.value u1) w)
    (r2 : ∀ ev : Operand → Value, ev (.tmp d) = u1 → (execOp ev o2).run Try.prog w = .ok (.value u2) w)
    (r3 : ∀ ev : Operand → Value, ev (.tmp 3) = Y → (execOp ev o3).run Try.prog w = .ok (.value u3) w)
    (r4 : ∀ ev : Operand → Value, ev (.tmp (d + 2)) = u3 → (execOp ev o4).run Try.prog w = .ok (.value u4) w)
    (r5 : ∀ ev : Operand → Value, ev (.tmp (d + 1)) = u2 → ev (.tmp (d + 3)) = u4 → (execOp ev o5).run Try.prog w = .ok (.value (.bool r)) w)
    (r6 : o6.op = if b then .pick (.tmp p) (.tmp (d + 4)) (.const (.bool false)) else .pick (.tmp p) (.const (.bool true)) (.tmp (d + 4)))
    (h : ∀ a' f', Fr N a' f' → f' 2 = X → f' 3 = Y → f' (d + 5) = .bool (comb b P r) → wpList Try.prog ops Q rest a' w) :
    wpList Try.prog ops Q (o1 :: o2 :: o3 :: o4 :: o5 :: o6 :: rest) a w := by
  by_cases hP : P = b
  · subst hP
    refine sy hF e1 (by omega) (by rw [wanted_some q1, hF.yields hg (by omega) hp]; simp) (r1 _ ((hF.eval 2 (by omega)).trans h2)) fun a1 F1 => ?_
    refine sy F1 e2 (by omega) (by rw [wanted_some q2, F1.yields hg (by omega) (by rw [upd_ne _ _ (by omega)]; exact hp)]; simp) (r2 _ ((F1.eval d (by omega)).trans (upd_eq _ _ _))) fun a2 F2 => ?_
    refine sy F2 e3 (by omega) (by rw [wanted_some q3, F2.yields hg (by omega) (by rw [upd_ne _ _ (by omega), upd_ne _ _ (by omega)]; exact hp)]; simp) (r3 _ ((F2.eval 3 (by omega)).trans (by rw [upd_ne _ _ (by omega), upd_ne _ _ (by omega)]; exact h3))) fun a3 F3 => ?_
    refine sy F3 e4 (by omega) (by rw [wanted_some q4, F3.yields hg (by omega) (by rw [upd_ne _ _ (by omega), upd_ne _ _ (by omega), upd_ne _ _ (by omega)]; exact hp)]; simp) (r4 _ ((F3.eval (d + 2) (by omega)).trans (upd_eq _ _ _))) fun a4 F4 => ?_
    refine sy F4 e5 (by omega) (by rw [wanted_some q5, F4.yields hg (by omega) (by rw [upd_ne _ _ (by omega), upd_ne _ _ (by omega), upd_ne _ _ (by omega), upd_ne _ _ (by omega)]; exact hp)]; simp)
      (r5 _ ((F4.eval (d + 1) (by omega)).trans (by rw [upd_ne _ _ (by omega), upd_ne _ _ (by omega), upd_eq])) ((F4.eval (d + 3) (by omega)).trans (upd_eq _ _ _))) fun a5 F5 => ?_
    have k1 : a5.eval (.tmp p) = .bool P := (F5.eval p (by omega)).trans (by rw [upd_ne _ _ (by omega), upd_ne _ _ (by omega), upd_ne _ _ (by omega), upd_ne _ _ (by omega), upd_ne _ _ (by omega)]; exact hp)
    have k2 : a5.eval (.tmp (d + 4)) = .bool r := (F5.eval (d + 4) (by omega)).trans (upd_eq _ _ _)
    refine sy F5 e6 (by omega) (wanted_none q6) (v := .bool (comb P P r)) (by cases P <;> exact pick_run _ r6 k1 w (by simp only [k2, comb]; rfl)) fun a6 F6 => ?_
    refine h _ _ F6 ?_ ?_ (upd_eq _ _ _)
    · simp only [upd_ne _ _ (show 2 ≠ d + 5 by omega), upd_ne _ _ (show 2 ≠ d + 4 by omega), upd_ne _ _ (show 2 ≠ d + 3 by omega), upd_ne _ _ (show 2 ≠ d + 2 by omega), upd_ne _ _ (show 2 ≠ d + 1 by omega), upd_ne _ _ (show 2 ≠ d by omega)]; exact h2
    · simp only [upd_ne _ _ (show 3 ≠ d + 5 by omega), upd_ne _ _ (show 3 ≠ d + 4 by omega), upd_ne _ _ (show 3 ≠ d + 3 by omega), upd_ne _ _ (show 3 ≠ d + 2 by omega), upd_ne _ _ (show 3 ≠ d + 1 by omega), upd_ne _ _ (show 3 ≠ d by omega)]; exact h3
  · have hn : (some P == some b) = false := by simpa using hP
    refine sn hF e1 (by omega) (by rw [wanted_some q1, hF.yields hg (by omega) hp, hn]) fun a1 F1 => ?_
    refine sn F1 e2 (by omega) (by rw [wanted_some q2, F1.yields hg (by omega) (by rw [upd_ne _ _ (by omega)]; exact hp), hn]) fun a2 F2 => ?_
    refine sn F2 e3 (by omega) (by rw [wanted_some q3, F2.yields hg (by omega) (by rw [upd_ne _ _ (by omega), upd_ne _ _ (by omega)]; exact hp), hn]) fun a3 F3 => ?_
    refine sn F3 e4 (by omega) (by rw [wanted_some q4, F3.yields hg (by omega) (by rw [upd_ne _ _ (by omega), upd_ne _ _ (by omega), upd_ne _ _ (by omega)]; exact hp), hn]) fun a4 F4 => ?_
    refine sn F4 e5 (by omega) (by rw [wanted_some q5, F4.yields hg (by omega) (by rw [upd_ne _ _ (by omega), upd_ne _ _ (by omega), upd_ne _ _ (by omega), upd_ne _ _ (by omega)]; exact hp), hn]) fun a5 F5 => ?_
    have k1 : a5.eval (.tmp p) = .bool P := (F5.eval p (by omega)).trans (by rw [upd_ne _ _ (by omega), upd_ne _ _ (by omega), upd_ne _ _ (by omega), upd_ne _ _ (by omega), upd_ne _ _ (by omega)]; exact hp)
    have hc : ∀ v, a5.eval (.const v) = v := fun _ => rfl
    refine sy F5 e6 (by omega) (wanted_none q6) (v := .bool (comb b P r)) (by cases b <;> cases P <;> first | exact absurd rfl hP | exact pick_run _ r6 k1 w rfl) fun a6 F6 => ?_
    refine h _ _ F6 ?_ ?_ (upd_eq _ _ _)
    · simp only [upd_ne _ _ (show 2 ≠ d + 5 by omega), upd_ne _ _ (show 2 ≠ d + 4 by omega), upd_ne _ _ (show 2 ≠ d + 3 by omega), upd_ne _ _ (show 2 ≠ d + 2 by omega), upd_ne _ _ (show 2 ≠ d + 1 by omega), upd_ne _ _ (show 2 ≠ d by omega)]; exact h2
    · simp only [upd_ne _ _ (show 3 ≠ d + 5 by omega), upd_ne _ _ (show 3 ≠ d + 4 by omega), upd_ne _ _ (show 3 ≠ d + 3 by omega), upd_ne _ _ (show 3 ≠ d + 2 by omega), upd_ne _ _ (show 3 ≠ d + 1 by omega), upd_ne _ _ (show 3 ≠ d by omega)]; exact h3
/-- A move. -/
theorem mv {d p : Nat} {o : Oper} (hF : Fr N a f) {v X Y : Value} (h2 : f 2 = X) (h3 : f 3 = Y) (hp : f p = v) (hpN : p < N) (hd : d < N) (h3d : 3 < d) (e : o.dst = some d) (q : o.guard = none) (r : o.op = .move (.tmp p))
    (h : ∀ a' f', Fr N a' f' → f' 2 = X → f' 3 = Y → f' d = v → wpList Try.prog ops Q rest a' w) : wpList Try.prog ops Q (o :: rest) a w := by
  have k1 : a.eval (.tmp p) = v := (hF.eval p hpN).trans hp
  refine sy hF e hd (wanted_none q) (v := v) (by simp [execOp, r, k1]) fun a6 F6 => ?_
  exact h _ _ F6 (by rw [upd_ne _ _ (by omega)]; exact h2) (by rw [upd_ne _ _ (by omega)]; exact h3) (upd_eq _ _ _)
end
theorem neq25 (xround xrank yround yrank : Int) (w : World) : Sem.run Try.prog (binOp .neq 25 (.agg #[.int .i64 xround, .int .i64 xrank]) (.agg #[.int .i64 yround, .int .i64 yrank])) w = .ok (.bool (!(xround == yround && xrank == yrank))) w := by
  simp [go_sem]
  by_cases h : xround = yround
  · subst h
    try simp
    by_cases h : xrank = yrank
    · subst h
      try simp
    · simp [h]
  · simp [h]

theorem eql27 (xdown xup ydown yup : Int) (w : World) : Sem.run Try.prog (binOp .eql 27 (.agg #[.int .i64 xdown, .int .i64 xup]) (.agg #[.int .i64 ydown, .int .i64 yup])) w = .ok (.bool ((xdown == ydown && xup == yup))) w := by
  simp [go_sem]
  by_cases h : xdown = ydown
  · subst h
    try simp
    by_cases h : xup = yup
    · subst h
      try simp
    · simp [h]
  · simp [h]

theorem eql29 (xsession xid ysession yid : Int) (w : World) : Sem.run Try.prog (binOp .eql 29 (.agg #[.int .i64 xsession, .int .i64 xid]) (.agg #[.int .i64 ysession, .int .i64 yid])) w = .ok (.bool ((xsession == ysession && xid == yid))) w := by
  simp [go_sem]
  by_cases h : xsession = ysession
  · subst h
    try simp
    by_cases h : xid = yid
    · subst h
      try simp
    · simp [h]
  · simp [h]

theorem eql31 (xokind xoa xob yokind yoa yob : Int) (xoname yoname : List UInt8) (w : World) : Sem.run Try.prog (binOp .eql 31 (.agg #[.int .i64 xokind, .string ⟨xoname.toArray⟩, .int .i64 xoa, .int .i64 xob]) (.agg #[.int .i64 yokind, .string ⟨yoname.toArray⟩, .int .i64 yoa, .int .i64 yob])) w = .ok (.bool ((xokind == yokind && xoname == yoname && xoa == yoa && xob == yob))) w := by
  simp [go_sem]
  by_cases h : xokind = yokind
  · subst h
    try simp
    by_cases h : xoname = yoname
    · subst h
      try simp
      by_cases h : xoa = yoa
      · subst h
        try simp
        by_cases h : xob = yob
        · subst h
          try simp
        · simp [h]
      · simp [h]
    · simp [h]
  · simp [h]

end Go.Proofs.Ytneiomimjgfbpaa
