import Derived.Test.YtfgnlfemckdfnaaRefA
import Derived.Test.YtfgnlfemckdfnaaBare2
import Derived.Test.YtfgnlfemckdfnaaJG
namespace Go.Proofs.Ytfgnlfemckdfnaa
open Go.RowKit Go.PlainAid
set_option linter.unusedSimpArgs false
set_option linter.unusedVariables false
section
variable {o : Oper} {ops : Array Oper} {a : Act} {f : Nat → Value} {N : Nat}
theorem Fr.ev (hF : Fr N a f) (k : Nat) {v : Value} (h : f k = v := by first | rfl | simp [upd]) (hk : k < N := by omega) : a.eval (.tmp k) = v := (hF.eval k hk).trans h
theorem Fr.wg {i : Nat} {gb r : Bool} (hF : Fr N a f) (d : Nat) (b : Bool) (hb : f d = .bool b := by simp [upd]) (h1 : o.guard = some (i, gb) := by rfl) (h2 : (ops[i]?).bind (·.dst) = some d := by rfl) (h3 : d < N := by omega) (h4 : (some b == some gb) = r := by rfl) : Region.wanted o (yielded ops a.tmps) = r := by
  rw [wanted_some h1, hF.yields h2 h3 hb]; exact h4
end
def shapeAo (k : Int) (ao : Option Addr) : Option Addr := if k = 10 then ao else none
def shapeCv (k : Int) (cv : Nat) : Nat := if k = 10 then cv else 0
def kindC (k : Int) : Array Value := msgCells { Msg.zero with kind := k } (.slice none 0 0)
structure SS (w : World) (L : Nat) (D E : Array Value) (W : World) : Prop where
  m : Blk W L D 35
  r : Blk W (L + 1) zeroC 35
  x : Blk W (L + 2) E 35
  b : Below L w W
  sz : E.size = 20
theorem SS.set {w : World} {L : Nat} {D E : Array Value} {W : World} (h : SS w L D E W) (k : Nat) (v : Value) : SS w L D (E.setIfInBounds k v) (W.setCell ⟨L + 2, k, none⟩ v) :=
  ⟨h.m.other _ _ _ (by omega), h.r.other _ _ _ (by omega), h.x.set k v, h.b.setCell (show L ≤ L + 2 by omega) v, by rw [Array.size_setIfInBounds]; exact h.sz⟩
theorem SS.cell {w : World} {L : Nat} {D E : Array Value} {W : World} (h : SS w L D E W) (k : Nat) (hk : k < 20) : ∃ u, W.cell? ⟨L + 2, k, none⟩ = some u :=
  ⟨_, (h.x.cell k).trans (Array.getElem?_eq_getElem (by rw [h.sz]; exact hk))⟩
abbrev PT (b k : Nat) : Value := .pointer (some ⟨b, k, none⟩)
section
variable {ops : Array Oper} {Q : Exit → Act → World → Prop} {a : Act} {w w' w0 : World} {rest : List Oper} {f : Nat → Value} {L : Nat} {K : Int} {D E' : Array Value}
theorem cp {d : Nat} {o1 o2 o3 o4 : Oper} {p1 p3 u : Value} (hF : Fr 104 a f) (h1 : f 1 = PT L 0) (h2 : f 2 = PT (L + 1) 0) (h3 : f 3 = PT (L + 2) 0) (h8 : f 8 = .int .i64 K) (hd : d + 2 < 104 := by omega) (h8d : 8 < d := by omega)
    (e1 : o1.dst = some d := by rfl) (e2 : o2.dst = some (d + 1) := by rfl) (e3 : o3.dst = some (d + 2) := by rfl) (e4 : o4.dst = none := by rfl) (q1 : o1.guard = none := by rfl) (q2 : o2.guard = none := by rfl) (q3 : o3.guard = none := by rfl) (q4 : o4.guard = none := by rfl)
    (r1 : ∀ ev : Operand → Value, ev (.tmp 1) = PT L 0 → (execOp ev o1).run Try.prog w = .ok (.value p1) w := by intro ev h; simp only [execOp, h]; simp [go_sem])
    (r2 : ∀ ev : Operand → Value, ev (.tmp d) = p1 → (execOp ev o2).run Try.prog w = .ok (.value u) w)
    (r3 : ∀ ev : Operand → Value, ev (.tmp 3) = PT (L + 2) 0 → (execOp ev o3).run Try.prog w = .ok (.value p3) w := by intro ev h; simp only [execOp, h]; simp [go_sem])
    (r4 : ∀ ev : Operand → Value, ev (.tmp (d + 2)) = p3 → ev (.tmp (d + 1)) = u → (execOp ev o4).run Try.prog w = .ok .skip w')
    (hS : SS w0 L D E' w')
    (h : ∀ a' f' W, Fr 104 a' f' → f' 1 = PT L 0 → f' 2 = PT (L + 1) 0 → f' 3 = PT (L + 2) 0 → f' 8 = .int .i64 K → SS w0 L D E' W → Q .normal a' W) :
    wpList Try.prog ops Q [o1, o2, o3, o4] a w := by
  refine sy hF e1 (by omega) (wanted_none q1) (r1 _ ((hF.eval 1 (by omega)).trans h1)) fun a1 F1 => ?_
  refine sy F1 e2 (by omega) (wanted_none q2) (r2 _ ((F1.eval d (by omega)).trans (upd_eq _ _ _))) fun a2 F2 => ?_
  refine sy F2 e3 (by omega) (wanted_none q3) (r3 _ ((F2.eval 3 (by omega)).trans (by rw [upd_ne _ _ (by omega), upd_ne _ _ (by omega)]; exact h3))) fun a3 F3 => ?_
  refine su e4 (wanted_none q4) (r4 _ ((F3.eval (d + 2) (by omega)).trans (upd_eq _ _ _)) ((F3.eval (d + 1) (by omega)).trans (by rw [upd_ne _ _ (by omega), upd_eq]))) ?_
  refine wpList_nil (h _ _ _ F3 ?_ ?_ ?_ ?_ hS)
  · rw [upd_ne _ _ (by omega), upd_ne _ _ (by omega), upd_ne _ _ (by omega)]; exact h1
  · rw [upd_ne _ _ (by omega), upd_ne _ _ (by omega), upd_ne _ _ (by omega)]; exact h2
  · rw [upd_ne _ _ (by omega), upd_ne _ _ (by omega), upd_ne _ _ (by omega)]; exact h3
  · rw [upd_ne _ _ (by omega), upd_ne _ _ (by omega), upd_ne _ _ (by omega)]; exact h8
theorem swt {d : Nat} {o1 o2 : Oper} (b : Bool) (hF : Fr 104 a f) (h1 : f 1 = PT L 0) (h2 : f 2 = PT (L + 1) 0) (h3 : f 3 = PT (L + 2) 0) (h8 : f 8 = .int .i64 K) (hd : d + 1 < 104 := by omega) (h8d : 8 < d := by omega)
    (e1 : o1.dst = some (d + 1) := by rfl) (e2 : o2.dst = some d := by rfl) (q1 : o1.guard = none := by rfl) (q2 : o2.guard = none := by rfl)
    (r1 : ∀ ev : Operand → Value, (∀ v, ev (.const v) = v) → ev (.tmp 8) = .int .i64 K → (execOp ev o1).run Try.prog w = .ok (.value (.bool b)) w := by intro ev hcst h; simp only [execOp, h, hcst]; simp [go_sem])
    (r2 : ∀ ev : Operand → Value, ev (.tmp (d + 1)) = .bool b → (execOp ev o2).run Try.prog w = .ok (.value (.bool b)) w := by intro ev h; simp only [execOp, h]; rfl)
    (h : ∀ a' f', Fr 104 a' f' → f' 1 = PT L 0 → f' 2 = PT (L + 1) 0 → f' 3 = PT (L + 2) 0 → f' 8 = .int .i64 K → f' d = .bool b → Q .normal a' w) :
    wpList Try.prog ops Q [o1, o2] a w := by
  refine sy hF e1 (by omega) (wanted_none q1) (r1 _ (fun _ => rfl) ((hF.eval 8 (by omega)).trans h8)) fun a1 F1 => ?_
  refine sy F1 e2 (by omega) (wanted_none q2) (r2 _ ((F1.eval (d + 1) (by omega)).trans (upd_eq _ _ _))) fun a2 F2 => ?_
  refine wpList_nil (h _ _ F2 ?_ ?_ ?_ ?_ (upd_eq _ _ _))
  · rw [upd_ne _ _ (by omega), upd_ne _ _ (by omega)]; exact h1
  · rw [upd_ne _ _ (by omega), upd_ne _ _ (by omega)]; exact h2
  · rw [upd_ne _ _ (by omega), upd_ne _ _ (by omega)]; exact h3
  · rw [upd_ne _ _ (by omega), upd_ne _ _ (by omega)]; exact h8
theorem tst {d : Nat} {o1 o2 o3 : Oper} {p1 u : Value} (b : Bool) (hF : Fr 104 a f) (h1 : f 1 = PT L 0) (h2 : f 2 = PT (L + 1) 0) (h3 : f 3 = PT (L + 2) 0) (h8 : f 8 = .int .i64 K) (hd : d + 2 < 104 := by omega) (h8d : 8 < d := by omega)
    (e1 : o1.dst = some d := by rfl) (e2 : o2.dst = some (d + 1) := by rfl) (e3 : o3.dst = some (d + 2) := by rfl) (q1 : o1.guard = none := by rfl) (q2 : o2.guard = none := by rfl) (q3 : o3.guard = none := by rfl)
    (r1 : ∀ ev : Operand → Value, ev (.tmp 1) = PT L 0 → (execOp ev o1).run Try.prog w = .ok (.value p1) w := by intro ev h; simp only [execOp, h]; simp [go_sem])
    (r2 : ∀ ev : Operand → Value, ev (.tmp d) = p1 → (execOp ev o2).run Try.prog w = .ok (.value u) w)
    (r3 : ∀ ev : Operand → Value, (∀ v, ev (.const v) = v) → ev (.tmp (d + 1)) = u → (execOp ev o3).run Try.prog w = .ok (.value (.bool b)) w)
    (h : ∀ a' f', Fr 104 a' f' → f' 1 = PT L 0 → f' 2 = PT (L + 1) 0 → f' 3 = PT (L + 2) 0 → f' 8 = .int .i64 K → f' (d + 2) = .bool b → wpList Try.prog ops Q rest a' w) :
    wpList Try.prog ops Q (o1 :: o2 :: o3 :: rest) a w := by
  refine sy hF e1 (by omega) (wanted_none q1) (r1 _ ((hF.eval 1 (by omega)).trans h1)) fun a1 F1 => ?_
  refine sy F1 e2 (by omega) (wanted_none q2) (r2 _ ((F1.eval d (by omega)).trans (upd_eq _ _ _))) fun a2 F2 => ?_
  refine sy F2 e3 (by omega) (wanted_none q3) (r3 _ (fun _ => rfl) ((F2.eval (d + 1) (by omega)).trans (upd_eq _ _ _))) fun a3 F3 => ?_
  refine h _ _ F3 ?_ ?_ ?_ ?_ (upd_eq _ _ _)
  · rw [upd_ne _ _ (by omega), upd_ne _ _ (by omega), upd_ne _ _ (by omega)]; exact h1
  · rw [upd_ne _ _ (by omega), upd_ne _ _ (by omega), upd_ne _ _ (by omega)]; exact h2
  · rw [upd_ne _ _ (by omega), upd_ne _ _ (by omega), upd_ne _ _ (by omega)]; exact h3
  · rw [upd_ne _ _ (by omega), upd_ne _ _ (by omega), upd_ne _ _ (by omega)]; exact h8
theorem mv8 {d p : Nat} {o : Oper} {v : Value} (hF : Fr 104 a f) (h1 : f 1 = PT L 0) (h2 : f 2 = PT (L + 1) 0) (h3 : f 3 = PT (L + 2) 0) (h8 : f 8 = .int .i64 K) (hp : f p = v) (hpN : p < 104 := by omega) (hd : d < 104 := by omega) (h8d : 8 < d := by omega) (e : o.dst = some d := by rfl) (q : o.guard = none := by rfl) (r : o.op = .move (.tmp p) := by rfl)
    (h : ∀ a' f', Fr 104 a' f' → f' 1 = PT L 0 → f' 2 = PT (L + 1) 0 → f' 3 = PT (L + 2) 0 → f' 8 = .int .i64 K → f' d = v → wpList Try.prog ops Q rest a' w) : wpList Try.prog ops Q (o :: rest) a w := by
  have k1 : a.eval (.tmp p) = v := (hF.eval p hpN).trans hp
  refine sy hF e hd (wanted_none q) (v := v) (by simp [execOp, r, k1]) fun a6 F6 => ?_
  exact h _ _ F6 (by rw [upd_ne _ _ (by omega)]; exact h1) (by rw [upd_ne _ _ (by omega)]; exact h2) (by rw [upd_ne _ _ (by omega)]; exact h3) (by rw [upd_ne _ _ (by omega)]; exact h8) (upd_eq _ _ _)
theorem gk (b : Bool) {d p g : Nat} {o1 o2 o3 o4 : Oper} {p1 u : Value} (hF : Fr 104 a f) {P : Bool} (r : Bool) (h1 : f 1 = PT L 0) (h2 : f 2 = PT (L + 1) 0) (h3 : f 3 = PT (L + 2) 0) (h8 : f 8 = .int .i64 K)
    (hp : f p = .bool P) (hg : (ops[g]?).bind (·.dst) = some p := by rfl) (hd : d + 3 < 104 := by omega) (hpd : p < d := by omega) (h8d : 8 < d := by omega)
    (e1 : o1.dst = some d := by rfl) (e2 : o2.dst = some (d + 1) := by rfl) (e3 : o3.dst = some (d + 2) := by rfl) (e4 : o4.dst = some (d + 3) := by rfl)
    (q1 : o1.guard = some (g, b) := by rfl) (q2 : o2.guard = some (g, b) := by rfl) (q3 : o3.guard = some (g, b) := by rfl) (q4 : o4.guard = none := by rfl)
    (r1 : ∀ ev : Operand → Value, ev (.tmp 1) = PT L 0 → (execOp ev o1).run Try.prog w = .ok (.value p1) w := by intro ev h; simp only [execOp, h]; simp [go_sem])
    (r2 : ∀ ev : Operand → Value, ev (.tmp d) = p1 → (execOp ev o2).run Try.prog w = .ok (.value u) w)
    (r3 : ∀ ev : Operand → Value, (∀ v, ev (.const v) = v) → ev (.tmp (d + 1)) = u → (execOp ev o3).run Try.prog w = .ok (.value (.bool r)) w)
    (r4 : o4.op = if b then .pick (.tmp p) (.tmp (d + 2)) (.const (.bool false)) else .pick (.tmp p) (.const (.bool true)) (.tmp (d + 2)) := by rfl)
    (h : ∀ a' f', Fr 104 a' f' → f' 1 = PT L 0 → f' 2 = PT (L + 1) 0 → f' 3 = PT (L + 2) 0 → f' 8 = .int .i64 K → f' (d + 3) = .bool (comb b P r) → wpList Try.prog ops Q rest a' w) :
    wpList Try.prog ops Q (o1 :: o2 :: o3 :: o4 :: rest) a w := by
  have fin : ∀ (u1 u2 u3 u4 : Value) (j : Nat), j < d → upd (upd (upd (upd f d u1) (d + 1) u2) (d + 2) u3) (d + 3) u4 j = f j := by
    intro u1 u2 u3 u4 j hj
    rw [upd_ne _ _ (by omega), upd_ne _ _ (by omega), upd_ne _ _ (by omega), upd_ne _ _ (by omega)]
  by_cases hP : P = b
  · subst hP
    refine sy hF e1 (by omega) (by rw [wanted_some q1, hF.yields hg (by omega) hp]; simp) (r1 _ ((hF.eval 1 (by omega)).trans h1)) fun a1 F1 => ?_
    refine sy F1 e2 (by omega) (by rw [wanted_some q2, F1.yields hg (by omega) (by rw [upd_ne _ _ (by omega)]; exact hp)]; simp) (r2 _ ((F1.eval d (by omega)).trans (upd_eq _ _ _))) fun a2 F2 => ?_
    refine sy F2 e3 (by omega) (by rw [wanted_some q3, F2.yields hg (by omega) (by rw [upd_ne _ _ (by omega), upd_ne _ _ (by omega)]; exact hp)]; simp) (r3 _ (fun _ => rfl) ((F2.eval (d + 1) (by omega)).trans (upd_eq _ _ _))) fun a3 F3 => ?_
    have k1 : a3.eval (.tmp p) = .bool P := (F3.eval p (by omega)).trans (by rw [upd_ne _ _ (by omega), upd_ne _ _ (by omega), upd_ne _ _ (by omega)]; exact hp)
    have k2 : a3.eval (.tmp (d + 2)) = .bool r := (F3.eval (d + 2) (by omega)).trans (upd_eq _ _ _)
    refine sy F3 e4 (by omega) (wanted_none q4) (v := .bool (comb P P r)) (by cases P <;> exact pick_run _ r4 k1 w (by simp only [k2, comb]; rfl)) fun a6 F6 => ?_
    exact h _ _ F6 ((fin _ _ _ _ 1 (by omega)).trans h1) ((fin _ _ _ _ 2 (by omega)).trans h2) ((fin _ _ _ _ 3 (by omega)).trans h3) ((fin _ _ _ _ 8 (by omega)).trans h8) (upd_eq _ _ _)
  · have hn : (some P == some b) = false := by simpa using hP
    refine sn hF e1 (by omega) (by rw [wanted_some q1, hF.yields hg (by omega) hp, hn]) fun a1 F1 => ?_
    refine sn F1 e2 (by omega) (by rw [wanted_some q2, F1.yields hg (by omega) (by rw [upd_ne _ _ (by omega)]; exact hp), hn]) fun a2 F2 => ?_
    refine sn F2 e3 (by omega) (by rw [wanted_some q3, F2.yields hg (by omega) (by rw [upd_ne _ _ (by omega), upd_ne _ _ (by omega)]; exact hp), hn]) fun a3 F3 => ?_
    have k1 : a3.eval (.tmp p) = .bool P := (F3.eval p (by omega)).trans (by rw [upd_ne _ _ (by omega), upd_ne _ _ (by omega), upd_ne _ _ (by omega)]; exact hp)
    refine sy F3 e4 (by omega) (wanted_none q4) (v := .bool (comb b P r)) (by cases b <;> cases P <;> first | exact absurd rfl hP | exact pick_run _ r4 k1 w rfl) fun a6 F6 => ?_
    exact h _ _ F6 ((fin _ _ _ _ 1 (by omega)).trans h1) ((fin _ _ _ _ 2 (by omega)).trans h2) ((fin _ _ _ _ 3 (by omega)).trans h3) ((fin _ _ _ _ 8 (by omega)).trans h8) (upd_eq _ _ _)
theorem shape_end {id d : Nat} {o1 o2 : Oper} {E : Array Value} (hF : Fr 104 a f) (h2 : f 2 = PT (L + 1) 0) (h3 : f 3 = PT (L + 2) 0) (hS : SS w0 L D E w) (hE : E.all (·.oneCell') = true) (hd : d < 104) (h3d : 3 < d)
    (e1 : o1.dst = some d) (e2 : o2.dst = none) (q1 : o1.guard = none) (q2 : o2.guard = none) (r1 : o1.op = .load 35 (.tmp 3)) (r2 : o2.op = .store 35 (.tmp 2) (.tmp d))
    (hQ : ∀ a' W, bodyPost Try.prog Try.f48 (fun e w' => e = .returned (.agg E) ∧ Below L w0 w') .ret a' W → Q .ret a' W) : ((Code.region id #[o1, o2] false).seq Code.ret).wp Try.prog Q a w := by
  have hi : (Try.prog.info? 35).map (·.size) = some E.size := by rw [hS.sz]; kernel_rfl
  refine wp_seq (wp_region_list ?_)
  refine wpList_load_row q1 35 (.tmp 3) r1 (L + 2) ((hF.eval 3 (by omega)).trans h3) 35 E (0, 0) _ hS.x Try.underlying35 rfl hi ?_
  rw [e1]
  have F1 := hF.put d (.agg E) hd
  refine wpList_store_row q2 35 (.tmp 2) (.tmp d) r2 (L + 1) E ((F1.eval 2 (by omega)).trans (by rw [upd_ne _ _ (by omega)]; exact h2)) ((F1.eval d hd).trans (upd_eq _ _ _)) 35 zeroC hS.r hi (by rw [hS.sz]; rfl) hE ?_
  rw [e2]
  refine wpList_nil ?_
  refine wp_ret ?_
  refine hQ _ _ ?_
  have hB := setRow_blk (cs := E) hS.r
  have h2' : (a.put (some d) (.agg E)).tmps.getD 2 undef = PT (L + 1) 0 := by
    have := F1.eval 2 (by omega)
    rw [upd_ne _ _ (by omega), h2] at this
    simpa [Act.eval] using this
  refine bodyPost_ret (results_cell_row Try.results48 _ _ (L + 1) 35 E (0, 0) _ h2' hB Try.underlying35 rfl hi) F1.defers ?_
  exact ⟨rfl, hS.b.trans ⟨rfl, rfl, rfl, by simp [World.setRow], fun k hk => setRow_other _ _ _ _ (by omega)⟩⟩
end
theorem frame_init1 (x : Value) (n : Nat) : Fr (n + 1) { tmps := #[x] ++ Array.replicate n undef, defers := [] } (fun j => if j = 0 then x else undef) := by
  refine ⟨by simp; omega, rfl, fun j hj => ?_⟩
  by_cases h0 : j = 0
  · subst h0; rw [Array.getElem?_append_left (by simp)]; rfl
  · rw [if_neg h0, Array.getElem?_append_right (by simp; omega), Array.getElem?_replicate, if_pos (by simp; omega)]
theorem run_build35k (w : World) (k : Int) : (Instr.build 35 #[(0, .int .i64 k)]).run Try.prog w = .ok (.agg (kindC k)) w := by
  simp [go_sem]
  rfl
theorem sstart {id0 id1 id2 : Nat} {p1 p2 q1 q2 q3 q4 q5 s1 s2 : Oper} {c5 c6 : Code} {Q : Exit → Act → World → Prop} {D : Array Value} {K : Int} {a : Act} {w : World} {f : Nat → Value} (hF : Fr 104 a f) (h0 : f 0 = .agg D) (hD : D[0]? = some (.int .i64 K))
    (e1 : p1.dst = some 1) (e2 : p2.dst = some 2) (e3 : q1.dst = some 4) (e4 : q2.dst = some 5) (e5 : q3.dst = some 6) (e6 : q4.dst = some 3) (e7 : q5.dst = none) (e8 : s1.dst = some 7) (e9 : s2.dst = some 8)
    (g1 : p1.guard = none) (g2 : p2.guard = none) (g3 : q1.guard = none) (g4 : q2.guard = none) (g5 : q3.guard = none) (g6 : q4.guard = none) (g7 : q5.guard = none) (g8 : s1.guard = none) (g9 : s2.guard = none)
    (r1 : p1.op = .box 35 (.tmp 0)) (r2 : p2.op = .alloc 35) (r3 : q1.op = .fieldAddr 35 (.tmp 1) 0) (r4 : q2.op = .load 3 (.tmp 4)) (r5 : q3.op = .build 35 #[(0, .tmp 5)]) (r6 : q4.op = .alloc 35) (r7 : q5.op = .store 35 (.tmp 3) (.tmp 6)) (r8 : s1.op = .fieldAddr 35 (.tmp 1) 0) (r9 : s2.op = .load 3 (.tmp 7))
    (h : ∀ a' f' W, Fr 104 a' f' → f' 1 = PT w.heap.size 0 → f' 2 = PT (w.heap.size + 1) 0 → f' 3 = PT (w.heap.size + 2) 0 → f' 8 = .int .i64 K → SS w w.heap.size D (kindC K) W → c5.wp Try.prog (Exit.then (c6.wp Try.prog Q) Q) a' W) :
    ((Code.region id0 #[p1, p2] false).seq ((Code.region id1 #[q1, q2, q3, q4, q5] false).seq (((Code.region id2 #[s1, s2] false).seq c5).seq c6))).wp Try.prog Q a w := by
  have hk35 : (kindC K).all (·.oneCell') = true := by simp [kindC, msgCells, Value.oneCell', Str, Msg.zero]
  have hB1 : Blk (w.alloc (.cells D 35)) w.heap.size D 35 := heap_alloc_new w _
  have hX0 : Blk (((w.alloc (.cells D 35)).alloc (.cells zeroC 35)).alloc (.cells zeroC 35)) (w.heap.size + 2) zeroC 35 := by
    have := heap_alloc_new ((w.alloc (.cells D 35)).alloc (.cells zeroC 35)) (.cells zeroC 35)
    rw [World.size_alloc, World.size_alloc] at this
    exact this
  have hSS : SS w w.heap.size D (kindC K) ((((w.alloc (.cells D 35)).alloc (.cells zeroC 35)).alloc (.cells zeroC 35)).setRow (w.heap.size + 2) (kindC K)) := by
    refine ⟨?_, ?_, setRow_blk hX0, (show Below w.heap.size w (((w.alloc (.cells D 35)).alloc (.cells zeroC 35)).alloc (.cells zeroC 35)) from by go_grown).trans ⟨rfl, rfl, rfl, by simp [World.setRow], fun k hk => setRow_other _ _ _ _ (by omega)⟩, rfl⟩
    · refine (setRow_other _ _ _ _ (by omega)).trans ?_
      rw [Below.heap_alloc _ _ _ (by simp; omega), Below.heap_alloc _ _ _ (by simp)]
      exact hB1
    · refine (setRow_other _ _ _ _ (by omega)).trans ?_
      rw [Below.heap_alloc _ _ _ (by simp)]
      have := heap_alloc_new (w.alloc (.cells D 35)) (.cells zeroC 35)
      rw [World.size_alloc] at this
      exact this
  have c0 : ((w.alloc (.cells D 35)).alloc (.cells zeroC 35)).cell? ⟨w.heap.size, 0, none⟩ = some (.int .i64 K) := by
    have hb : Blk ((w.alloc (.cells D 35)).alloc (.cells zeroC 35)) w.heap.size D 35 := (Below.heap_alloc _ _ _ (by simp)).trans hB1
    exact (hb.cell 0).trans hD
  refine wp_seq (wp_region_list ?_)
  refine sw hF e1 (by omega) (wanted_none g1) (v := PT w.heap.size 0) (w' := w.alloc (.cells D 35)) (by simp only [execOp, r1, hF.eval 0 (by omega), h0, Sem.run_bind, run_box']; rfl) fun a1 F1 => ?_
  refine sw F1 e2 (by omega) (wanted_none g2) (v := PT (w.heap.size + 1) 0) (w' := (w.alloc (.cells D 35)).alloc (.cells zeroC 35)) (by simp only [execOp, r2, Sem.run_bind, run_alloc35, World.size_alloc]; rfl) fun a2 F2 => ?_
  refine wpList_nil ?_
  show Code.wp _ _ _ _ _
  refine wp_seq (wp_region_list ?_)
  refine sy F2 e3 (by omega) (wanted_none g3) (v := PT w.heap.size 0) (by simp only [execOp, r3, F2.ev 1 (v := PT w.heap.size 0) (by simp [upd])]; simp [go_sem]) fun a3 F3 => ?_
  refine sy F3 e4 (by omega) (wanted_none g4) (v := .int .i64 K) (by simp only [execOp, r4, (F3.eval 4 (by omega)).trans (upd_eq _ _ _)]; simp [go_sem, c0]) fun a4 F4 => ?_
  refine sy F4 e5 (by omega) (wanted_none g5) (v := .agg (kindC K)) (by simp only [execOp, r5, List.map_toArray, List.map_cons, List.map_nil, (F4.eval 5 (by omega)).trans (upd_eq _ _ _), Sem.run_bind, run_build35k]; rfl) fun a5 F5 => ?_
  refine sw F5 e6 (by omega) (wanted_none g6) (v := PT (w.heap.size + 2) 0) (w' := ((w.alloc (.cells D 35)).alloc (.cells zeroC 35)).alloc (.cells zeroC 35)) (by simp only [execOp, r6, Sem.run_bind, run_alloc35, World.size_alloc]; rfl) fun a6 F6 => ?_
  refine wpList_store_row g7 35 (.tmp 3) (.tmp 6) r7 (w.heap.size + 2) (kindC K) ((F6.eval 3 (by omega)).trans (upd_eq _ _ _)) ((F6.eval 6 (by omega)).trans (by simp [upd])) 35 zeroC hX0 (by kernel_rfl) rfl hk35 ?_
  rw [e7]
  change wpList _ _ _ _ a6 _
  refine wpList_nil ?_
  show Code.wp _ _ _ _ _
  have h1 := (F6.eval 1 (by omega)).symm.trans (F6.ev 1 (v := PT w.heap.size 0) (by simp [upd]))
  have h2 := (F6.eval 2 (by omega)).symm.trans (F6.ev 2 (v := PT (w.heap.size + 1) 0) (by simp [upd]))
  have h3 := (F6.eval 3 (by omega)).symm.trans (F6.ev 3 (v := PT (w.heap.size + 2) 0) (by simp [upd]))
  generalize upd (upd (upd (upd (upd (upd f 1 (PT w.heap.size 0)) 2 (PT (w.heap.size + 1) 0)) 4 (PT w.heap.size 0)) 5 (.int .i64 K)) 6 (.agg (kindC K))) 3 (PT (w.heap.size + 2) 0) = f6 at *
  generalize (((w.alloc (.cells D 35)).alloc (.cells zeroC 35)).alloc (.cells zeroC 35)).setRow (w.heap.size + 2) (kindC K) = W at *
  have c0' : W.cell? ⟨w.heap.size, 0, none⟩ = some (.int .i64 K) := (hSS.m.cell 0).trans hD
  clear F1 F2 F3 F4 F5
  refine wp_seq ?_
  refine wp_seq (wp_region_list ?_)
  refine sy F6 e8 (by omega) (wanted_none g8) (v := PT w.heap.size 0) (by simp only [execOp, r8, (F6.eval 1 (by omega)).trans h1]; simp [go_sem]) fun a7 F7 => ?_
  refine sy F7 e9 (by omega) (wanted_none g9) (v := .int .i64 K) (by simp only [execOp, r9, (F7.eval 7 (by omega)).trans (upd_eq _ _ _)]; simp [go_sem, c0']) fun a8 F8 => ?_
  refine wpList_nil ?_
  show Code.wp _ _ _ _ _
  exact h _ _ _ F8 (by simp [upd, h1]) (by simp [upd, h2]) (by simp [upd, h3]) (upd_eq _ _ _) hSS
set_option maxRecDepth 100000 in
set_option maxHeartbeats 1600000 in
theorem rshape1 (m : Msg) (ao : Option Addr) (cv : Nat) (w : World) (hkk : m.kind = 1) :
    Calls Try.prog 48 #[.agg (msgCells m (.slice ao m.views.length cv))] w (fun e w' => e = .returned (.agg (msgCells (shapeM m) (.slice (shapeAo m.kind ao) (shapeM m).views.length (shapeCv m.kind cv)))) ∧ Below w.heap.size w w') := by
  refine calls_of_wp Try.func48 rfl ?_
  generalize hT : msgCells (shapeM m) (.slice (shapeAo m.kind ao) (shapeM m).views.length (shapeCv m.kind cv)) = T
  have HT : Hid _ := hT
  clear hT
  generalize hD : msgCells m (.slice ao m.views.length cv) = D
  have HD : Hid _ := hD
  have d0 : D[0]? = some (.int .i64 1) := by rw [← hD, ← hkk]; rfl
  clear hD
  have e : Try.f48.ntmps - (#[Value.agg D] : Array Value).size = 103 := by rw [Try.ntmps48]; rfl
  rw [e]
  have hF0 := frame_init1 (.agg D) 103
  generalize ({ tmps := #[Value.agg D] ++ Array.replicate 103 undef, defers := [] } : Act) = a0 at *
  refine sstart hF0 rfl d0 rfl rfl rfl rfl rfl rfl rfl rfl rfl rfl rfl rfl rfl rfl rfl rfl rfl rfl rfl rfl rfl rfl rfl rfl rfl rfl rfl ?_
  generalize w.heap.size = L
  intro a f W hF h1 h2 h3 h8 hS
  clear hF0 d0 e
  refine wp_block ?_
  refine wp_seq (wp_region_list ?_)
  refine swt (d := 9) true hF h1 h2 h3 h8 (h := ?_)
  intro a f hF h1 h2 h3 h8 hp
  show Code.wp _ _ _ _ _
  refine wp_cond_true ((hF.eval 9 (by omega)).trans hp) ?_
  refine wp_seq (wp_region_list ?_)
  have c11 : W.cell? ⟨L, 11, none⟩ = some (.int .i64 m.session) := (hS.m.cell 11).trans (by rw [← HD.out]; rfl)
  obtain ⟨v11, u11⟩ := hS.cell 11 (by omega)
  have c12 : W.cell? ⟨L, 12, none⟩ = some (.int .i64 m.id) := (hS.m.cell 12).trans (by rw [← HD.out]; rfl)
  obtain ⟨v12, u12⟩ := hS.cell 12 (by omega)
  refine cp (d := 11) (p1 := PT L 11) (p3 := PT (L + 2) 11) (u := .agg #[.int .i64 m.session, .int .i64 m.id]) hF h1 h2 h3 h8 (r2 := (fun ev h => by simp only [execOp, h]; simp [go_sem, c11, c12])) (r4 := (fun ev h h' => by simp only [execOp, h, h']; simp [go_sem, u11, u12, hS.x.frozen 11, hS.x.frozen 12])) (hS := ((hS.set 11 (.int .i64 m.session)).set 12 (.int .i64 m.id))) (h := ?_)
  clear hS c11 u11 v11 c12 u12 v12
  intro a f W hF h1 h2 h3 h8 hS
  show Code.wp _ _ _ _ _
  refine wp_seq (wp_region_list ?_)
  have c13 : W.cell? ⟨L, 13, none⟩ = some (.int .i64 m.okind) := (hS.m.cell 13).trans (by rw [← HD.out]; rfl)
  obtain ⟨v13, u13⟩ := hS.cell 13 (by omega)
  have c14 : W.cell? ⟨L, 14, none⟩ = some (.string ⟨m.oname.toArray⟩) := (hS.m.cell 14).trans (by rw [← HD.out]; rfl)
  obtain ⟨v14, u14⟩ := hS.cell 14 (by omega)
  have c15 : W.cell? ⟨L, 15, none⟩ = some (.int .i64 m.oa) := (hS.m.cell 15).trans (by rw [← HD.out]; rfl)
  obtain ⟨v15, u15⟩ := hS.cell 15 (by omega)
  have c16 : W.cell? ⟨L, 16, none⟩ = some (.int .i64 m.ob) := (hS.m.cell 16).trans (by rw [← HD.out]; rfl)
  obtain ⟨v16, u16⟩ := hS.cell 16 (by omega)
  refine cp (d := 14) (p1 := PT L 13) (p3 := PT (L + 2) 13) (u := .agg #[.int .i64 m.okind, .string ⟨m.oname.toArray⟩, .int .i64 m.oa, .int .i64 m.ob]) hF h1 h2 h3 h8 (r2 := (fun ev h => by simp only [execOp, h]; simp [go_sem, c13, c14, c15, c16])) (r4 := (fun ev h h' => by simp only [execOp, h, h']; simp [go_sem, u13, u14, u15, u16, hS.x.frozen 13, hS.x.frozen 14, hS.x.frozen 15, hS.x.frozen 16])) (hS := ((((hS.set 13 (.int .i64 m.okind)).set 14 (.string ⟨m.oname.toArray⟩)).set 15 (.int .i64 m.oa)).set 16 (.int .i64 m.ob))) (h := ?_)
  clear hS c13 u13 v13 c14 u14 v14 c15 u15 v15 c16 u16 v16
  intro a f W hF h1 h2 h3 h8 hS
  show Code.wp _ _ _ _ _
  obtain ⟨E, hS, hE⟩ : ∃ E, SS w L D E W ∧ E = msgCells (shapeM m) (.slice (shapeAo m.kind ao) (shapeM m).views.length (shapeCv m.kind cv)) := ⟨_, hS, by simp [shapeM, hkk, shapeAo, shapeCv, kindC, msgCells, Msg.zero, Str, inB]⟩
  rw [hE, HT.out] at hS
  refine shape_end (d := 17) hF h2 h3 hS (by rw [← HT.out]; simp [msgCells, Value.oneCell', Str]) (by omega) (by omega) rfl rfl rfl rfl rfl rfl ?_
  intro a' W' hbp
  exact hbp
end Go.Proofs.Ytfgnlfemckdfnaa
namespace Go.Proofs.Ytfgnlfemckdfnaa
open Go.RowKit Go.PlainAid
set_option linter.unusedSimpArgs false
set_option linter.unusedVariables false
set_option maxRecDepth 100000 in
set_option maxHeartbeats 1600000 in
theorem rshape10 (m : Msg) (ao : Option Addr) (cv : Nat) (w : World) (hkk : m.kind = 10) :
    Calls Try.prog 48 #[.agg (msgCells m (.slice ao m.views.length cv))] w (fun e w' => e = .returned (.agg (msgCells (shapeM m) (.slice (shapeAo m.kind ao) (shapeM m).views.length (shapeCv m.kind cv)))) ∧ Below w.heap.size w w') := by
  refine calls_of_wp Try.func48 rfl ?_
  generalize hT : msgCells (shapeM m) (.slice (shapeAo m.kind ao) (shapeM m).views.length (shapeCv m.kind cv)) = T
  have HT : Hid _ := hT
  clear hT
  generalize hD : msgCells m (.slice ao m.views.length cv) = D
  have HD : Hid _ := hD
  have d0 : D[0]? = some (.int .i64 10) := by rw [← hD, ← hkk]; rfl
  clear hD
  have e : Try.f48.ntmps - (#[Value.agg D] : Array Value).size = 103 := by rw [Try.ntmps48]; rfl
  rw [e]
  have hF0 := frame_init1 (.agg D) 103
  generalize ({ tmps := #[Value.agg D] ++ Array.replicate 103 undef, defers := [] } : Act) = a0 at *
  refine sstart hF0 rfl d0 rfl rfl rfl rfl rfl rfl rfl rfl rfl rfl rfl rfl rfl rfl rfl rfl rfl rfl rfl rfl rfl rfl rfl rfl rfl rfl rfl ?_
  generalize w.heap.size = L
  intro a f W hF h1 h2 h3 h8 hS
  clear hF0 d0 e
  refine wp_block ?_
  refine wp_seq (wp_region_list ?_)
  refine swt (d := 9) false hF h1 h2 h3 h8 (h := ?_)
  intro a f hF h1 h2 h3 h8 hp
  show Code.wp _ _ _ _ _
  refine wp_cond_false ((hF.eval 9 (by omega)).trans hp) ?_
  refine wp_seq (wp_region_list ?_)
  refine swt (d := 18) true hF h1 h2 h3 h8 (h := ?_)
  intro a f hF h1 h2 h3 h8 hp
  show Code.wp _ _ _ _ _
  refine wp_cond_true ((hF.eval 18 (by omega)).trans hp) ?_
  refine wp_seq (wp_region_list ?_)
  have c19 : W.cell? ⟨L, 19, none⟩ = some (.slice ao m.views.length cv) := (hS.m.cell 19).trans (by rw [← HD.out]; rfl)
  obtain ⟨v19, u19⟩ := hS.cell 19 (by omega)
  refine cp (d := 20) (p1 := PT L 19) (p3 := PT (L + 2) 19) (u := .slice ao m.views.length cv) hF h1 h2 h3 h8 (r2 := (fun ev h => by simp only [execOp, h]; simp [go_sem, c19])) (r4 := (fun ev h h' => by simp only [execOp, h, h']; simp [go_sem, u19, hS.x.frozen 19])) (hS := (hS.set 19 (.slice ao m.views.length cv))) (h := ?_)
  clear hS c19 u19 v19
  intro a f W hF h1 h2 h3 h8 hS
  show Code.wp _ _ _ _ _
  obtain ⟨E, hS, hE⟩ : ∃ E, SS w L D E W ∧ E = msgCells (shapeM m) (.slice (shapeAo m.kind ao) (shapeM m).views.length (shapeCv m.kind cv)) := ⟨_, hS, by simp [shapeM, hkk, shapeAo, shapeCv, kindC, msgCells, Msg.zero, Str, inB]⟩
  rw [hE, HT.out] at hS
  refine shape_end (d := 23) hF h2 h3 hS (by rw [← HT.out]; simp [msgCells, Value.oneCell', Str]) (by omega) (by omega) rfl rfl rfl rfl rfl rfl ?_
  intro a' W' hbp
  exact hbp
set_option maxRecDepth 100000 in
set_option maxHeartbeats 1600000 in
theorem rshape2a (m : Msg) (ao : Option Addr) (cv : Nat) (w : World) (hkk : m.kind = 2) (hq0 : m.err = 0) :
    Calls Try.prog 48 #[.agg (msgCells m (.slice ao m.views.length cv))] w (fun e w' => e = .returned (.agg (msgCells (shapeM m) (.slice (shapeAo m.kind ao) (shapeM m).views.length (shapeCv m.kind cv)))) ∧ Below w.heap.size w w') := by
  refine calls_of_wp Try.func48 rfl ?_
  generalize hT : msgCells (shapeM m) (.slice (shapeAo m.kind ao) (shapeM m).views.length (shapeCv m.kind cv)) = T
  have HT : Hid _ := hT
  clear hT
  generalize hD : msgCells m (.slice ao m.views.length cv) = D
  have HD : Hid _ := hD
  have d0 : D[0]? = some (.int .i64 2) := by rw [← hD, ← hkk]; rfl
  clear hD
  have e : Try.f48.ntmps - (#[Value.agg D] : Array Value).size = 103 := by rw [Try.ntmps48]; rfl
  rw [e]
  have hF0 := frame_init1 (.agg D) 103
  generalize ({ tmps := #[Value.agg D] ++ Array.replicate 103 undef, defers := [] } : Act) = a0 at *
  refine sstart hF0 rfl d0 rfl rfl rfl rfl rfl rfl rfl rfl rfl rfl rfl rfl rfl rfl rfl rfl rfl rfl rfl rfl rfl rfl rfl rfl rfl rfl rfl ?_
  generalize w.heap.size = L
  intro a f W hF h1 h2 h3 h8 hS
  clear hF0 d0 e
  refine wp_block ?_
  refine wp_seq (wp_region_list ?_)
  refine swt (d := 9) false hF h1 h2 h3 h8 (h := ?_)
  intro a f hF h1 h2 h3 h8 hp
  show Code.wp _ _ _ _ _
  refine wp_cond_false ((hF.eval 9 (by omega)).trans hp) ?_
  refine wp_seq (wp_region_list ?_)
  refine swt (d := 18) false hF h1 h2 h3 h8 (h := ?_)
  intro a f hF h1 h2 h3 h8 hp
  show Code.wp _ _ _ _ _
  refine wp_cond_false ((hF.eval 18 (by omega)).trans hp) ?_
  refine wp_seq (wp_region_list ?_)
  refine swt (d := 24) true hF h1 h2 h3 h8 (h := ?_)
  intro a f hF h1 h2 h3 h8 hp
  show Code.wp _ _ _ _ _
  refine wp_cond_true ((hF.eval 24 (by omega)).trans hp) ?_
  refine wp_seq (wp_region_list ?_)
  have c11 : W.cell? ⟨L, 11, none⟩ = some (.int .i64 m.session) := (hS.m.cell 11).trans (by rw [← HD.out]; rfl)
  obtain ⟨v11, u11⟩ := hS.cell 11 (by omega)
  have c12 : W.cell? ⟨L, 12, none⟩ = some (.int .i64 m.id) := (hS.m.cell 12).trans (by rw [← HD.out]; rfl)
  obtain ⟨v12, u12⟩ := hS.cell 12 (by omega)
  refine cp (d := 26) (p1 := PT L 11) (p3 := PT (L + 2) 11) (u := .agg #[.int .i64 m.session, .int .i64 m.id]) hF h1 h2 h3 h8 (r2 := (fun ev h => by simp only [execOp, h]; simp [go_sem, c11, c12])) (r4 := (fun ev h h' => by simp only [execOp, h, h']; simp [go_sem, u11, u12, hS.x.frozen 11, hS.x.frozen 12])) (hS := ((hS.set 11 (.int .i64 m.session)).set 12 (.int .i64 m.id))) (h := ?_)
  clear hS c11 u11 v11 c12 u12 v12
  intro a f W hF h1 h2 h3 h8 hS
  show Code.wp _ _ _ _ _
  refine wp_seq (wp_region_list ?_)
  have c1 : W.cell? ⟨L, 1, none⟩ = some (.string ⟨m.name.toArray⟩) := (hS.m.cell 1).trans (by rw [← HD.out]; rfl)
  obtain ⟨v1, u1⟩ := hS.cell 1 (by omega)
  refine cp (d := 29) (p1 := PT L 1) (p3 := PT (L + 2) 1) (u := .string ⟨m.name.toArray⟩) hF h1 h2 h3 h8 (r2 := (fun ev h => by simp only [execOp, h]; simp [go_sem, c1])) (r4 := (fun ev h h' => by simp only [execOp, h, h']; simp [go_sem, u1, hS.x.frozen 1])) (hS := (hS.set 1 (.string ⟨m.name.toArray⟩))) (h := ?_)
  clear hS c1 u1 v1
  intro a f W hF h1 h2 h3 h8 hS
  show Code.wp _ _ _ _ _
  refine wp_seq (wp_region_list ?_)
  have c17 : W.cell? ⟨L, 17, none⟩ = some (.int .i64 m.err) := (hS.m.cell 17).trans (by rw [← HD.out]; rfl)
  obtain ⟨v17, u17⟩ := hS.cell 17 (by omega)
  refine cp (d := 32) (p1 := PT L 17) (p3 := PT (L + 2) 17) (u := .int .i64 m.err) hF h1 h2 h3 h8 (r2 := (fun ev h => by simp only [execOp, h]; simp [go_sem, c17])) (r4 := (fun ev h h' => by simp only [execOp, h, h']; simp [go_sem, u17, hS.x.frozen 17])) (hS := (hS.set 17 (.int .i64 m.err))) (h := ?_)
  clear hS c17 u17 v17
  intro a f W hF h1 h2 h3 h8 hS
  show Code.wp _ _ _ _ _
  refine wp_seq ?_
  refine wp_seq (wp_region_list ?_)
  have c17 : W.cell? ⟨L, 17, none⟩ = some (.int .i64 m.err) := (hS.m.cell 17).trans (by rw [← HD.out]; rfl)
  refine tst (d := 35) (p1 := PT L 17) (u := .int .i64 m.err) true hF h1 h2 h3 h8 (r2 := (fun ev h => by simp only [execOp, h]; simp [go_sem, c17])) (r3 := (fun ev hcst h => by simp only [execOp, h, hcst]; simp [go_sem, hq0])) (h := ?_)
  intro a f hF h1 h2 h3 h8 hp
  refine mv8 (d := 38) (p := 37) hF h1 h2 h3 h8 hp (h := ?_)
  intro a f hF h1 h2 h3 h8 hp
  refine gk (d := 39) (p := 38) (g := 3) (p1 := PT L 17) (u := .int .i64 m.err) false hF false h1 h2 h3 h8 hp (r2 := (fun ev h => by simp only [execOp, h]; simp [go_sem, c17])) (r3 := (fun ev hcst h => by simp only [execOp, h, hcst]; simp [go_sem, hq0])) (h := ?_)
  intro a f hF h1 h2 h3 h8 hp
  clear c17
  refine wpList_nil ?_
  show Code.wp _ _ _ _ _
  refine wp_cond_true ((hF.eval 42 (by omega)).trans hp) ?_
  refine wp_seq (wp_region_list ?_)
  have c2 : W.cell? ⟨L, 2, none⟩ = some (.int .i64 m.cap) := (hS.m.cell 2).trans (by rw [← HD.out]; rfl)
  obtain ⟨v2, u2⟩ := hS.cell 2 (by omega)
  refine cp (d := 43) (p1 := PT L 2) (p3 := PT (L + 2) 2) (u := .int .i64 m.cap) hF h1 h2 h3 h8 (r2 := (fun ev h => by simp only [execOp, h]; simp [go_sem, c2])) (r4 := (fun ev h h' => by simp only [execOp, h, h']; simp [go_sem, u2, hS.x.frozen 2])) (hS := (hS.set 2 (.int .i64 m.cap))) (h := ?_)
  clear hS c2 u2 v2
  intro a f W hF h1 h2 h3 h8 hS
  show Code.wp _ _ _ _ _
  refine wp_region_list ?_
  have c3 : W.cell? ⟨L, 3, none⟩ = some (.int .i64 m.recaps) := (hS.m.cell 3).trans (by rw [← HD.out]; rfl)
  obtain ⟨v3, u3⟩ := hS.cell 3 (by omega)
  refine cp (d := 46) (p1 := PT L 3) (p3 := PT (L + 2) 3) (u := .int .i64 m.recaps) hF h1 h2 h3 h8 (r2 := (fun ev h => by simp only [execOp, h]; simp [go_sem, c3])) (r4 := (fun ev h h' => by simp only [execOp, h, h']; simp [go_sem, u3, hS.x.frozen 3])) (hS := (hS.set 3 (.int .i64 m.recaps))) (h := ?_)
  clear hS c3 u3 v3
  intro a f W hF h1 h2 h3 h8 hS
  show Code.wp _ _ _ _ _
  obtain ⟨E, hS, hE⟩ : ∃ E, SS w L D E W ∧ E = msgCells (shapeM m) (.slice (shapeAo m.kind ao) (shapeM m).views.length (shapeCv m.kind cv)) := ⟨_, hS, by simp [shapeM, hkk, shapeAo, shapeCv, kindC, msgCells, Msg.zero, Str, inB, hasCap, hq0]⟩
  rw [hE, HT.out] at hS
  refine shape_end (d := 49) hF h2 h3 hS (by rw [← HT.out]; simp [msgCells, Value.oneCell', Str]) (by omega) (by omega) rfl rfl rfl rfl rfl rfl ?_
  intro a' W' hbp
  exact hbp
set_option maxRecDepth 100000 in
set_option maxHeartbeats 1600000 in
theorem rshape2b (m : Msg) (ao : Option Addr) (cv : Nat) (w : World) (hkk : m.kind = 2) (hq1 : m.err = 101) :
    Calls Try.prog 48 #[.agg (msgCells m (.slice ao m.views.length cv))] w (fun e w' => e = .returned (.agg (msgCells (shapeM m) (.slice (shapeAo m.kind ao) (shapeM m).views.length (shapeCv m.kind cv)))) ∧ Below w.heap.size w w') := by
  refine calls_of_wp Try.func48 rfl ?_
  generalize hT : msgCells (shapeM m) (.slice (shapeAo m.kind ao) (shapeM m).views.length (shapeCv m.kind cv)) = T
  have HT : Hid _ := hT
  clear hT
  generalize hD : msgCells m (.slice ao m.views.length cv) = D
  have HD : Hid _ := hD
  have d0 : D[0]? = some (.int .i64 2) := by rw [← hD, ← hkk]; rfl
  clear hD
  have e : Try.f48.ntmps - (#[Value.agg D] : Array Value).size = 103 := by rw [Try.ntmps48]; rfl
  rw [e]
  have hF0 := frame_init1 (.agg D) 103
  generalize ({ tmps := #[Value.agg D] ++ Array.replicate 103 undef, defers := [] } : Act) = a0 at *
  refine sstart hF0 rfl d0 rfl rfl rfl rfl rfl rfl rfl rfl rfl rfl rfl rfl rfl rfl rfl rfl rfl rfl rfl rfl rfl rfl rfl rfl rfl rfl rfl ?_
  generalize w.heap.size = L
  intro a f W hF h1 h2 h3 h8 hS
  clear hF0 d0 e
  refine wp_block ?_
  refine wp_seq (wp_region_list ?_)
  refine swt (d := 9) false hF h1 h2 h3 h8 (h := ?_)
  intro a f hF h1 h2 h3 h8 hp
  show Code.wp _ _ _ _ _
  refine wp_cond_false ((hF.eval 9 (by omega)).trans hp) ?_
  refine wp_seq (wp_region_list ?_)
  refine swt (d := 18) false hF h1 h2 h3 h8 (h := ?_)
  intro a f hF h1 h2 h3 h8 hp
  show Code.wp _ _ _ _ _
  refine wp_cond_false ((hF.eval 18 (by omega)).trans hp) ?_
  refine wp_seq (wp_region_list ?_)
  refine swt (d := 24) true hF h1 h2 h3 h8 (h := ?_)
  intro a f hF h1 h2 h3 h8 hp
  show Code.wp _ _ _ _ _
  refine wp_cond_true ((hF.eval 24 (by omega)).trans hp) ?_
  refine wp_seq (wp_region_list ?_)
  have c11 : W.cell? ⟨L, 11, none⟩ = some (.int .i64 m.session) := (hS.m.cell 11).trans (by rw [← HD.out]; rfl)
  obtain ⟨v11, u11⟩ := hS.cell 11 (by omega)
  have c12 : W.cell? ⟨L, 12, none⟩ = some (.int .i64 m.id) := (hS.m.cell 12).trans (by rw [← HD.out]; rfl)
  obtain ⟨v12, u12⟩ := hS.cell 12 (by omega)
  refine cp (d := 26) (p1 := PT L 11) (p3 := PT (L + 2) 11) (u := .agg #[.int .i64 m.session, .int .i64 m.id]) hF h1 h2 h3 h8 (r2 := (fun ev h => by simp only [execOp, h]; simp [go_sem, c11, c12])) (r4 := (fun ev h h' => by simp only [execOp, h, h']; simp [go_sem, u11, u12, hS.x.frozen 11, hS.x.frozen 12])) (hS := ((hS.set 11 (.int .i64 m.session)).set 12 (.int .i64 m.id))) (h := ?_)
  clear hS c11 u11 v11 c12 u12 v12
  intro a f W hF h1 h2 h3 h8 hS
  show Code.wp _ _ _ _ _
  refine wp_seq (wp_region_list ?_)
  have c1 : W.cell? ⟨L, 1, none⟩ = some (.string ⟨m.name.toArray⟩) := (hS.m.cell 1).trans (by rw [← HD.out]; rfl)
  obtain ⟨v1, u1⟩ := hS.cell 1 (by omega)
  refine cp (d := 29) (p1 := PT L 1) (p3 := PT (L + 2) 1) (u := .string ⟨m.name.toArray⟩) hF h1 h2 h3 h8 (r2 := (fun ev h => by simp only [execOp, h]; simp [go_sem, c1])) (r4 := (fun ev h h' => by simp only [execOp, h, h']; simp [go_sem, u1, hS.x.frozen 1])) (hS := (hS.set 1 (.string ⟨m.name.toArray⟩))) (h := ?_)
  clear hS c1 u1 v1
  intro a f W hF h1 h2 h3 h8 hS
  show Code.wp _ _ _ _ _
  refine wp_seq (wp_region_list ?_)
  have c17 : W.cell? ⟨L, 17, none⟩ = some (.int .i64 m.err) := (hS.m.cell 17).trans (by rw [← HD.out]; rfl)
  obtain ⟨v17, u17⟩ := hS.cell 17 (by omega)
  refine cp (d := 32) (p1 := PT L 17) (p3 := PT (L + 2) 17) (u := .int .i64 m.err) hF h1 h2 h3 h8 (r2 := (fun ev h => by simp only [execOp, h]; simp [go_sem, c17])) (r4 := (fun ev h h' => by simp only [execOp, h, h']; simp [go_sem, u17, hS.x.frozen 17])) (hS := (hS.set 17 (.int .i64 m.err))) (h := ?_)
  clear hS c17 u17 v17
  intro a f W hF h1 h2 h3 h8 hS
  show Code.wp _ _ _ _ _
  refine wp_seq ?_
  refine wp_seq (wp_region_list ?_)
  have c17 : W.cell? ⟨L, 17, none⟩ = some (.int .i64 m.err) := (hS.m.cell 17).trans (by rw [← HD.out]; rfl)
  refine tst (d := 35) (p1 := PT L 17) (u := .int .i64 m.err) false hF h1 h2 h3 h8 (r2 := (fun ev h => by simp only [execOp, h]; simp [go_sem, c17])) (r3 := (fun ev hcst h => by simp only [execOp, h, hcst]; simp [go_sem, hq1])) (h := ?_)
  intro a f hF h1 h2 h3 h8 hp
  refine mv8 (d := 38) (p := 37) hF h1 h2 h3 h8 hp (h := ?_)
  intro a f hF h1 h2 h3 h8 hp
  refine gk (d := 39) (p := 38) (g := 3) (p1 := PT L 17) (u := .int .i64 m.err) false hF true h1 h2 h3 h8 hp (r2 := (fun ev h => by simp only [execOp, h]; simp [go_sem, c17])) (r3 := (fun ev hcst h => by simp only [execOp, h, hcst]; simp [go_sem, hq1])) (h := ?_)
  intro a f hF h1 h2 h3 h8 hp
  clear c17
  refine wpList_nil ?_
  show Code.wp _ _ _ _ _
  refine wp_cond_true ((hF.eval 42 (by omega)).trans hp) ?_
  refine wp_seq (wp_region_list ?_)
  have c2 : W.cell? ⟨L, 2, none⟩ = some (.int .i64 m.cap) := (hS.m.cell 2).trans (by rw [← HD.out]; rfl)
  obtain ⟨v2, u2⟩ := hS.cell 2 (by omega)
  refine cp (d := 43) (p1 := PT L 2) (p3 := PT (L + 2) 2) (u := .int .i64 m.cap) hF h1 h2 h3 h8 (r2 := (fun ev h => by simp only [execOp, h]; simp [go_sem, c2])) (r4 := (fun ev h h' => by simp only [execOp, h, h']; simp [go_sem, u2, hS.x.frozen 2])) (hS := (hS.set 2 (.int .i64 m.cap))) (h := ?_)
  clear hS c2 u2 v2
  intro a f W hF h1 h2 h3 h8 hS
  show Code.wp _ _ _ _ _
  refine wp_region_list ?_
  have c3 : W.cell? ⟨L, 3, none⟩ = some (.int .i64 m.recaps) := (hS.m.cell 3).trans (by rw [← HD.out]; rfl)
  obtain ⟨v3, u3⟩ := hS.cell 3 (by omega)
  refine cp (d := 46) (p1 := PT L 3) (p3 := PT (L + 2) 3) (u := .int .i64 m.recaps) hF h1 h2 h3 h8 (r2 := (fun ev h => by simp only [execOp, h]; simp [go_sem, c3])) (r4 := (fun ev h h' => by simp only [execOp, h, h']; simp [go_sem, u3, hS.x.frozen 3])) (hS := (hS.set 3 (.int .i64 m.recaps))) (h := ?_)
  clear hS c3 u3 v3
  intro a f W hF h1 h2 h3 h8 hS
  show Code.wp _ _ _ _ _
  obtain ⟨E, hS, hE⟩ : ∃ E, SS w L D E W ∧ E = msgCells (shapeM m) (.slice (shapeAo m.kind ao) (shapeM m).views.length (shapeCv m.kind cv)) := ⟨_, hS, by simp [shapeM, hkk, shapeAo, shapeCv, kindC, msgCells, Msg.zero, Str, inB, hasCap, hq1]⟩
  rw [hE, HT.out] at hS
  refine shape_end (d := 49) hF h2 h3 hS (by rw [← HT.out]; simp [msgCells, Value.oneCell', Str]) (by omega) (by omega) rfl rfl rfl rfl rfl rfl ?_
  intro a' W' hbp
  exact hbp
set_option maxRecDepth 100000 in
set_option maxHeartbeats 1600000 in
theorem rshape2c (m : Msg) (ao : Option Addr) (cv : Nat) (w : World) (hkk : m.kind = 2) (hq0 : ¬ m.err = 0) (hq1 : ¬ m.err = 101) :
    Calls Try.prog 48 #[.agg (msgCells m (.slice ao m.views.length cv))] w (fun e w' => e = .returned (.agg (msgCells (shapeM m) (.slice (shapeAo m.kind ao) (shapeM m).views.length (shapeCv m.kind cv)))) ∧ Below w.heap.size w w') := by
  refine calls_of_wp Try.func48 rfl ?_
  generalize hT : msgCells (shapeM m) (.slice (shapeAo m.kind ao) (shapeM m).views.length (shapeCv m.kind cv)) = T
  have HT : Hid _ := hT
  clear hT
  generalize hD : msgCells m (.slice ao m.views.length cv) = D
  have HD : Hid _ := hD
  have d0 : D[0]? = some (.int .i64 2) := by rw [← hD, ← hkk]; rfl
  clear hD
  have e : Try.f48.ntmps - (#[Value.agg D] : Array Value).size = 103 := by rw [Try.ntmps48]; rfl
  rw [e]
  have hF0 := frame_init1 (.agg D) 103
  generalize ({ tmps := #[Value.agg D] ++ Array.replicate 103 undef, defers := [] } : Act) = a0 at *
  refine sstart hF0 rfl d0 rfl rfl rfl rfl rfl rfl rfl rfl rfl rfl rfl rfl rfl rfl rfl rfl rfl rfl rfl rfl rfl rfl rfl rfl rfl rfl rfl ?_
  generalize w.heap.size = L
  intro a f W hF h1 h2 h3 h8 hS
  clear hF0 d0 e
  refine wp_block ?_
  refine wp_seq (wp_region_list ?_)
  refine swt (d := 9) false hF h1 h2 h3 h8 (h := ?_)
  intro a f hF h1 h2 h3 h8 hp
  show Code.wp _ _ _ _ _
  refine wp_cond_false ((hF.eval 9 (by omega)).trans hp) ?_
  refine wp_seq (wp_region_list ?_)
  refine swt (d := 18) false hF h1 h2 h3 h8 (h := ?_)
  intro a f hF h1 h2 h3 h8 hp
  show Code.wp _ _ _ _ _
  refine wp_cond_false ((hF.eval 18 (by omega)).trans hp) ?_
  refine wp_seq (wp_region_list ?_)
  refine swt (d := 24) true hF h1 h2 h3 h8 (h := ?_)
  intro a f hF h1 h2 h3 h8 hp
  show Code.wp _ _ _ _ _
  refine wp_cond_true ((hF.eval 24 (by omega)).trans hp) ?_
  refine wp_seq (wp_region_list ?_)
  have c11 : W.cell? ⟨L, 11, none⟩ = some (.int .i64 m.session) := (hS.m.cell 11).trans (by rw [← HD.out]; rfl)
  obtain ⟨v11, u11⟩ := hS.cell 11 (by omega)
  have c12 : W.cell? ⟨L, 12, none⟩ = some (.int .i64 m.id) := (hS.m.cell 12).trans (by rw [← HD.out]; rfl)
  obtain ⟨v12, u12⟩ := hS.cell 12 (by omega)
  refine cp (d := 26) (p1 := PT L 11) (p3 := PT (L + 2) 11) (u := .agg #[.int .i64 m.session, .int .i64 m.id]) hF h1 h2 h3 h8 (r2 := (fun ev h => by simp only [execOp, h]; simp [go_sem, c11, c12])) (r4 := (fun ev h h' => by simp only [execOp, h, h']; simp [go_sem, u11, u12, hS.x.frozen 11, hS.x.frozen 12])) (hS := ((hS.set 11 (.int .i64 m.session)).set 12 (.int .i64 m.id))) (h := ?_)
  clear hS c11 u11 v11 c12 u12 v12
  intro a f W hF h1 h2 h3 h8 hS
  show Code.wp _ _ _ _ _
  refine wp_seq (wp_region_list ?_)
  have c1 : W.cell? ⟨L, 1, none⟩ = some (.string ⟨m.name.toArray⟩) := (hS.m.cell 1).trans (by rw [← HD.out]; rfl)
  obtain ⟨v1, u1⟩ := hS.cell 1 (by omega)
  refine cp (d := 29) (p1 := PT L 1) (p3 := PT (L + 2) 1) (u := .string ⟨m.name.toArray⟩) hF h1 h2 h3 h8 (r2 := (fun ev h => by simp only [execOp, h]; simp [go_sem, c1])) (r4 := (fun ev h h' => by simp only [execOp, h, h']; simp [go_sem, u1, hS.x.frozen 1])) (hS := (hS.set 1 (.string ⟨m.name.toArray⟩))) (h := ?_)
  clear hS c1 u1 v1
  intro a f W hF h1 h2 h3 h8 hS
  show Code.wp _ _ _ _ _
  refine wp_seq (wp_region_list ?_)
  have c17 : W.cell? ⟨L, 17, none⟩ = some (.int .i64 m.err) := (hS.m.cell 17).trans (by rw [← HD.out]; rfl)
  obtain ⟨v17, u17⟩ := hS.cell 17 (by omega)
  refine cp (d := 32) (p1 := PT L 17) (p3 := PT (L + 2) 17) (u := .int .i64 m.err) hF h1 h2 h3 h8 (r2 := (fun ev h => by simp only [execOp, h]; simp [go_sem, c17])) (r4 := (fun ev h h' => by simp only [execOp, h, h']; simp [go_sem, u17, hS.x.frozen 17])) (hS := (hS.set 17 (.int .i64 m.err))) (h := ?_)
  clear hS c17 u17 v17
  intro a f W hF h1 h2 h3 h8 hS
  show Code.wp _ _ _ _ _
  refine wp_seq ?_
  refine wp_seq (wp_region_list ?_)
  have c17 : W.cell? ⟨L, 17, none⟩ = some (.int .i64 m.err) := (hS.m.cell 17).trans (by rw [← HD.out]; rfl)
  refine tst (d := 35) (p1 := PT L 17) (u := .int .i64 m.err) false hF h1 h2 h3 h8 (r2 := (fun ev h => by simp only [execOp, h]; simp [go_sem, c17])) (r3 := (fun ev hcst h => by simp only [execOp, h, hcst]; simp [go_sem, hq0, hq1])) (h := ?_)
  intro a f hF h1 h2 h3 h8 hp
  refine mv8 (d := 38) (p := 37) hF h1 h2 h3 h8 hp (h := ?_)
  intro a f hF h1 h2 h3 h8 hp
  refine gk (d := 39) (p := 38) (g := 3) (p1 := PT L 17) (u := .int .i64 m.err) false hF false h1 h2 h3 h8 hp (r2 := (fun ev h => by simp only [execOp, h]; simp [go_sem, c17])) (r3 := (fun ev hcst h => by simp only [execOp, h, hcst]; simp [go_sem, hq0, hq1])) (h := ?_)
  intro a f hF h1 h2 h3 h8 hp
  clear c17
  refine wpList_nil ?_
  show Code.wp _ _ _ _ _
  refine wp_cond_false ((hF.eval 42 (by omega)).trans hp) ?_
  refine wp_skip ?_
  show Code.wp _ _ _ _ _
  obtain ⟨E, hS, hE⟩ : ∃ E, SS w L D E W ∧ E = msgCells (shapeM m) (.slice (shapeAo m.kind ao) (shapeM m).views.length (shapeCv m.kind cv)) := ⟨_, hS, by simp [shapeM, hkk, shapeAo, shapeCv, kindC, msgCells, Msg.zero, Str, inB, hasCap, hq0, hq1]⟩
  rw [hE, HT.out] at hS
  refine shape_end (d := 49) hF h2 h3 hS (by rw [← HT.out]; simp [msgCells, Value.oneCell', Str]) (by omega) (by omega) rfl rfl rfl rfl rfl rfl ?_
  intro a' W' hbp
  exact hbp
set_option maxRecDepth 100000 in
set_option maxHeartbeats 1600000 in
theorem rshape3 (m : Msg) (ao : Option Addr) (cv : Nat) (w : World) (hkk : m.kind = 3) :
    Calls Try.prog 48 #[.agg (msgCells m (.slice ao m.views.length cv))] w (fun e w' => e = .returned (.agg (msgCells (shapeM m) (.slice (shapeAo m.kind ao) (shapeM m).views.length (shapeCv m.kind cv)))) ∧ Below w.heap.size w w') := by
  refine calls_of_wp Try.func48 rfl ?_
  generalize hT : msgCells (shapeM m) (.slice (shapeAo m.kind ao) (shapeM m).views.length (shapeCv m.kind cv)) = T
  have HT : Hid _ := hT
  clear hT
  generalize hD : msgCells m (.slice ao m.views.length cv) = D
  have HD : Hid _ := hD
  have d0 : D[0]? = some (.int .i64 3) := by rw [← hD, ← hkk]; rfl
  clear hD
  have e : Try.f48.ntmps - (#[Value.agg D] : Array Value).size = 103 := by rw [Try.ntmps48]; rfl
  rw [e]
  have hF0 := frame_init1 (.agg D) 103
  generalize ({ tmps := #[Value.agg D] ++ Array.replicate 103 undef, defers := [] } : Act) = a0 at *
  refine sstart hF0 rfl d0 rfl rfl rfl rfl rfl rfl rfl rfl rfl rfl rfl rfl rfl rfl rfl rfl rfl rfl rfl rfl rfl rfl rfl rfl rfl rfl rfl ?_
  generalize w.heap.size = L
  intro a f W hF h1 h2 h3 h8 hS
  clear hF0 d0 e
  refine wp_block ?_
  refine wp_seq (wp_region_list ?_)
  refine swt (d := 9) false hF h1 h2 h3 h8 (h := ?_)
  intro a f hF h1 h2 h3 h8 hp
  show Code.wp _ _ _ _ _
  refine wp_cond_false ((hF.eval 9 (by omega)).trans hp) ?_
  refine wp_seq (wp_region_list ?_)
  refine swt (d := 18) false hF h1 h2 h3 h8 (h := ?_)
  intro a f hF h1 h2 h3 h8 hp
  show Code.wp _ _ _ _ _
  refine wp_cond_false ((hF.eval 18 (by omega)).trans hp) ?_
  refine wp_seq (wp_region_list ?_)
  refine swt (d := 24) false hF h1 h2 h3 h8 (h := ?_)
  intro a f hF h1 h2 h3 h8 hp
  show Code.wp _ _ _ _ _
  refine wp_cond_false ((hF.eval 24 (by omega)).trans hp) ?_
  refine wp_skip ?_
  show Code.wp _ _ _ _ _
  refine wp_seq (wp_region_list ?_)
  have c1 : W.cell? ⟨L, 1, none⟩ = some (.string ⟨m.name.toArray⟩) := (hS.m.cell 1).trans (by rw [← HD.out]; rfl)
  obtain ⟨v1, u1⟩ := hS.cell 1 (by omega)
  refine cp (d := 50) (p1 := PT L 1) (p3 := PT (L + 2) 1) (u := .string ⟨m.name.toArray⟩) hF h1 h2 h3 h8 (r2 := (fun ev h => by simp only [execOp, h]; simp [go_sem, c1])) (r4 := (fun ev h h' => by simp only [execOp, h, h']; simp [go_sem, u1, hS.x.frozen 1])) (hS := (hS.set 1 (.string ⟨m.name.toArray⟩))) (h := ?_)
  clear hS c1 u1 v1
  intro a f W hF h1 h2 h3 h8 hS
  show Code.wp _ _ _ _ _
  refine wp_seq (wp_region_list ?_)
  have c2 : W.cell? ⟨L, 2, none⟩ = some (.int .i64 m.cap) := (hS.m.cell 2).trans (by rw [← HD.out]; rfl)
  obtain ⟨v2, u2⟩ := hS.cell 2 (by omega)
  refine cp (d := 53) (p1 := PT L 2) (p3 := PT (L + 2) 2) (u := .int .i64 m.cap) hF h1 h2 h3 h8 (r2 := (fun ev h => by simp only [execOp, h]; simp [go_sem, c2])) (r4 := (fun ev h h' => by simp only [execOp, h, h']; simp [go_sem, u2, hS.x.frozen 2])) (hS := (hS.set 2 (.int .i64 m.cap))) (h := ?_)
  clear hS c2 u2 v2
  intro a f W hF h1 h2 h3 h8 hS
  show Code.wp _ _ _ _ _
  refine wp_seq (wp_region_list ?_)
  have c3 : W.cell? ⟨L, 3, none⟩ = some (.int .i64 m.recaps) := (hS.m.cell 3).trans (by rw [← HD.out]; rfl)
  obtain ⟨v3, u3⟩ := hS.cell 3 (by omega)
  refine cp (d := 56) (p1 := PT L 3) (p3 := PT (L + 2) 3) (u := .int .i64 m.recaps) hF h1 h2 h3 h8 (r2 := (fun ev h => by simp only [execOp, h]; simp [go_sem, c3])) (r4 := (fun ev h h' => by simp only [execOp, h, h']; simp [go_sem, u3, hS.x.frozen 3])) (hS := (hS.set 3 (.int .i64 m.recaps))) (h := ?_)
  clear hS c3 u3 v3
  intro a f W hF h1 h2 h3 h8 hS
  show Code.wp _ _ _ _ _
  refine wp_seq ?_
  refine wp_seq (wp_region_list ?_)
  have c0 : W.cell? ⟨L, 0, none⟩ = some (.int .i64 m.kind) := (hS.m.cell 0).trans (by rw [← HD.out]; rfl)
  refine tst (d := 59) (p1 := PT L 0) (u := .int .i64 m.kind) true hF h1 h2 h3 h8 (r2 := (fun ev h => by simp only [execOp, h]; simp [go_sem, c0])) (r3 := (fun ev hcst h => by simp only [execOp, h, hcst]; simp [go_sem, hkk])) (h := ?_)
  intro a f hF h1 h2 h3 h8 hp
  refine mv8 (d := 62) (p := 61) hF h1 h2 h3 h8 hp (h := ?_)
  intro a f hF h1 h2 h3 h8 hp
  refine gk (d := 63) (p := 62) (g := 3) (p1 := PT L 0) (u := .int .i64 m.kind) true hF true h1 h2 h3 h8 hp (r2 := (fun ev h => by simp only [execOp, h]; simp [go_sem, c0])) (r3 := (fun ev hcst h => by simp only [execOp, h, hcst]; simp [go_sem, hkk])) (h := ?_)
  intro a f hF h1 h2 h3 h8 hp
  clear c0
  refine wpList_nil ?_
  show Code.wp _ _ _ _ _
  refine wp_cond_true ((hF.eval 66 (by omega)).trans hp) ?_
  refine wp_region_list ?_
  have c4 : W.cell? ⟨L, 4, none⟩ = some (.int .i64 m.round) := (hS.m.cell 4).trans (by rw [← HD.out]; rfl)
  obtain ⟨v4, u4⟩ := hS.cell 4 (by omega)
  have c5 : W.cell? ⟨L, 5, none⟩ = some (.int .i64 m.rank) := (hS.m.cell 5).trans (by rw [← HD.out]; rfl)
  obtain ⟨v5, u5⟩ := hS.cell 5 (by omega)
  refine cp (d := 67) (p1 := PT L 4) (p3 := PT (L + 2) 4) (u := .agg #[.int .i64 m.round, .int .i64 m.rank]) hF h1 h2 h3 h8 (r2 := (fun ev h => by simp only [execOp, h]; simp [go_sem, c4, c5])) (r4 := (fun ev h h' => by simp only [execOp, h, h']; simp [go_sem, u4, u5, hS.x.frozen 4, hS.x.frozen 5])) (hS := ((hS.set 4 (.int .i64 m.round)).set 5 (.int .i64 m.rank))) (h := ?_)
  clear hS c4 u4 v4 c5 u5 v5
  intro a f W hF h1 h2 h3 h8 hS
  show Code.wp _ _ _ _ _
  refine wp_seq ?_
  refine wp_seq (wp_region_list ?_)
  have c0 : W.cell? ⟨L, 0, none⟩ = some (.int .i64 m.kind) := (hS.m.cell 0).trans (by rw [← HD.out]; rfl)
  refine tst (d := 70) (p1 := PT L 0) (u := .int .i64 m.kind) false hF h1 h2 h3 h8 (r2 := (fun ev h => by simp only [execOp, h]; simp [go_sem, c0])) (r3 := (fun ev hcst h => by simp only [execOp, h, hcst]; simp [go_sem, hkk])) (h := ?_)
  intro a f hF h1 h2 h3 h8 hp
  clear c0
  refine wpList_nil ?_
  show Code.wp _ _ _ _ _
  refine wp_cond_false ((hF.eval 72 (by omega)).trans hp) ?_
  refine wp_skip ?_
  show Code.wp _ _ _ _ _
  refine wp_seq ?_
  refine wp_seq (wp_region_list ?_)
  have c0 : W.cell? ⟨L, 0, none⟩ = some (.int .i64 m.kind) := (hS.m.cell 0).trans (by rw [← HD.out]; rfl)
  refine tst (d := 76) (p1 := PT L 0) (u := .int .i64 m.kind) false hF h1 h2 h3 h8 (r2 := (fun ev h => by simp only [execOp, h]; simp [go_sem, c0])) (r3 := (fun ev hcst h => by simp only [execOp, h, hcst]; simp [go_sem, hkk])) (h := ?_)
  intro a f hF h1 h2 h3 h8 hp
  refine mv8 (d := 79) (p := 78) hF h1 h2 h3 h8 hp (h := ?_)
  intro a f hF h1 h2 h3 h8 hp
  refine gk (d := 80) (p := 79) (g := 3) (p1 := PT L 0) (u := .int .i64 m.kind) true hF true h1 h2 h3 h8 hp (r2 := (fun ev h => by simp only [execOp, h]; simp [go_sem, c0])) (r3 := (fun ev hcst h => by simp only [execOp, h, hcst]; simp [go_sem, hkk])) (h := ?_)
  intro a f hF h1 h2 h3 h8 hp
  refine mv8 (d := 84) (p := 83) hF h1 h2 h3 h8 hp (h := ?_)
  intro a f hF h1 h2 h3 h8 hp
  refine gk (d := 85) (p := 84) (g := 8) (p1 := PT L 0) (u := .int .i64 m.kind) false hF false h1 h2 h3 h8 hp (r2 := (fun ev h => by simp only [execOp, h]; simp [go_sem, c0])) (r3 := (fun ev hcst h => by simp only [execOp, h, hcst]; simp [go_sem, hkk])) (h := ?_)
  intro a f hF h1 h2 h3 h8 hp
  refine mv8 (d := 89) (p := 88) hF h1 h2 h3 h8 hp (h := ?_)
  intro a f hF h1 h2 h3 h8 hp
  refine gk (d := 90) (p := 89) (g := 13) (p1 := PT L 0) (u := .int .i64 m.kind) false hF false h1 h2 h3 h8 hp (r2 := (fun ev h => by simp only [execOp, h]; simp [go_sem, c0])) (r3 := (fun ev hcst h => by simp only [execOp, h, hcst]; simp [go_sem, hkk])) (h := ?_)
  intro a f hF h1 h2 h3 h8 hp
  clear c0
  refine wpList_nil ?_
  show Code.wp _ _ _ _ _
  refine wp_cond_false ((hF.eval 93 (by omega)).trans hp) ?_
  refine wp_skip ?_
  show Code.wp _ _ _ _ _
  refine wp_seq ?_
  refine wp_seq (wp_region_list ?_)
  have c0 : W.cell? ⟨L, 0, none⟩ = some (.int .i64 m.kind) := (hS.m.cell 0).trans (by rw [← HD.out]; rfl)
  refine tst (d := 97) (p1 := PT L 0) (u := .int .i64 m.kind) false hF h1 h2 h3 h8 (r2 := (fun ev h => by simp only [execOp, h]; simp [go_sem, c0])) (r3 := (fun ev hcst h => by simp only [execOp, h, hcst]; simp [go_sem, hkk])) (h := ?_)
  intro a f hF h1 h2 h3 h8 hp
  clear c0
  refine wpList_nil ?_
  show Code.wp _ _ _ _ _
  refine wp_cond_false ((hF.eval 99 (by omega)).trans hp) ?_
  refine wp_skip ?_
  show Code.wp _ _ _ _ _
  obtain ⟨E, hS, hE⟩ : ∃ E, SS w L D E W ∧ E = msgCells (shapeM m) (.slice (shapeAo m.kind ao) (shapeM m).views.length (shapeCv m.kind cv)) := ⟨_, hS, by simp [shapeM, hkk, shapeAo, shapeCv, kindC, msgCells, Msg.zero, Str, inB]⟩
  rw [hE, HT.out] at hS
  refine shape_end (d := 103) hF h2 h3 hS (by rw [← HT.out]; simp [msgCells, Value.oneCell', Str]) (by omega) (by omega) rfl rfl rfl rfl rfl rfl ?_
  intro a' W' hbp
  exact hbp
set_option maxRecDepth 100000 in
set_option maxHeartbeats 1600000 in
theorem rshape4 (m : Msg) (ao : Option Addr) (cv : Nat) (w : World) (hkk : m.kind = 4) :
    Calls Try.prog 48 #[.agg (msgCells m (.slice ao m.views.length cv))] w (fun e w' => e = .returned (.agg (msgCells (shapeM m) (.slice (shapeAo m.kind ao) (shapeM m).views.length (shapeCv m.kind cv)))) ∧ Below w.heap.size w w') := by
  refine calls_of_wp Try.func48 rfl ?_
  generalize hT : msgCells (shapeM m) (.slice (shapeAo m.kind ao) (shapeM m).views.length (shapeCv m.kind cv)) = T
  have HT : Hid _ := hT
  clear hT
  generalize hD : msgCells m (.slice ao m.views.length cv) = D
  have HD : Hid _ := hD
  have d0 : D[0]? = some (.int .i64 4) := by rw [← hD, ← hkk]; rfl
  clear hD
  have e : Try.f48.ntmps - (#[Value.agg D] : Array Value).size = 103 := by rw [Try.ntmps48]; rfl
  rw [e]
  have hF0 := frame_init1 (.agg D) 103
  generalize ({ tmps := #[Value.agg D] ++ Array.replicate 103 undef, defers := [] } : Act) = a0 at *
  refine sstart hF0 rfl d0 rfl rfl rfl rfl rfl rfl rfl rfl rfl rfl rfl rfl rfl rfl rfl rfl rfl rfl rfl rfl rfl rfl rfl rfl rfl rfl rfl ?_
  generalize w.heap.size = L
  intro a f W hF h1 h2 h3 h8 hS
  clear hF0 d0 e
  refine wp_block ?_
  refine wp_seq (wp_region_list ?_)
  refine swt (d := 9) false hF h1 h2 h3 h8 (h := ?_)
  intro a f hF h1 h2 h3 h8 hp
  show Code.wp _ _ _ _ _
  refine wp_cond_false ((hF.eval 9 (by omega)).trans hp) ?_
  refine wp_seq (wp_region_list ?_)
  refine swt (d := 18) false hF h1 h2 h3 h8 (h := ?_)
  intro a f hF h1 h2 h3 h8 hp
  show Code.wp _ _ _ _ _
  refine wp_cond_false ((hF.eval 18 (by omega)).trans hp) ?_
  refine wp_seq (wp_region_list ?_)
  refine swt (d := 24) false hF h1 h2 h3 h8 (h := ?_)
  intro a f hF h1 h2 h3 h8 hp
  show Code.wp _ _ _ _ _
  refine wp_cond_false ((hF.eval 24 (by omega)).trans hp) ?_
  refine wp_skip ?_
  show Code.wp _ _ _ _ _
  refine wp_seq (wp_region_list ?_)
  have c1 : W.cell? ⟨L, 1, none⟩ = some (.string ⟨m.name.toArray⟩) := (hS.m.cell 1).trans (by rw [← HD.out]; rfl)
  obtain ⟨v1, u1⟩ := hS.cell 1 (by omega)
  refine cp (d := 50) (p1 := PT L 1) (p3 := PT (L + 2) 1) (u := .string ⟨m.name.toArray⟩) hF h1 h2 h3 h8 (r2 := (fun ev h => by simp only [execOp, h]; simp [go_sem, c1])) (r4 := (fun ev h h' => by simp only [execOp, h, h']; simp [go_sem, u1, hS.x.frozen 1])) (hS := (hS.set 1 (.string ⟨m.name.toArray⟩))) (h := ?_)
  clear hS c1 u1 v1
  intro a f W hF h1 h2 h3 h8 hS
  show Code.wp _ _ _ _ _
  refine wp_seq (wp_region_list ?_)
  have c2 : W.cell? ⟨L, 2, none⟩ = some (.int .i64 m.cap) := (hS.m.cell 2).trans (by rw [← HD.out]; rfl)
  obtain ⟨v2, u2⟩ := hS.cell 2 (by omega)
  refine cp (d := 53) (p1 := PT L 2) (p3 := PT (L + 2) 2) (u := .int .i64 m.cap) hF h1 h2 h3 h8 (r2 := (fun ev h => by simp only [execOp, h]; simp [go_sem, c2])) (r4 := (fun ev h h' => by simp only [execOp, h, h']; simp [go_sem, u2, hS.x.frozen 2])) (hS := (hS.set 2 (.int .i64 m.cap))) (h := ?_)
  clear hS c2 u2 v2
  intro a f W hF h1 h2 h3 h8 hS
  show Code.wp _ _ _ _ _
  refine wp_seq (wp_region_list ?_)
  have c3 : W.cell? ⟨L, 3, none⟩ = some (.int .i64 m.recaps) := (hS.m.cell 3).trans (by rw [← HD.out]; rfl)
  obtain ⟨v3, u3⟩ := hS.cell 3 (by omega)
  refine cp (d := 56) (p1 := PT L 3) (p3 := PT (L + 2) 3) (u := .int .i64 m.recaps) hF h1 h2 h3 h8 (r2 := (fun ev h => by simp only [execOp, h]; simp [go_sem, c3])) (r4 := (fun ev h h' => by simp only [execOp, h, h']; simp [go_sem, u3, hS.x.frozen 3])) (hS := (hS.set 3 (.int .i64 m.recaps))) (h := ?_)
  clear hS c3 u3 v3
  intro a f W hF h1 h2 h3 h8 hS
  show Code.wp _ _ _ _ _
  refine wp_seq ?_
  refine wp_seq (wp_region_list ?_)
  have c0 : W.cell? ⟨L, 0, none⟩ = some (.int .i64 m.kind) := (hS.m.cell 0).trans (by rw [← HD.out]; rfl)
  refine tst (d := 59) (p1 := PT L 0) (u := .int .i64 m.kind) true hF h1 h2 h3 h8 (r2 := (fun ev h => by simp only [execOp, h]; simp [go_sem, c0])) (r3 := (fun ev hcst h => by simp only [execOp, h, hcst]; simp [go_sem, hkk])) (h := ?_)
  intro a f hF h1 h2 h3 h8 hp
  refine mv8 (d := 62) (p := 61) hF h1 h2 h3 h8 hp (h := ?_)
  intro a f hF h1 h2 h3 h8 hp
  refine gk (d := 63) (p := 62) (g := 3) (p1 := PT L 0) (u := .int .i64 m.kind) true hF true h1 h2 h3 h8 hp (r2 := (fun ev h => by simp only [execOp, h]; simp [go_sem, c0])) (r3 := (fun ev hcst h => by simp only [execOp, h, hcst]; simp [go_sem, hkk])) (h := ?_)
  intro a f hF h1 h2 h3 h8 hp
  clear c0
  refine wpList_nil ?_
  show Code.wp _ _ _ _ _
  refine wp_cond_true ((hF.eval 66 (by omega)).trans hp) ?_
  refine wp_region_list ?_
  have c4 : W.cell? ⟨L, 4, none⟩ = some (.int .i64 m.round) := (hS.m.cell 4).trans (by rw [← HD.out]; rfl)
  obtain ⟨v4, u4⟩ := hS.cell 4 (by omega)
  have c5 : W.cell? ⟨L, 5, none⟩ = some (.int .i64 m.rank) := (hS.m.cell 5).trans (by rw [← HD.out]; rfl)
  obtain ⟨v5, u5⟩ := hS.cell 5 (by omega)
  refine cp (d := 67) (p1 := PT L 4) (p3 := PT (L + 2) 4) (u := .agg #[.int .i64 m.round, .int .i64 m.rank]) hF h1 h2 h3 h8 (r2 := (fun ev h => by simp only [execOp, h]; simp [go_sem, c4, c5])) (r4 := (fun ev h h' => by simp only [execOp, h, h']; simp [go_sem, u4, u5, hS.x.frozen 4, hS.x.frozen 5])) (hS := ((hS.set 4 (.int .i64 m.round)).set 5 (.int .i64 m.rank))) (h := ?_)
  clear hS c4 u4 v4 c5 u5 v5
  intro a f W hF h1 h2 h3 h8 hS
  show Code.wp _ _ _ _ _
  refine wp_seq ?_
  refine wp_seq (wp_region_list ?_)
  have c0 : W.cell? ⟨L, 0, none⟩ = some (.int .i64 m.kind) := (hS.m.cell 0).trans (by rw [← HD.out]; rfl)
  refine tst (d := 70) (p1 := PT L 0) (u := .int .i64 m.kind) false hF h1 h2 h3 h8 (r2 := (fun ev h => by simp only [execOp, h]; simp [go_sem, c0])) (r3 := (fun ev hcst h => by simp only [execOp, h, hcst]; simp [go_sem, hkk])) (h := ?_)
  intro a f hF h1 h2 h3 h8 hp
  clear c0
  refine wpList_nil ?_
  show Code.wp _ _ _ _ _
  refine wp_cond_false ((hF.eval 72 (by omega)).trans hp) ?_
  refine wp_skip ?_
  show Code.wp _ _ _ _ _
  refine wp_seq ?_
  refine wp_seq (wp_region_list ?_)
  have c0 : W.cell? ⟨L, 0, none⟩ = some (.int .i64 m.kind) := (hS.m.cell 0).trans (by rw [← HD.out]; rfl)
  refine tst (d := 76) (p1 := PT L 0) (u := .int .i64 m.kind) true hF h1 h2 h3 h8 (r2 := (fun ev h => by simp only [execOp, h]; simp [go_sem, c0])) (r3 := (fun ev hcst h => by simp only [execOp, h, hcst]; simp [go_sem, hkk])) (h := ?_)
  intro a f hF h1 h2 h3 h8 hp
  refine mv8 (d := 79) (p := 78) hF h1 h2 h3 h8 hp (h := ?_)
  intro a f hF h1 h2 h3 h8 hp
  refine gk (d := 80) (p := 79) (g := 3) (p1 := PT L 0) (u := .int .i64 m.kind) true hF true h1 h2 h3 h8 hp (r2 := (fun ev h => by simp only [execOp, h]; simp [go_sem, c0])) (r3 := (fun ev hcst h => by simp only [execOp, h, hcst]; simp [go_sem, hkk])) (h := ?_)
  intro a f hF h1 h2 h3 h8 hp
  refine mv8 (d := 84) (p := 83) hF h1 h2 h3 h8 hp (h := ?_)
  intro a f hF h1 h2 h3 h8 hp
  refine gk (d := 85) (p := 84) (g := 8) (p1 := PT L 0) (u := .int .i64 m.kind) false hF false h1 h2 h3 h8 hp (r2 := (fun ev h => by simp only [execOp, h]; simp [go_sem, c0])) (r3 := (fun ev hcst h => by simp only [execOp, h, hcst]; simp [go_sem, hkk])) (h := ?_)
  intro a f hF h1 h2 h3 h8 hp
  refine mv8 (d := 89) (p := 88) hF h1 h2 h3 h8 hp (h := ?_)
  intro a f hF h1 h2 h3 h8 hp
  refine gk (d := 90) (p := 89) (g := 13) (p1 := PT L 0) (u := .int .i64 m.kind) false hF false h1 h2 h3 h8 hp (r2 := (fun ev h => by simp only [execOp, h]; simp [go_sem, c0])) (r3 := (fun ev hcst h => by simp only [execOp, h, hcst]; simp [go_sem, hkk])) (h := ?_)
  intro a f hF h1 h2 h3 h8 hp
  clear c0
  refine wpList_nil ?_
  show Code.wp _ _ _ _ _
  refine wp_cond_true ((hF.eval 93 (by omega)).trans hp) ?_
  refine wp_region_list ?_
  have c8 : W.cell? ⟨L, 8, none⟩ = some (.int .i64 m.down) := (hS.m.cell 8).trans (by rw [← HD.out]; rfl)
  obtain ⟨v8, u8⟩ := hS.cell 8 (by omega)
  have c9 : W.cell? ⟨L, 9, none⟩ = some (.int .i64 m.up) := (hS.m.cell 9).trans (by rw [← HD.out]; rfl)
  obtain ⟨v9, u9⟩ := hS.cell 9 (by omega)
  refine cp (d := 94) (p1 := PT L 8) (p3 := PT (L + 2) 8) (u := .agg #[.int .i64 m.down, .int .i64 m.up]) hF h1 h2 h3 h8 (r2 := (fun ev h => by simp only [execOp, h]; simp [go_sem, c8, c9])) (r4 := (fun ev h h' => by simp only [execOp, h, h']; simp [go_sem, u8, u9, hS.x.frozen 8, hS.x.frozen 9])) (hS := ((hS.set 8 (.int .i64 m.down)).set 9 (.int .i64 m.up))) (h := ?_)
  clear hS c8 u8 v8 c9 u9 v9
  intro a f W hF h1 h2 h3 h8 hS
  show Code.wp _ _ _ _ _
  refine wp_seq ?_
  refine wp_seq (wp_region_list ?_)
  have c0 : W.cell? ⟨L, 0, none⟩ = some (.int .i64 m.kind) := (hS.m.cell 0).trans (by rw [← HD.out]; rfl)
  refine tst (d := 97) (p1 := PT L 0) (u := .int .i64 m.kind) true hF h1 h2 h3 h8 (r2 := (fun ev h => by simp only [execOp, h]; simp [go_sem, c0])) (r3 := (fun ev hcst h => by simp only [execOp, h, hcst]; simp [go_sem, hkk])) (h := ?_)
  intro a f hF h1 h2 h3 h8 hp
  clear c0
  refine wpList_nil ?_
  show Code.wp _ _ _ _ _
  refine wp_cond_true ((hF.eval 99 (by omega)).trans hp) ?_
  refine wp_region_list ?_
  have c10 : W.cell? ⟨L, 10, none⟩ = some (.int .i64 m.held) := (hS.m.cell 10).trans (by rw [← HD.out]; rfl)
  obtain ⟨v10, u10⟩ := hS.cell 10 (by omega)
  refine cp (d := 100) (p1 := PT L 10) (p3 := PT (L + 2) 10) (u := .int .i64 m.held) hF h1 h2 h3 h8 (r2 := (fun ev h => by simp only [execOp, h]; simp [go_sem, c10])) (r4 := (fun ev h h' => by simp only [execOp, h, h']; simp [go_sem, u10, hS.x.frozen 10])) (hS := (hS.set 10 (.int .i64 m.held))) (h := ?_)
  clear hS c10 u10 v10
  intro a f W hF h1 h2 h3 h8 hS
  show Code.wp _ _ _ _ _
  obtain ⟨E, hS, hE⟩ : ∃ E, SS w L D E W ∧ E = msgCells (shapeM m) (.slice (shapeAo m.kind ao) (shapeM m).views.length (shapeCv m.kind cv)) := ⟨_, hS, by simp [shapeM, hkk, shapeAo, shapeCv, kindC, msgCells, Msg.zero, Str, inB]⟩
  rw [hE, HT.out] at hS
  refine shape_end (d := 103) hF h2 h3 hS (by rw [← HT.out]; simp [msgCells, Value.oneCell', Str]) (by omega) (by omega) rfl rfl rfl rfl rfl rfl ?_
  intro a' W' hbp
  exact hbp
end Go.Proofs.Ytfgnlfemckdfnaa
namespace Go.Proofs.Ytfgnlfemckdfnaa
open Go.RowKit Go.PlainAid
set_option linter.unusedSimpArgs false
set_option linter.unusedVariables false
set_option maxRecDepth 100000 in
set_option maxHeartbeats 1600000 in
theorem rshape5 (m : Msg) (ao : Option Addr) (cv : Nat) (w : World) (hkk : m.kind = 5) :
    Calls Try.prog 48 #[.agg (msgCells m (.slice ao m.views.length cv))] w (fun e w' => e = .returned (.agg (msgCells (shapeM m) (.slice (shapeAo m.kind ao) (shapeM m).views.length (shapeCv m.kind cv)))) ∧ Below w.heap.size w w') := by
  refine calls_of_wp Try.func48 rfl ?_
  generalize hT : msgCells (shapeM m) (.slice (shapeAo m.kind ao) (shapeM m).views.length (shapeCv m.kind cv)) = T
  have HT : Hid _ := hT
  clear hT
  generalize hD : msgCells m (.slice ao m.views.length cv) = D
  have HD : Hid _ := hD
  have d0 : D[0]? = some (.int .i64 5) := by rw [← hD, ← hkk]; rfl
  clear hD
  have e : Try.f48.ntmps - (#[Value.agg D] : Array Value).size = 103 := by rw [Try.ntmps48]; rfl
  rw [e]
  have hF0 := frame_init1 (.agg D) 103
  generalize ({ tmps := #[Value.agg D] ++ Array.replicate 103 undef, defers := [] } : Act) = a0 at *
  refine sstart hF0 rfl d0 rfl rfl rfl rfl rfl rfl rfl rfl rfl rfl rfl rfl rfl rfl rfl rfl rfl rfl rfl rfl rfl rfl rfl rfl rfl rfl rfl ?_
  generalize w.heap.size = L
  intro a f W hF h1 h2 h3 h8 hS
  clear hF0 d0 e
  refine wp_block ?_
  refine wp_seq (wp_region_list ?_)
  refine swt (d := 9) false hF h1 h2 h3 h8 (h := ?_)
  intro a f hF h1 h2 h3 h8 hp
  show Code.wp _ _ _ _ _
  refine wp_cond_false ((hF.eval 9 (by omega)).trans hp) ?_
  refine wp_seq (wp_region_list ?_)
  refine swt (d := 18) false hF h1 h2 h3 h8 (h := ?_)
  intro a f hF h1 h2 h3 h8 hp
  show Code.wp _ _ _ _ _
  refine wp_cond_false ((hF.eval 18 (by omega)).trans hp) ?_
  refine wp_seq (wp_region_list ?_)
  refine swt (d := 24) false hF h1 h2 h3 h8 (h := ?_)
  intro a f hF h1 h2 h3 h8 hp
  show Code.wp _ _ _ _ _
  refine wp_cond_false ((hF.eval 24 (by omega)).trans hp) ?_
  refine wp_skip ?_
  show Code.wp _ _ _ _ _
  refine wp_seq (wp_region_list ?_)
  have c1 : W.cell? ⟨L, 1, none⟩ = some (.string ⟨m.name.toArray⟩) := (hS.m.cell 1).trans (by rw [← HD.out]; rfl)
  obtain ⟨v1, u1⟩ := hS.cell 1 (by omega)
  refine cp (d := 50) (p1 := PT L 1) (p3 := PT (L + 2) 1) (u := .string ⟨m.name.toArray⟩) hF h1 h2 h3 h8 (r2 := (fun ev h => by simp only [execOp, h]; simp [go_sem, c1])) (r4 := (fun ev h h' => by simp only [execOp, h, h']; simp [go_sem, u1, hS.x.frozen 1])) (hS := (hS.set 1 (.string ⟨m.name.toArray⟩))) (h := ?_)
  clear hS c1 u1 v1
  intro a f W hF h1 h2 h3 h8 hS
  show Code.wp _ _ _ _ _
  refine wp_seq (wp_region_list ?_)
  have c2 : W.cell? ⟨L, 2, none⟩ = some (.int .i64 m.cap) := (hS.m.cell 2).trans (by rw [← HD.out]; rfl)
  obtain ⟨v2, u2⟩ := hS.cell 2 (by omega)
  refine cp (d := 53) (p1 := PT L 2) (p3 := PT (L + 2) 2) (u := .int .i64 m.cap) hF h1 h2 h3 h8 (r2 := (fun ev h => by simp only [execOp, h]; simp [go_sem, c2])) (r4 := (fun ev h h' => by simp only [execOp, h, h']; simp [go_sem, u2, hS.x.frozen 2])) (hS := (hS.set 2 (.int .i64 m.cap))) (h := ?_)
  clear hS c2 u2 v2
  intro a f W hF h1 h2 h3 h8 hS
  show Code.wp _ _ _ _ _
  refine wp_seq (wp_region_list ?_)
  have c3 : W.cell? ⟨L, 3, none⟩ = some (.int .i64 m.recaps) := (hS.m.cell 3).trans (by rw [← HD.out]; rfl)
  obtain ⟨v3, u3⟩ := hS.cell 3 (by omega)
  refine cp (d := 56) (p1 := PT L 3) (p3 := PT (L + 2) 3) (u := .int .i64 m.recaps) hF h1 h2 h3 h8 (r2 := (fun ev h => by simp only [execOp, h]; simp [go_sem, c3])) (r4 := (fun ev h h' => by simp only [execOp, h, h']; simp [go_sem, u3, hS.x.frozen 3])) (hS := (hS.set 3 (.int .i64 m.recaps))) (h := ?_)
  clear hS c3 u3 v3
  intro a f W hF h1 h2 h3 h8 hS
  show Code.wp _ _ _ _ _
  refine wp_seq ?_
  refine wp_seq (wp_region_list ?_)
  have c0 : W.cell? ⟨L, 0, none⟩ = some (.int .i64 m.kind) := (hS.m.cell 0).trans (by rw [← HD.out]; rfl)
  refine tst (d := 59) (p1 := PT L 0) (u := .int .i64 m.kind) true hF h1 h2 h3 h8 (r2 := (fun ev h => by simp only [execOp, h]; simp [go_sem, c0])) (r3 := (fun ev hcst h => by simp only [execOp, h, hcst]; simp [go_sem, hkk])) (h := ?_)
  intro a f hF h1 h2 h3 h8 hp
  refine mv8 (d := 62) (p := 61) hF h1 h2 h3 h8 hp (h := ?_)
  intro a f hF h1 h2 h3 h8 hp
  refine gk (d := 63) (p := 62) (g := 3) (p1 := PT L 0) (u := .int .i64 m.kind) true hF true h1 h2 h3 h8 hp (r2 := (fun ev h => by simp only [execOp, h]; simp [go_sem, c0])) (r3 := (fun ev hcst h => by simp only [execOp, h, hcst]; simp [go_sem, hkk])) (h := ?_)
  intro a f hF h1 h2 h3 h8 hp
  clear c0
  refine wpList_nil ?_
  show Code.wp _ _ _ _ _
  refine wp_cond_true ((hF.eval 66 (by omega)).trans hp) ?_
  refine wp_region_list ?_
  have c4 : W.cell? ⟨L, 4, none⟩ = some (.int .i64 m.round) := (hS.m.cell 4).trans (by rw [← HD.out]; rfl)
  obtain ⟨v4, u4⟩ := hS.cell 4 (by omega)
  have c5 : W.cell? ⟨L, 5, none⟩ = some (.int .i64 m.rank) := (hS.m.cell 5).trans (by rw [← HD.out]; rfl)
  obtain ⟨v5, u5⟩ := hS.cell 5 (by omega)
  refine cp (d := 67) (p1 := PT L 4) (p3 := PT (L + 2) 4) (u := .agg #[.int .i64 m.round, .int .i64 m.rank]) hF h1 h2 h3 h8 (r2 := (fun ev h => by simp only [execOp, h]; simp [go_sem, c4, c5])) (r4 := (fun ev h h' => by simp only [execOp, h, h']; simp [go_sem, u4, u5, hS.x.frozen 4, hS.x.frozen 5])) (hS := ((hS.set 4 (.int .i64 m.round)).set 5 (.int .i64 m.rank))) (h := ?_)
  clear hS c4 u4 v4 c5 u5 v5
  intro a f W hF h1 h2 h3 h8 hS
  show Code.wp _ _ _ _ _
  refine wp_seq ?_
  refine wp_seq (wp_region_list ?_)
  have c0 : W.cell? ⟨L, 0, none⟩ = some (.int .i64 m.kind) := (hS.m.cell 0).trans (by rw [← HD.out]; rfl)
  refine tst (d := 70) (p1 := PT L 0) (u := .int .i64 m.kind) false hF h1 h2 h3 h8 (r2 := (fun ev h => by simp only [execOp, h]; simp [go_sem, c0])) (r3 := (fun ev hcst h => by simp only [execOp, h, hcst]; simp [go_sem, hkk])) (h := ?_)
  intro a f hF h1 h2 h3 h8 hp
  clear c0
  refine wpList_nil ?_
  show Code.wp _ _ _ _ _
  refine wp_cond_false ((hF.eval 72 (by omega)).trans hp) ?_
  refine wp_skip ?_
  show Code.wp _ _ _ _ _
  refine wp_seq ?_
  refine wp_seq (wp_region_list ?_)
  have c0 : W.cell? ⟨L, 0, none⟩ = some (.int .i64 m.kind) := (hS.m.cell 0).trans (by rw [← HD.out]; rfl)
  refine tst (d := 76) (p1 := PT L 0) (u := .int .i64 m.kind) true hF h1 h2 h3 h8 (r2 := (fun ev h => by simp only [execOp, h]; simp [go_sem, c0])) (r3 := (fun ev hcst h => by simp only [execOp, h, hcst]; simp [go_sem, hkk])) (h := ?_)
  intro a f hF h1 h2 h3 h8 hp
  refine mv8 (d := 79) (p := 78) hF h1 h2 h3 h8 hp (h := ?_)
  intro a f hF h1 h2 h3 h8 hp
  refine gk (d := 80) (p := 79) (g := 3) (p1 := PT L 0) (u := .int .i64 m.kind) true hF true h1 h2 h3 h8 hp (r2 := (fun ev h => by simp only [execOp, h]; simp [go_sem, c0])) (r3 := (fun ev hcst h => by simp only [execOp, h, hcst]; simp [go_sem, hkk])) (h := ?_)
  intro a f hF h1 h2 h3 h8 hp
  refine mv8 (d := 84) (p := 83) hF h1 h2 h3 h8 hp (h := ?_)
  intro a f hF h1 h2 h3 h8 hp
  refine gk (d := 85) (p := 84) (g := 8) (p1 := PT L 0) (u := .int .i64 m.kind) false hF false h1 h2 h3 h8 hp (r2 := (fun ev h => by simp only [execOp, h]; simp [go_sem, c0])) (r3 := (fun ev hcst h => by simp only [execOp, h, hcst]; simp [go_sem, hkk])) (h := ?_)
  intro a f hF h1 h2 h3 h8 hp
  refine mv8 (d := 89) (p := 88) hF h1 h2 h3 h8 hp (h := ?_)
  intro a f hF h1 h2 h3 h8 hp
  refine gk (d := 90) (p := 89) (g := 13) (p1 := PT L 0) (u := .int .i64 m.kind) false hF false h1 h2 h3 h8 hp (r2 := (fun ev h => by simp only [execOp, h]; simp [go_sem, c0])) (r3 := (fun ev hcst h => by simp only [execOp, h, hcst]; simp [go_sem, hkk])) (h := ?_)
  intro a f hF h1 h2 h3 h8 hp
  clear c0
  refine wpList_nil ?_
  show Code.wp _ _ _ _ _
  refine wp_cond_true ((hF.eval 93 (by omega)).trans hp) ?_
  refine wp_region_list ?_
  have c8 : W.cell? ⟨L, 8, none⟩ = some (.int .i64 m.down) := (hS.m.cell 8).trans (by rw [← HD.out]; rfl)
  obtain ⟨v8, u8⟩ := hS.cell 8 (by omega)
  have c9 : W.cell? ⟨L, 9, none⟩ = some (.int .i64 m.up) := (hS.m.cell 9).trans (by rw [← HD.out]; rfl)
  obtain ⟨v9, u9⟩ := hS.cell 9 (by omega)
  refine cp (d := 94) (p1 := PT L 8) (p3 := PT (L + 2) 8) (u := .agg #[.int .i64 m.down, .int .i64 m.up]) hF h1 h2 h3 h8 (r2 := (fun ev h => by simp only [execOp, h]; simp [go_sem, c8, c9])) (r4 := (fun ev h h' => by simp only [execOp, h, h']; simp [go_sem, u8, u9, hS.x.frozen 8, hS.x.frozen 9])) (hS := ((hS.set 8 (.int .i64 m.down)).set 9 (.int .i64 m.up))) (h := ?_)
  clear hS c8 u8 v8 c9 u9 v9
  intro a f W hF h1 h2 h3 h8 hS
  show Code.wp _ _ _ _ _
  refine wp_seq ?_
  refine wp_seq (wp_region_list ?_)
  have c0 : W.cell? ⟨L, 0, none⟩ = some (.int .i64 m.kind) := (hS.m.cell 0).trans (by rw [← HD.out]; rfl)
  refine tst (d := 97) (p1 := PT L 0) (u := .int .i64 m.kind) false hF h1 h2 h3 h8 (r2 := (fun ev h => by simp only [execOp, h]; simp [go_sem, c0])) (r3 := (fun ev hcst h => by simp only [execOp, h, hcst]; simp [go_sem, hkk])) (h := ?_)
  intro a f hF h1 h2 h3 h8 hp
  clear c0
  refine wpList_nil ?_
  show Code.wp _ _ _ _ _
  refine wp_cond_false ((hF.eval 99 (by omega)).trans hp) ?_
  refine wp_skip ?_
  show Code.wp _ _ _ _ _
  obtain ⟨E, hS, hE⟩ : ∃ E, SS w L D E W ∧ E = msgCells (shapeM m) (.slice (shapeAo m.kind ao) (shapeM m).views.length (shapeCv m.kind cv)) := ⟨_, hS, by simp [shapeM, hkk, shapeAo, shapeCv, kindC, msgCells, Msg.zero, Str, inB]⟩
  rw [hE, HT.out] at hS
  refine shape_end (d := 103) hF h2 h3 hS (by rw [← HT.out]; simp [msgCells, Value.oneCell', Str]) (by omega) (by omega) rfl rfl rfl rfl rfl rfl ?_
  intro a' W' hbp
  exact hbp
set_option maxRecDepth 100000 in
set_option maxHeartbeats 1600000 in
theorem rshape6 (m : Msg) (ao : Option Addr) (cv : Nat) (w : World) (hkk : m.kind = 6) :
    Calls Try.prog 48 #[.agg (msgCells m (.slice ao m.views.length cv))] w (fun e w' => e = .returned (.agg (msgCells (shapeM m) (.slice (shapeAo m.kind ao) (shapeM m).views.length (shapeCv m.kind cv)))) ∧ Below w.heap.size w w') := by
  refine calls_of_wp Try.func48 rfl ?_
  generalize hT : msgCells (shapeM m) (.slice (shapeAo m.kind ao) (shapeM m).views.length (shapeCv m.kind cv)) = T
  have HT : Hid _ := hT
  clear hT
  generalize hD : msgCells m (.slice ao m.views.length cv) = D
  have HD : Hid _ := hD
  have d0 : D[0]? = some (.int .i64 6) := by rw [← hD, ← hkk]; rfl
  clear hD
  have e : Try.f48.ntmps - (#[Value.agg D] : Array Value).size = 103 := by rw [Try.ntmps48]; rfl
  rw [e]
  have hF0 := frame_init1 (.agg D) 103
  generalize ({ tmps := #[Value.agg D] ++ Array.replicate 103 undef, defers := [] } : Act) = a0 at *
  refine sstart hF0 rfl d0 rfl rfl rfl rfl rfl rfl rfl rfl rfl rfl rfl rfl rfl rfl rfl rfl rfl rfl rfl rfl rfl rfl rfl rfl rfl rfl rfl ?_
  generalize w.heap.size = L
  intro a f W hF h1 h2 h3 h8 hS
  clear hF0 d0 e
  refine wp_block ?_
  refine wp_seq (wp_region_list ?_)
  refine swt (d := 9) false hF h1 h2 h3 h8 (h := ?_)
  intro a f hF h1 h2 h3 h8 hp
  show Code.wp _ _ _ _ _
  refine wp_cond_false ((hF.eval 9 (by omega)).trans hp) ?_
  refine wp_seq (wp_region_list ?_)
  refine swt (d := 18) false hF h1 h2 h3 h8 (h := ?_)
  intro a f hF h1 h2 h3 h8 hp
  show Code.wp _ _ _ _ _
  refine wp_cond_false ((hF.eval 18 (by omega)).trans hp) ?_
  refine wp_seq (wp_region_list ?_)
  refine swt (d := 24) false hF h1 h2 h3 h8 (h := ?_)
  intro a f hF h1 h2 h3 h8 hp
  show Code.wp _ _ _ _ _
  refine wp_cond_false ((hF.eval 24 (by omega)).trans hp) ?_
  refine wp_skip ?_
  show Code.wp _ _ _ _ _
  refine wp_seq (wp_region_list ?_)
  have c1 : W.cell? ⟨L, 1, none⟩ = some (.string ⟨m.name.toArray⟩) := (hS.m.cell 1).trans (by rw [← HD.out]; rfl)
  obtain ⟨v1, u1⟩ := hS.cell 1 (by omega)
  refine cp (d := 50) (p1 := PT L 1) (p3 := PT (L + 2) 1) (u := .string ⟨m.name.toArray⟩) hF h1 h2 h3 h8 (r2 := (fun ev h => by simp only [execOp, h]; simp [go_sem, c1])) (r4 := (fun ev h h' => by simp only [execOp, h, h']; simp [go_sem, u1, hS.x.frozen 1])) (hS := (hS.set 1 (.string ⟨m.name.toArray⟩))) (h := ?_)
  clear hS c1 u1 v1
  intro a f W hF h1 h2 h3 h8 hS
  show Code.wp _ _ _ _ _
  refine wp_seq (wp_region_list ?_)
  have c2 : W.cell? ⟨L, 2, none⟩ = some (.int .i64 m.cap) := (hS.m.cell 2).trans (by rw [← HD.out]; rfl)
  obtain ⟨v2, u2⟩ := hS.cell 2 (by omega)
  refine cp (d := 53) (p1 := PT L 2) (p3 := PT (L + 2) 2) (u := .int .i64 m.cap) hF h1 h2 h3 h8 (r2 := (fun ev h => by simp only [execOp, h]; simp [go_sem, c2])) (r4 := (fun ev h h' => by simp only [execOp, h, h']; simp [go_sem, u2, hS.x.frozen 2])) (hS := (hS.set 2 (.int .i64 m.cap))) (h := ?_)
  clear hS c2 u2 v2
  intro a f W hF h1 h2 h3 h8 hS
  show Code.wp _ _ _ _ _
  refine wp_seq (wp_region_list ?_)
  have c3 : W.cell? ⟨L, 3, none⟩ = some (.int .i64 m.recaps) := (hS.m.cell 3).trans (by rw [← HD.out]; rfl)
  obtain ⟨v3, u3⟩ := hS.cell 3 (by omega)
  refine cp (d := 56) (p1 := PT L 3) (p3 := PT (L + 2) 3) (u := .int .i64 m.recaps) hF h1 h2 h3 h8 (r2 := (fun ev h => by simp only [execOp, h]; simp [go_sem, c3])) (r4 := (fun ev h h' => by simp only [execOp, h, h']; simp [go_sem, u3, hS.x.frozen 3])) (hS := (hS.set 3 (.int .i64 m.recaps))) (h := ?_)
  clear hS c3 u3 v3
  intro a f W hF h1 h2 h3 h8 hS
  show Code.wp _ _ _ _ _
  refine wp_seq ?_
  refine wp_seq (wp_region_list ?_)
  have c0 : W.cell? ⟨L, 0, none⟩ = some (.int .i64 m.kind) := (hS.m.cell 0).trans (by rw [← HD.out]; rfl)
  refine tst (d := 59) (p1 := PT L 0) (u := .int .i64 m.kind) true hF h1 h2 h3 h8 (r2 := (fun ev h => by simp only [execOp, h]; simp [go_sem, c0])) (r3 := (fun ev hcst h => by simp only [execOp, h, hcst]; simp [go_sem, hkk])) (h := ?_)
  intro a f hF h1 h2 h3 h8 hp
  refine mv8 (d := 62) (p := 61) hF h1 h2 h3 h8 hp (h := ?_)
  intro a f hF h1 h2 h3 h8 hp
  refine gk (d := 63) (p := 62) (g := 3) (p1 := PT L 0) (u := .int .i64 m.kind) true hF true h1 h2 h3 h8 hp (r2 := (fun ev h => by simp only [execOp, h]; simp [go_sem, c0])) (r3 := (fun ev hcst h => by simp only [execOp, h, hcst]; simp [go_sem, hkk])) (h := ?_)
  intro a f hF h1 h2 h3 h8 hp
  clear c0
  refine wpList_nil ?_
  show Code.wp _ _ _ _ _
  refine wp_cond_true ((hF.eval 66 (by omega)).trans hp) ?_
  refine wp_region_list ?_
  have c4 : W.cell? ⟨L, 4, none⟩ = some (.int .i64 m.round) := (hS.m.cell 4).trans (by rw [← HD.out]; rfl)
  obtain ⟨v4, u4⟩ := hS.cell 4 (by omega)
  have c5 : W.cell? ⟨L, 5, none⟩ = some (.int .i64 m.rank) := (hS.m.cell 5).trans (by rw [← HD.out]; rfl)
  obtain ⟨v5, u5⟩ := hS.cell 5 (by omega)
  refine cp (d := 67) (p1 := PT L 4) (p3 := PT (L + 2) 4) (u := .agg #[.int .i64 m.round, .int .i64 m.rank]) hF h1 h2 h3 h8 (r2 := (fun ev h => by simp only [execOp, h]; simp [go_sem, c4, c5])) (r4 := (fun ev h h' => by simp only [execOp, h, h']; simp [go_sem, u4, u5, hS.x.frozen 4, hS.x.frozen 5])) (hS := ((hS.set 4 (.int .i64 m.round)).set 5 (.int .i64 m.rank))) (h := ?_)
  clear hS c4 u4 v4 c5 u5 v5
  intro a f W hF h1 h2 h3 h8 hS
  show Code.wp _ _ _ _ _
  refine wp_seq ?_
  refine wp_seq (wp_region_list ?_)
  have c0 : W.cell? ⟨L, 0, none⟩ = some (.int .i64 m.kind) := (hS.m.cell 0).trans (by rw [← HD.out]; rfl)
  refine tst (d := 70) (p1 := PT L 0) (u := .int .i64 m.kind) false hF h1 h2 h3 h8 (r2 := (fun ev h => by simp only [execOp, h]; simp [go_sem, c0])) (r3 := (fun ev hcst h => by simp only [execOp, h, hcst]; simp [go_sem, hkk])) (h := ?_)
  intro a f hF h1 h2 h3 h8 hp
  clear c0
  refine wpList_nil ?_
  show Code.wp _ _ _ _ _
  refine wp_cond_false ((hF.eval 72 (by omega)).trans hp) ?_
  refine wp_skip ?_
  show Code.wp _ _ _ _ _
  refine wp_seq ?_
  refine wp_seq (wp_region_list ?_)
  have c0 : W.cell? ⟨L, 0, none⟩ = some (.int .i64 m.kind) := (hS.m.cell 0).trans (by rw [← HD.out]; rfl)
  refine tst (d := 76) (p1 := PT L 0) (u := .int .i64 m.kind) true hF h1 h2 h3 h8 (r2 := (fun ev h => by simp only [execOp, h]; simp [go_sem, c0])) (r3 := (fun ev hcst h => by simp only [execOp, h, hcst]; simp [go_sem, hkk])) (h := ?_)
  intro a f hF h1 h2 h3 h8 hp
  refine mv8 (d := 79) (p := 78) hF h1 h2 h3 h8 hp (h := ?_)
  intro a f hF h1 h2 h3 h8 hp
  refine gk (d := 80) (p := 79) (g := 3) (p1 := PT L 0) (u := .int .i64 m.kind) true hF true h1 h2 h3 h8 hp (r2 := (fun ev h => by simp only [execOp, h]; simp [go_sem, c0])) (r3 := (fun ev hcst h => by simp only [execOp, h, hcst]; simp [go_sem, hkk])) (h := ?_)
  intro a f hF h1 h2 h3 h8 hp
  refine mv8 (d := 84) (p := 83) hF h1 h2 h3 h8 hp (h := ?_)
  intro a f hF h1 h2 h3 h8 hp
  refine gk (d := 85) (p := 84) (g := 8) (p1 := PT L 0) (u := .int .i64 m.kind) false hF false h1 h2 h3 h8 hp (r2 := (fun ev h => by simp only [execOp, h]; simp [go_sem, c0])) (r3 := (fun ev hcst h => by simp only [execOp, h, hcst]; simp [go_sem, hkk])) (h := ?_)
  intro a f hF h1 h2 h3 h8 hp
  refine mv8 (d := 89) (p := 88) hF h1 h2 h3 h8 hp (h := ?_)
  intro a f hF h1 h2 h3 h8 hp
  refine gk (d := 90) (p := 89) (g := 13) (p1 := PT L 0) (u := .int .i64 m.kind) false hF false h1 h2 h3 h8 hp (r2 := (fun ev h => by simp only [execOp, h]; simp [go_sem, c0])) (r3 := (fun ev hcst h => by simp only [execOp, h, hcst]; simp [go_sem, hkk])) (h := ?_)
  intro a f hF h1 h2 h3 h8 hp
  clear c0
  refine wpList_nil ?_
  show Code.wp _ _ _ _ _
  refine wp_cond_true ((hF.eval 93 (by omega)).trans hp) ?_
  refine wp_region_list ?_
  have c8 : W.cell? ⟨L, 8, none⟩ = some (.int .i64 m.down) := (hS.m.cell 8).trans (by rw [← HD.out]; rfl)
  obtain ⟨v8, u8⟩ := hS.cell 8 (by omega)
  have c9 : W.cell? ⟨L, 9, none⟩ = some (.int .i64 m.up) := (hS.m.cell 9).trans (by rw [← HD.out]; rfl)
  obtain ⟨v9, u9⟩ := hS.cell 9 (by omega)
  refine cp (d := 94) (p1 := PT L 8) (p3 := PT (L + 2) 8) (u := .agg #[.int .i64 m.down, .int .i64 m.up]) hF h1 h2 h3 h8 (r2 := (fun ev h => by simp only [execOp, h]; simp [go_sem, c8, c9])) (r4 := (fun ev h h' => by simp only [execOp, h, h']; simp [go_sem, u8, u9, hS.x.frozen 8, hS.x.frozen 9])) (hS := ((hS.set 8 (.int .i64 m.down)).set 9 (.int .i64 m.up))) (h := ?_)
  clear hS c8 u8 v8 c9 u9 v9
  intro a f W hF h1 h2 h3 h8 hS
  show Code.wp _ _ _ _ _
  refine wp_seq ?_
  refine wp_seq (wp_region_list ?_)
  have c0 : W.cell? ⟨L, 0, none⟩ = some (.int .i64 m.kind) := (hS.m.cell 0).trans (by rw [← HD.out]; rfl)
  refine tst (d := 97) (p1 := PT L 0) (u := .int .i64 m.kind) false hF h1 h2 h3 h8 (r2 := (fun ev h => by simp only [execOp, h]; simp [go_sem, c0])) (r3 := (fun ev hcst h => by simp only [execOp, h, hcst]; simp [go_sem, hkk])) (h := ?_)
  intro a f hF h1 h2 h3 h8 hp
  clear c0
  refine wpList_nil ?_
  show Code.wp _ _ _ _ _
  refine wp_cond_false ((hF.eval 99 (by omega)).trans hp) ?_
  refine wp_skip ?_
  show Code.wp _ _ _ _ _
  obtain ⟨E, hS, hE⟩ : ∃ E, SS w L D E W ∧ E = msgCells (shapeM m) (.slice (shapeAo m.kind ao) (shapeM m).views.length (shapeCv m.kind cv)) := ⟨_, hS, by simp [shapeM, hkk, shapeAo, shapeCv, kindC, msgCells, Msg.zero, Str, inB]⟩
  rw [hE, HT.out] at hS
  refine shape_end (d := 103) hF h2 h3 hS (by rw [← HT.out]; simp [msgCells, Value.oneCell', Str]) (by omega) (by omega) rfl rfl rfl rfl rfl rfl ?_
  intro a' W' hbp
  exact hbp
set_option maxRecDepth 100000 in
set_option maxHeartbeats 1600000 in
theorem rshape7 (m : Msg) (ao : Option Addr) (cv : Nat) (w : World) (hkk : m.kind = 7) :
    Calls Try.prog 48 #[.agg (msgCells m (.slice ao m.views.length cv))] w (fun e w' => e = .returned (.agg (msgCells (shapeM m) (.slice (shapeAo m.kind ao) (shapeM m).views.length (shapeCv m.kind cv)))) ∧ Below w.heap.size w w') := by
  refine calls_of_wp Try.func48 rfl ?_
  generalize hT : msgCells (shapeM m) (.slice (shapeAo m.kind ao) (shapeM m).views.length (shapeCv m.kind cv)) = T
  have HT : Hid _ := hT
  clear hT
  generalize hD : msgCells m (.slice ao m.views.length cv) = D
  have HD : Hid _ := hD
  have d0 : D[0]? = some (.int .i64 7) := by rw [← hD, ← hkk]; rfl
  clear hD
  have e : Try.f48.ntmps - (#[Value.agg D] : Array Value).size = 103 := by rw [Try.ntmps48]; rfl
  rw [e]
  have hF0 := frame_init1 (.agg D) 103
  generalize ({ tmps := #[Value.agg D] ++ Array.replicate 103 undef, defers := [] } : Act) = a0 at *
  refine sstart hF0 rfl d0 rfl rfl rfl rfl rfl rfl rfl rfl rfl rfl rfl rfl rfl rfl rfl rfl rfl rfl rfl rfl rfl rfl rfl rfl rfl rfl rfl ?_
  generalize w.heap.size = L
  intro a f W hF h1 h2 h3 h8 hS
  clear hF0 d0 e
  refine wp_block ?_
  refine wp_seq (wp_region_list ?_)
  refine swt (d := 9) false hF h1 h2 h3 h8 (h := ?_)
  intro a f hF h1 h2 h3 h8 hp
  show Code.wp _ _ _ _ _
  refine wp_cond_false ((hF.eval 9 (by omega)).trans hp) ?_
  refine wp_seq (wp_region_list ?_)
  refine swt (d := 18) false hF h1 h2 h3 h8 (h := ?_)
  intro a f hF h1 h2 h3 h8 hp
  show Code.wp _ _ _ _ _
  refine wp_cond_false ((hF.eval 18 (by omega)).trans hp) ?_
  refine wp_seq (wp_region_list ?_)
  refine swt (d := 24) false hF h1 h2 h3 h8 (h := ?_)
  intro a f hF h1 h2 h3 h8 hp
  show Code.wp _ _ _ _ _
  refine wp_cond_false ((hF.eval 24 (by omega)).trans hp) ?_
  refine wp_skip ?_
  show Code.wp _ _ _ _ _
  refine wp_seq (wp_region_list ?_)
  have c1 : W.cell? ⟨L, 1, none⟩ = some (.string ⟨m.name.toArray⟩) := (hS.m.cell 1).trans (by rw [← HD.out]; rfl)
  obtain ⟨v1, u1⟩ := hS.cell 1 (by omega)
  refine cp (d := 50) (p1 := PT L 1) (p3 := PT (L + 2) 1) (u := .string ⟨m.name.toArray⟩) hF h1 h2 h3 h8 (r2 := (fun ev h => by simp only [execOp, h]; simp [go_sem, c1])) (r4 := (fun ev h h' => by simp only [execOp, h, h']; simp [go_sem, u1, hS.x.frozen 1])) (hS := (hS.set 1 (.string ⟨m.name.toArray⟩))) (h := ?_)
  clear hS c1 u1 v1
  intro a f W hF h1 h2 h3 h8 hS
  show Code.wp _ _ _ _ _
  refine wp_seq (wp_region_list ?_)
  have c2 : W.cell? ⟨L, 2, none⟩ = some (.int .i64 m.cap) := (hS.m.cell 2).trans (by rw [← HD.out]; rfl)
  obtain ⟨v2, u2⟩ := hS.cell 2 (by omega)
  refine cp (d := 53) (p1 := PT L 2) (p3 := PT (L + 2) 2) (u := .int .i64 m.cap) hF h1 h2 h3 h8 (r2 := (fun ev h => by simp only [execOp, h]; simp [go_sem, c2])) (r4 := (fun ev h h' => by simp only [execOp, h, h']; simp [go_sem, u2, hS.x.frozen 2])) (hS := (hS.set 2 (.int .i64 m.cap))) (h := ?_)
  clear hS c2 u2 v2
  intro a f W hF h1 h2 h3 h8 hS
  show Code.wp _ _ _ _ _
  refine wp_seq (wp_region_list ?_)
  have c3 : W.cell? ⟨L, 3, none⟩ = some (.int .i64 m.recaps) := (hS.m.cell 3).trans (by rw [← HD.out]; rfl)
  obtain ⟨v3, u3⟩ := hS.cell 3 (by omega)
  refine cp (d := 56) (p1 := PT L 3) (p3 := PT (L + 2) 3) (u := .int .i64 m.recaps) hF h1 h2 h3 h8 (r2 := (fun ev h => by simp only [execOp, h]; simp [go_sem, c3])) (r4 := (fun ev h h' => by simp only [execOp, h, h']; simp [go_sem, u3, hS.x.frozen 3])) (hS := (hS.set 3 (.int .i64 m.recaps))) (h := ?_)
  clear hS c3 u3 v3
  intro a f W hF h1 h2 h3 h8 hS
  show Code.wp _ _ _ _ _
  refine wp_seq ?_
  refine wp_seq (wp_region_list ?_)
  have c0 : W.cell? ⟨L, 0, none⟩ = some (.int .i64 m.kind) := (hS.m.cell 0).trans (by rw [← HD.out]; rfl)
  refine tst (d := 59) (p1 := PT L 0) (u := .int .i64 m.kind) true hF h1 h2 h3 h8 (r2 := (fun ev h => by simp only [execOp, h]; simp [go_sem, c0])) (r3 := (fun ev hcst h => by simp only [execOp, h, hcst]; simp [go_sem, hkk])) (h := ?_)
  intro a f hF h1 h2 h3 h8 hp
  refine mv8 (d := 62) (p := 61) hF h1 h2 h3 h8 hp (h := ?_)
  intro a f hF h1 h2 h3 h8 hp
  refine gk (d := 63) (p := 62) (g := 3) (p1 := PT L 0) (u := .int .i64 m.kind) true hF true h1 h2 h3 h8 hp (r2 := (fun ev h => by simp only [execOp, h]; simp [go_sem, c0])) (r3 := (fun ev hcst h => by simp only [execOp, h, hcst]; simp [go_sem, hkk])) (h := ?_)
  intro a f hF h1 h2 h3 h8 hp
  clear c0
  refine wpList_nil ?_
  show Code.wp _ _ _ _ _
  refine wp_cond_true ((hF.eval 66 (by omega)).trans hp) ?_
  refine wp_region_list ?_
  have c4 : W.cell? ⟨L, 4, none⟩ = some (.int .i64 m.round) := (hS.m.cell 4).trans (by rw [← HD.out]; rfl)
  obtain ⟨v4, u4⟩ := hS.cell 4 (by omega)
  have c5 : W.cell? ⟨L, 5, none⟩ = some (.int .i64 m.rank) := (hS.m.cell 5).trans (by rw [← HD.out]; rfl)
  obtain ⟨v5, u5⟩ := hS.cell 5 (by omega)
  refine cp (d := 67) (p1 := PT L 4) (p3 := PT (L + 2) 4) (u := .agg #[.int .i64 m.round, .int .i64 m.rank]) hF h1 h2 h3 h8 (r2 := (fun ev h => by simp only [execOp, h]; simp [go_sem, c4, c5])) (r4 := (fun ev h h' => by simp only [execOp, h, h']; simp [go_sem, u4, u5, hS.x.frozen 4, hS.x.frozen 5])) (hS := ((hS.set 4 (.int .i64 m.round)).set 5 (.int .i64 m.rank))) (h := ?_)
  clear hS c4 u4 v4 c5 u5 v5
  intro a f W hF h1 h2 h3 h8 hS
  show Code.wp _ _ _ _ _
  refine wp_seq ?_
  refine wp_seq (wp_region_list ?_)
  have c0 : W.cell? ⟨L, 0, none⟩ = some (.int .i64 m.kind) := (hS.m.cell 0).trans (by rw [← HD.out]; rfl)
  refine tst (d := 70) (p1 := PT L 0) (u := .int .i64 m.kind) true hF h1 h2 h3 h8 (r2 := (fun ev h => by simp only [execOp, h]; simp [go_sem, c0])) (r3 := (fun ev hcst h => by simp only [execOp, h, hcst]; simp [go_sem, hkk])) (h := ?_)
  intro a f hF h1 h2 h3 h8 hp
  clear c0
  refine wpList_nil ?_
  show Code.wp _ _ _ _ _
  refine wp_cond_true ((hF.eval 72 (by omega)).trans hp) ?_
  refine wp_region_list ?_
  have c6 : W.cell? ⟨L, 6, none⟩ = some (.int .i64 m.oround) := (hS.m.cell 6).trans (by rw [← HD.out]; rfl)
  obtain ⟨v6, u6⟩ := hS.cell 6 (by omega)
  have c7 : W.cell? ⟨L, 7, none⟩ = some (.int .i64 m.orank) := (hS.m.cell 7).trans (by rw [← HD.out]; rfl)
  obtain ⟨v7, u7⟩ := hS.cell 7 (by omega)
  refine cp (d := 73) (p1 := PT L 6) (p3 := PT (L + 2) 6) (u := .agg #[.int .i64 m.oround, .int .i64 m.orank]) hF h1 h2 h3 h8 (r2 := (fun ev h => by simp only [execOp, h]; simp [go_sem, c6, c7])) (r4 := (fun ev h h' => by simp only [execOp, h, h']; simp [go_sem, u6, u7, hS.x.frozen 6, hS.x.frozen 7])) (hS := ((hS.set 6 (.int .i64 m.oround)).set 7 (.int .i64 m.orank))) (h := ?_)
  clear hS c6 u6 v6 c7 u7 v7
  intro a f W hF h1 h2 h3 h8 hS
  show Code.wp _ _ _ _ _
  refine wp_seq ?_
  refine wp_seq (wp_region_list ?_)
  have c0 : W.cell? ⟨L, 0, none⟩ = some (.int .i64 m.kind) := (hS.m.cell 0).trans (by rw [← HD.out]; rfl)
  refine tst (d := 76) (p1 := PT L 0) (u := .int .i64 m.kind) true hF h1 h2 h3 h8 (r2 := (fun ev h => by simp only [execOp, h]; simp [go_sem, c0])) (r3 := (fun ev hcst h => by simp only [execOp, h, hcst]; simp [go_sem, hkk])) (h := ?_)
  intro a f hF h1 h2 h3 h8 hp
  refine mv8 (d := 79) (p := 78) hF h1 h2 h3 h8 hp (h := ?_)
  intro a f hF h1 h2 h3 h8 hp
  refine gk (d := 80) (p := 79) (g := 3) (p1 := PT L 0) (u := .int .i64 m.kind) true hF false h1 h2 h3 h8 hp (r2 := (fun ev h => by simp only [execOp, h]; simp [go_sem, c0])) (r3 := (fun ev hcst h => by simp only [execOp, h, hcst]; simp [go_sem, hkk])) (h := ?_)
  intro a f hF h1 h2 h3 h8 hp
  refine mv8 (d := 84) (p := 83) hF h1 h2 h3 h8 hp (h := ?_)
  intro a f hF h1 h2 h3 h8 hp
  refine gk (d := 85) (p := 84) (g := 8) (p1 := PT L 0) (u := .int .i64 m.kind) false hF false h1 h2 h3 h8 hp (r2 := (fun ev h => by simp only [execOp, h]; simp [go_sem, c0])) (r3 := (fun ev hcst h => by simp only [execOp, h, hcst]; simp [go_sem, hkk])) (h := ?_)
  intro a f hF h1 h2 h3 h8 hp
  refine mv8 (d := 89) (p := 88) hF h1 h2 h3 h8 hp (h := ?_)
  intro a f hF h1 h2 h3 h8 hp
  refine gk (d := 90) (p := 89) (g := 13) (p1 := PT L 0) (u := .int .i64 m.kind) false hF false h1 h2 h3 h8 hp (r2 := (fun ev h => by simp only [execOp, h]; simp [go_sem, c0])) (r3 := (fun ev hcst h => by simp only [execOp, h, hcst]; simp [go_sem, hkk])) (h := ?_)
  intro a f hF h1 h2 h3 h8 hp
  clear c0
  refine wpList_nil ?_
  show Code.wp _ _ _ _ _
  refine wp_cond_false ((hF.eval 93 (by omega)).trans hp) ?_
  refine wp_skip ?_
  show Code.wp _ _ _ _ _
  refine wp_seq ?_
  refine wp_seq (wp_region_list ?_)
  have c0 : W.cell? ⟨L, 0, none⟩ = some (.int .i64 m.kind) := (hS.m.cell 0).trans (by rw [← HD.out]; rfl)
  refine tst (d := 97) (p1 := PT L 0) (u := .int .i64 m.kind) false hF h1 h2 h3 h8 (r2 := (fun ev h => by simp only [execOp, h]; simp [go_sem, c0])) (r3 := (fun ev hcst h => by simp only [execOp, h, hcst]; simp [go_sem, hkk])) (h := ?_)
  intro a f hF h1 h2 h3 h8 hp
  clear c0
  refine wpList_nil ?_
  show Code.wp _ _ _ _ _
  refine wp_cond_false ((hF.eval 99 (by omega)).trans hp) ?_
  refine wp_skip ?_
  show Code.wp _ _ _ _ _
  obtain ⟨E, hS, hE⟩ : ∃ E, SS w L D E W ∧ E = msgCells (shapeM m) (.slice (shapeAo m.kind ao) (shapeM m).views.length (shapeCv m.kind cv)) := ⟨_, hS, by simp [shapeM, hkk, shapeAo, shapeCv, kindC, msgCells, Msg.zero, Str, inB]⟩
  rw [hE, HT.out] at hS
  refine shape_end (d := 103) hF h2 h3 hS (by rw [← HT.out]; simp [msgCells, Value.oneCell', Str]) (by omega) (by omega) rfl rfl rfl rfl rfl rfl ?_
  intro a' W' hbp
  exact hbp
set_option maxRecDepth 100000 in
set_option maxHeartbeats 1600000 in
theorem rshape8 (m : Msg) (ao : Option Addr) (cv : Nat) (w : World) (hkk : m.kind = 8) :
    Calls Try.prog 48 #[.agg (msgCells m (.slice ao m.views.length cv))] w (fun e w' => e = .returned (.agg (msgCells (shapeM m) (.slice (shapeAo m.kind ao) (shapeM m).views.length (shapeCv m.kind cv)))) ∧ Below w.heap.size w w') := by
  refine calls_of_wp Try.func48 rfl ?_
  generalize hT : msgCells (shapeM m) (.slice (shapeAo m.kind ao) (shapeM m).views.length (shapeCv m.kind cv)) = T
  have HT : Hid _ := hT
  clear hT
  generalize hD : msgCells m (.slice ao m.views.length cv) = D
  have HD : Hid _ := hD
  have d0 : D[0]? = some (.int .i64 8) := by rw [← hD, ← hkk]; rfl
  clear hD
  have e : Try.f48.ntmps - (#[Value.agg D] : Array Value).size = 103 := by rw [Try.ntmps48]; rfl
  rw [e]
  have hF0 := frame_init1 (.agg D) 103
  generalize ({ tmps := #[Value.agg D] ++ Array.replicate 103 undef, defers := [] } : Act) = a0 at *
  refine sstart hF0 rfl d0 rfl rfl rfl rfl rfl rfl rfl rfl rfl rfl rfl rfl rfl rfl rfl rfl rfl rfl rfl rfl rfl rfl rfl rfl rfl rfl rfl ?_
  generalize w.heap.size = L
  intro a f W hF h1 h2 h3 h8 hS
  clear hF0 d0 e
  refine wp_block ?_
  refine wp_seq (wp_region_list ?_)
  refine swt (d := 9) false hF h1 h2 h3 h8 (h := ?_)
  intro a f hF h1 h2 h3 h8 hp
  show Code.wp _ _ _ _ _
  refine wp_cond_false ((hF.eval 9 (by omega)).trans hp) ?_
  refine wp_seq (wp_region_list ?_)
  refine swt (d := 18) false hF h1 h2 h3 h8 (h := ?_)
  intro a f hF h1 h2 h3 h8 hp
  show Code.wp _ _ _ _ _
  refine wp_cond_false ((hF.eval 18 (by omega)).trans hp) ?_
  refine wp_seq (wp_region_list ?_)
  refine swt (d := 24) false hF h1 h2 h3 h8 (h := ?_)
  intro a f hF h1 h2 h3 h8 hp
  show Code.wp _ _ _ _ _
  refine wp_cond_false ((hF.eval 24 (by omega)).trans hp) ?_
  refine wp_skip ?_
  show Code.wp _ _ _ _ _
  refine wp_seq (wp_region_list ?_)
  have c1 : W.cell? ⟨L, 1, none⟩ = some (.string ⟨m.name.toArray⟩) := (hS.m.cell 1).trans (by rw [← HD.out]; rfl)
  obtain ⟨v1, u1⟩ := hS.cell 1 (by omega)
  refine cp (d := 50) (p1 := PT L 1) (p3 := PT (L + 2) 1) (u := .string ⟨m.name.toArray⟩) hF h1 h2 h3 h8 (r2 := (fun ev h => by simp only [execOp, h]; simp [go_sem, c1])) (r4 := (fun ev h h' => by simp only [execOp, h, h']; simp [go_sem, u1, hS.x.frozen 1])) (hS := (hS.set 1 (.string ⟨m.name.toArray⟩))) (h := ?_)
  clear hS c1 u1 v1
  intro a f W hF h1 h2 h3 h8 hS
  show Code.wp _ _ _ _ _
  refine wp_seq (wp_region_list ?_)
  have c2 : W.cell? ⟨L, 2, none⟩ = some (.int .i64 m.cap) := (hS.m.cell 2).trans (by rw [← HD.out]; rfl)
  obtain ⟨v2, u2⟩ := hS.cell 2 (by omega)
  refine cp (d := 53) (p1 := PT L 2) (p3 := PT (L + 2) 2) (u := .int .i64 m.cap) hF h1 h2 h3 h8 (r2 := (fun ev h => by simp only [execOp, h]; simp [go_sem, c2])) (r4 := (fun ev h h' => by simp only [execOp, h, h']; simp [go_sem, u2, hS.x.frozen 2])) (hS := (hS.set 2 (.int .i64 m.cap))) (h := ?_)
  clear hS c2 u2 v2
  intro a f W hF h1 h2 h3 h8 hS
  show Code.wp _ _ _ _ _
  refine wp_seq (wp_region_list ?_)
  have c3 : W.cell? ⟨L, 3, none⟩ = some (.int .i64 m.recaps) := (hS.m.cell 3).trans (by rw [← HD.out]; rfl)
  obtain ⟨v3, u3⟩ := hS.cell 3 (by omega)
  refine cp (d := 56) (p1 := PT L 3) (p3 := PT (L + 2) 3) (u := .int .i64 m.recaps) hF h1 h2 h3 h8 (r2 := (fun ev h => by simp only [execOp, h]; simp [go_sem, c3])) (r4 := (fun ev h h' => by simp only [execOp, h, h']; simp [go_sem, u3, hS.x.frozen 3])) (hS := (hS.set 3 (.int .i64 m.recaps))) (h := ?_)
  clear hS c3 u3 v3
  intro a f W hF h1 h2 h3 h8 hS
  show Code.wp _ _ _ _ _
  refine wp_seq ?_
  refine wp_seq (wp_region_list ?_)
  have c0 : W.cell? ⟨L, 0, none⟩ = some (.int .i64 m.kind) := (hS.m.cell 0).trans (by rw [← HD.out]; rfl)
  refine tst (d := 59) (p1 := PT L 0) (u := .int .i64 m.kind) true hF h1 h2 h3 h8 (r2 := (fun ev h => by simp only [execOp, h]; simp [go_sem, c0])) (r3 := (fun ev hcst h => by simp only [execOp, h, hcst]; simp [go_sem, hkk])) (h := ?_)
  intro a f hF h1 h2 h3 h8 hp
  refine mv8 (d := 62) (p := 61) hF h1 h2 h3 h8 hp (h := ?_)
  intro a f hF h1 h2 h3 h8 hp
  refine gk (d := 63) (p := 62) (g := 3) (p1 := PT L 0) (u := .int .i64 m.kind) true hF false h1 h2 h3 h8 hp (r2 := (fun ev h => by simp only [execOp, h]; simp [go_sem, c0])) (r3 := (fun ev hcst h => by simp only [execOp, h, hcst]; simp [go_sem, hkk])) (h := ?_)
  intro a f hF h1 h2 h3 h8 hp
  clear c0
  refine wpList_nil ?_
  show Code.wp _ _ _ _ _
  refine wp_cond_false ((hF.eval 66 (by omega)).trans hp) ?_
  refine wp_skip ?_
  show Code.wp _ _ _ _ _
  refine wp_seq ?_
  refine wp_seq (wp_region_list ?_)
  have c0 : W.cell? ⟨L, 0, none⟩ = some (.int .i64 m.kind) := (hS.m.cell 0).trans (by rw [← HD.out]; rfl)
  refine tst (d := 70) (p1 := PT L 0) (u := .int .i64 m.kind) false hF h1 h2 h3 h8 (r2 := (fun ev h => by simp only [execOp, h]; simp [go_sem, c0])) (r3 := (fun ev hcst h => by simp only [execOp, h, hcst]; simp [go_sem, hkk])) (h := ?_)
  intro a f hF h1 h2 h3 h8 hp
  clear c0
  refine wpList_nil ?_
  show Code.wp _ _ _ _ _
  refine wp_cond_false ((hF.eval 72 (by omega)).trans hp) ?_
  refine wp_skip ?_
  show Code.wp _ _ _ _ _
  refine wp_seq ?_
  refine wp_seq (wp_region_list ?_)
  have c0 : W.cell? ⟨L, 0, none⟩ = some (.int .i64 m.kind) := (hS.m.cell 0).trans (by rw [← HD.out]; rfl)
  refine tst (d := 76) (p1 := PT L 0) (u := .int .i64 m.kind) true hF h1 h2 h3 h8 (r2 := (fun ev h => by simp only [execOp, h]; simp [go_sem, c0])) (r3 := (fun ev hcst h => by simp only [execOp, h, hcst]; simp [go_sem, hkk])) (h := ?_)
  intro a f hF h1 h2 h3 h8 hp
  refine mv8 (d := 79) (p := 78) hF h1 h2 h3 h8 hp (h := ?_)
  intro a f hF h1 h2 h3 h8 hp
  refine gk (d := 80) (p := 79) (g := 3) (p1 := PT L 0) (u := .int .i64 m.kind) true hF false h1 h2 h3 h8 hp (r2 := (fun ev h => by simp only [execOp, h]; simp [go_sem, c0])) (r3 := (fun ev hcst h => by simp only [execOp, h, hcst]; simp [go_sem, hkk])) (h := ?_)
  intro a f hF h1 h2 h3 h8 hp
  refine mv8 (d := 84) (p := 83) hF h1 h2 h3 h8 hp (h := ?_)
  intro a f hF h1 h2 h3 h8 hp
  refine gk (d := 85) (p := 84) (g := 8) (p1 := PT L 0) (u := .int .i64 m.kind) false hF true h1 h2 h3 h8 hp (r2 := (fun ev h => by simp only [execOp, h]; simp [go_sem, c0])) (r3 := (fun ev hcst h => by simp only [execOp, h, hcst]; simp [go_sem, hkk])) (h := ?_)
  intro a f hF h1 h2 h3 h8 hp
  refine mv8 (d := 89) (p := 88) hF h1 h2 h3 h8 hp (h := ?_)
  intro a f hF h1 h2 h3 h8 hp
  refine gk (d := 90) (p := 89) (g := 13) (p1 := PT L 0) (u := .int .i64 m.kind) false hF false h1 h2 h3 h8 hp (r2 := (fun ev h => by simp only [execOp, h]; simp [go_sem, c0])) (r3 := (fun ev hcst h => by simp only [execOp, h, hcst]; simp [go_sem, hkk])) (h := ?_)
  intro a f hF h1 h2 h3 h8 hp
  clear c0
  refine wpList_nil ?_
  show Code.wp _ _ _ _ _
  refine wp_cond_true ((hF.eval 93 (by omega)).trans hp) ?_
  refine wp_region_list ?_
  have c8 : W.cell? ⟨L, 8, none⟩ = some (.int .i64 m.down) := (hS.m.cell 8).trans (by rw [← HD.out]; rfl)
  obtain ⟨v8, u8⟩ := hS.cell 8 (by omega)
  have c9 : W.cell? ⟨L, 9, none⟩ = some (.int .i64 m.up) := (hS.m.cell 9).trans (by rw [← HD.out]; rfl)
  obtain ⟨v9, u9⟩ := hS.cell 9 (by omega)
  refine cp (d := 94) (p1 := PT L 8) (p3 := PT (L + 2) 8) (u := .agg #[.int .i64 m.down, .int .i64 m.up]) hF h1 h2 h3 h8 (r2 := (fun ev h => by simp only [execOp, h]; simp [go_sem, c8, c9])) (r4 := (fun ev h h' => by simp only [execOp, h, h']; simp [go_sem, u8, u9, hS.x.frozen 8, hS.x.frozen 9])) (hS := ((hS.set 8 (.int .i64 m.down)).set 9 (.int .i64 m.up))) (h := ?_)
  clear hS c8 u8 v8 c9 u9 v9
  intro a f W hF h1 h2 h3 h8 hS
  show Code.wp _ _ _ _ _
  refine wp_seq ?_
  refine wp_seq (wp_region_list ?_)
  have c0 : W.cell? ⟨L, 0, none⟩ = some (.int .i64 m.kind) := (hS.m.cell 0).trans (by rw [← HD.out]; rfl)
  refine tst (d := 97) (p1 := PT L 0) (u := .int .i64 m.kind) false hF h1 h2 h3 h8 (r2 := (fun ev h => by simp only [execOp, h]; simp [go_sem, c0])) (r3 := (fun ev hcst h => by simp only [execOp, h, hcst]; simp [go_sem, hkk])) (h := ?_)
  intro a f hF h1 h2 h3 h8 hp
  clear c0
  refine wpList_nil ?_
  show Code.wp _ _ _ _ _
  refine wp_cond_false ((hF.eval 99 (by omega)).trans hp) ?_
  refine wp_skip ?_
  show Code.wp _ _ _ _ _
  obtain ⟨E, hS, hE⟩ : ∃ E, SS w L D E W ∧ E = msgCells (shapeM m) (.slice (shapeAo m.kind ao) (shapeM m).views.length (shapeCv m.kind cv)) := ⟨_, hS, by simp [shapeM, hkk, shapeAo, shapeCv, kindC, msgCells, Msg.zero, Str, inB]⟩
  rw [hE, HT.out] at hS
  refine shape_end (d := 103) hF h2 h3 hS (by rw [← HT.out]; simp [msgCells, Value.oneCell', Str]) (by omega) (by omega) rfl rfl rfl rfl rfl rfl ?_
  intro a' W' hbp
  exact hbp
set_option maxRecDepth 100000 in
set_option maxHeartbeats 1600000 in
theorem rshape9 (m : Msg) (ao : Option Addr) (cv : Nat) (w : World) (hkk : m.kind = 9) :
    Calls Try.prog 48 #[.agg (msgCells m (.slice ao m.views.length cv))] w (fun e w' => e = .returned (.agg (msgCells (shapeM m) (.slice (shapeAo m.kind ao) (shapeM m).views.length (shapeCv m.kind cv)))) ∧ Below w.heap.size w w') := by
  refine calls_of_wp Try.func48 rfl ?_
  generalize hT : msgCells (shapeM m) (.slice (shapeAo m.kind ao) (shapeM m).views.length (shapeCv m.kind cv)) = T
  have HT : Hid _ := hT
  clear hT
  generalize hD : msgCells m (.slice ao m.views.length cv) = D
  have HD : Hid _ := hD
  have d0 : D[0]? = some (.int .i64 9) := by rw [← hD, ← hkk]; rfl
  clear hD
  have e : Try.f48.ntmps - (#[Value.agg D] : Array Value).size = 103 := by rw [Try.ntmps48]; rfl
  rw [e]
  have hF0 := frame_init1 (.agg D) 103
  generalize ({ tmps := #[Value.agg D] ++ Array.replicate 103 undef, defers := [] } : Act) = a0 at *
  refine sstart hF0 rfl d0 rfl rfl rfl rfl rfl rfl rfl rfl rfl rfl rfl rfl rfl rfl rfl rfl rfl rfl rfl rfl rfl rfl rfl rfl rfl rfl rfl ?_
  generalize w.heap.size = L
  intro a f W hF h1 h2 h3 h8 hS
  clear hF0 d0 e
  refine wp_block ?_
  refine wp_seq (wp_region_list ?_)
  refine swt (d := 9) false hF h1 h2 h3 h8 (h := ?_)
  intro a f hF h1 h2 h3 h8 hp
  show Code.wp _ _ _ _ _
  refine wp_cond_false ((hF.eval 9 (by omega)).trans hp) ?_
  refine wp_seq (wp_region_list ?_)
  refine swt (d := 18) false hF h1 h2 h3 h8 (h := ?_)
  intro a f hF h1 h2 h3 h8 hp
  show Code.wp _ _ _ _ _
  refine wp_cond_false ((hF.eval 18 (by omega)).trans hp) ?_
  refine wp_seq (wp_region_list ?_)
  refine swt (d := 24) false hF h1 h2 h3 h8 (h := ?_)
  intro a f hF h1 h2 h3 h8 hp
  show Code.wp _ _ _ _ _
  refine wp_cond_false ((hF.eval 24 (by omega)).trans hp) ?_
  refine wp_skip ?_
  show Code.wp _ _ _ _ _
  refine wp_seq (wp_region_list ?_)
  have c1 : W.cell? ⟨L, 1, none⟩ = some (.string ⟨m.name.toArray⟩) := (hS.m.cell 1).trans (by rw [← HD.out]; rfl)
  obtain ⟨v1, u1⟩ := hS.cell 1 (by omega)
  refine cp (d := 50) (p1 := PT L 1) (p3 := PT (L + 2) 1) (u := .string ⟨m.name.toArray⟩) hF h1 h2 h3 h8 (r2 := (fun ev h => by simp only [execOp, h]; simp [go_sem, c1])) (r4 := (fun ev h h' => by simp only [execOp, h, h']; simp [go_sem, u1, hS.x.frozen 1])) (hS := (hS.set 1 (.string ⟨m.name.toArray⟩))) (h := ?_)
  clear hS c1 u1 v1
  intro a f W hF h1 h2 h3 h8 hS
  show Code.wp _ _ _ _ _
  refine wp_seq (wp_region_list ?_)
  have c2 : W.cell? ⟨L, 2, none⟩ = some (.int .i64 m.cap) := (hS.m.cell 2).trans (by rw [← HD.out]; rfl)
  obtain ⟨v2, u2⟩ := hS.cell 2 (by omega)
  refine cp (d := 53) (p1 := PT L 2) (p3 := PT (L + 2) 2) (u := .int .i64 m.cap) hF h1 h2 h3 h8 (r2 := (fun ev h => by simp only [execOp, h]; simp [go_sem, c2])) (r4 := (fun ev h h' => by simp only [execOp, h, h']; simp [go_sem, u2, hS.x.frozen 2])) (hS := (hS.set 2 (.int .i64 m.cap))) (h := ?_)
  clear hS c2 u2 v2
  intro a f W hF h1 h2 h3 h8 hS
  show Code.wp _ _ _ _ _
  refine wp_seq (wp_region_list ?_)
  have c3 : W.cell? ⟨L, 3, none⟩ = some (.int .i64 m.recaps) := (hS.m.cell 3).trans (by rw [← HD.out]; rfl)
  obtain ⟨v3, u3⟩ := hS.cell 3 (by omega)
  refine cp (d := 56) (p1 := PT L 3) (p3 := PT (L + 2) 3) (u := .int .i64 m.recaps) hF h1 h2 h3 h8 (r2 := (fun ev h => by simp only [execOp, h]; simp [go_sem, c3])) (r4 := (fun ev h h' => by simp only [execOp, h, h']; simp [go_sem, u3, hS.x.frozen 3])) (hS := (hS.set 3 (.int .i64 m.recaps))) (h := ?_)
  clear hS c3 u3 v3
  intro a f W hF h1 h2 h3 h8 hS
  show Code.wp _ _ _ _ _
  refine wp_seq ?_
  refine wp_seq (wp_region_list ?_)
  have c0 : W.cell? ⟨L, 0, none⟩ = some (.int .i64 m.kind) := (hS.m.cell 0).trans (by rw [← HD.out]; rfl)
  refine tst (d := 59) (p1 := PT L 0) (u := .int .i64 m.kind) true hF h1 h2 h3 h8 (r2 := (fun ev h => by simp only [execOp, h]; simp [go_sem, c0])) (r3 := (fun ev hcst h => by simp only [execOp, h, hcst]; simp [go_sem, hkk])) (h := ?_)
  intro a f hF h1 h2 h3 h8 hp
  refine mv8 (d := 62) (p := 61) hF h1 h2 h3 h8 hp (h := ?_)
  intro a f hF h1 h2 h3 h8 hp
  refine gk (d := 63) (p := 62) (g := 3) (p1 := PT L 0) (u := .int .i64 m.kind) true hF false h1 h2 h3 h8 hp (r2 := (fun ev h => by simp only [execOp, h]; simp [go_sem, c0])) (r3 := (fun ev hcst h => by simp only [execOp, h, hcst]; simp [go_sem, hkk])) (h := ?_)
  intro a f hF h1 h2 h3 h8 hp
  clear c0
  refine wpList_nil ?_
  show Code.wp _ _ _ _ _
  refine wp_cond_false ((hF.eval 66 (by omega)).trans hp) ?_
  refine wp_skip ?_
  show Code.wp _ _ _ _ _
  refine wp_seq ?_
  refine wp_seq (wp_region_list ?_)
  have c0 : W.cell? ⟨L, 0, none⟩ = some (.int .i64 m.kind) := (hS.m.cell 0).trans (by rw [← HD.out]; rfl)
  refine tst (d := 70) (p1 := PT L 0) (u := .int .i64 m.kind) false hF h1 h2 h3 h8 (r2 := (fun ev h => by simp only [execOp, h]; simp [go_sem, c0])) (r3 := (fun ev hcst h => by simp only [execOp, h, hcst]; simp [go_sem, hkk])) (h := ?_)
  intro a f hF h1 h2 h3 h8 hp
  clear c0
  refine wpList_nil ?_
  show Code.wp _ _ _ _ _
  refine wp_cond_false ((hF.eval 72 (by omega)).trans hp) ?_
  refine wp_skip ?_
  show Code.wp _ _ _ _ _
  refine wp_seq ?_
  refine wp_seq (wp_region_list ?_)
  have c0 : W.cell? ⟨L, 0, none⟩ = some (.int .i64 m.kind) := (hS.m.cell 0).trans (by rw [← HD.out]; rfl)
  refine tst (d := 76) (p1 := PT L 0) (u := .int .i64 m.kind) true hF h1 h2 h3 h8 (r2 := (fun ev h => by simp only [execOp, h]; simp [go_sem, c0])) (r3 := (fun ev hcst h => by simp only [execOp, h, hcst]; simp [go_sem, hkk])) (h := ?_)
  intro a f hF h1 h2 h3 h8 hp
  refine mv8 (d := 79) (p := 78) hF h1 h2 h3 h8 hp (h := ?_)
  intro a f hF h1 h2 h3 h8 hp
  refine gk (d := 80) (p := 79) (g := 3) (p1 := PT L 0) (u := .int .i64 m.kind) true hF false h1 h2 h3 h8 hp (r2 := (fun ev h => by simp only [execOp, h]; simp [go_sem, c0])) (r3 := (fun ev hcst h => by simp only [execOp, h, hcst]; simp [go_sem, hkk])) (h := ?_)
  intro a f hF h1 h2 h3 h8 hp
  refine mv8 (d := 84) (p := 83) hF h1 h2 h3 h8 hp (h := ?_)
  intro a f hF h1 h2 h3 h8 hp
  refine gk (d := 85) (p := 84) (g := 8) (p1 := PT L 0) (u := .int .i64 m.kind) false hF false h1 h2 h3 h8 hp (r2 := (fun ev h => by simp only [execOp, h]; simp [go_sem, c0])) (r3 := (fun ev hcst h => by simp only [execOp, h, hcst]; simp [go_sem, hkk])) (h := ?_)
  intro a f hF h1 h2 h3 h8 hp
  refine mv8 (d := 89) (p := 88) hF h1 h2 h3 h8 hp (h := ?_)
  intro a f hF h1 h2 h3 h8 hp
  refine gk (d := 90) (p := 89) (g := 13) (p1 := PT L 0) (u := .int .i64 m.kind) false hF true h1 h2 h3 h8 hp (r2 := (fun ev h => by simp only [execOp, h]; simp [go_sem, c0])) (r3 := (fun ev hcst h => by simp only [execOp, h, hcst]; simp [go_sem, hkk])) (h := ?_)
  intro a f hF h1 h2 h3 h8 hp
  clear c0
  refine wpList_nil ?_
  show Code.wp _ _ _ _ _
  refine wp_cond_true ((hF.eval 93 (by omega)).trans hp) ?_
  refine wp_region_list ?_
  have c8 : W.cell? ⟨L, 8, none⟩ = some (.int .i64 m.down) := (hS.m.cell 8).trans (by rw [← HD.out]; rfl)
  obtain ⟨v8, u8⟩ := hS.cell 8 (by omega)
  have c9 : W.cell? ⟨L, 9, none⟩ = some (.int .i64 m.up) := (hS.m.cell 9).trans (by rw [← HD.out]; rfl)
  obtain ⟨v9, u9⟩ := hS.cell 9 (by omega)
  refine cp (d := 94) (p1 := PT L 8) (p3 := PT (L + 2) 8) (u := .agg #[.int .i64 m.down, .int .i64 m.up]) hF h1 h2 h3 h8 (r2 := (fun ev h => by simp only [execOp, h]; simp [go_sem, c8, c9])) (r4 := (fun ev h h' => by simp only [execOp, h, h']; simp [go_sem, u8, u9, hS.x.frozen 8, hS.x.frozen 9])) (hS := ((hS.set 8 (.int .i64 m.down)).set 9 (.int .i64 m.up))) (h := ?_)
  clear hS c8 u8 v8 c9 u9 v9
  intro a f W hF h1 h2 h3 h8 hS
  show Code.wp _ _ _ _ _
  refine wp_seq ?_
  refine wp_seq (wp_region_list ?_)
  have c0 : W.cell? ⟨L, 0, none⟩ = some (.int .i64 m.kind) := (hS.m.cell 0).trans (by rw [← HD.out]; rfl)
  refine tst (d := 97) (p1 := PT L 0) (u := .int .i64 m.kind) false hF h1 h2 h3 h8 (r2 := (fun ev h => by simp only [execOp, h]; simp [go_sem, c0])) (r3 := (fun ev hcst h => by simp only [execOp, h, hcst]; simp [go_sem, hkk])) (h := ?_)
  intro a f hF h1 h2 h3 h8 hp
  clear c0
  refine wpList_nil ?_
  show Code.wp _ _ _ _ _
  refine wp_cond_false ((hF.eval 99 (by omega)).trans hp) ?_
  refine wp_skip ?_
  show Code.wp _ _ _ _ _
  obtain ⟨E, hS, hE⟩ : ∃ E, SS w L D E W ∧ E = msgCells (shapeM m) (.slice (shapeAo m.kind ao) (shapeM m).views.length (shapeCv m.kind cv)) := ⟨_, hS, by simp [shapeM, hkk, shapeAo, shapeCv, kindC, msgCells, Msg.zero, Str, inB]⟩
  rw [hE, HT.out] at hS
  refine shape_end (d := 103) hF h2 h3 hS (by rw [← HT.out]; simp [msgCells, Value.oneCell', Str]) (by omega) (by omega) rfl rfl rfl rfl rfl rfl ?_
  intro a' W' hbp
  exact hbp
end Go.Proofs.Ytfgnlfemckdfnaa
