import Derived.Test.YtkdndfdofhnagaaDoorOnce0
namespace Go.Proofs.YtkdndfdofhnagaaDoor
open Go.RowKit Go.PlainAid
set_option linter.unusedVariables false
set_option linter.unusedSimpArgs false
theorem flatO_append : ∀ A B : List OpA, flatO (A ++ B) = flatO A ++ flatO B
  | [], B => rfl
  | x :: A, B => by simp [flatO, flatO_append A B]
theorem flatO_len : ∀ es : List OpA, (flatO es).length = es.length * 4
  | [] => rfl
  | x :: t => by simp [flatO, opCells, flatO_len t]; omega
theorem flatO_set : ∀ (es : List OpA) (j : Nat) (e : OpA) (t : Bool), es[j]? = some e → (flatO es).set (j * 4 + 3) (.bool t) = flatO (es.set j { e with o := t })
  | [], j, e, t, h => by simp at h
  | x :: r, 0, e, t, h => by
    simp at h
    subst h
    rfl
  | x :: r, j + 1, e, t, h => by
    have ih := flatO_set r j e t (by simpa using h)
    rw [show (j + 1) * 4 + 3 = (j * 4 + 3) + 4 by omega]
    simp only [flatO, opCells, List.cons_append, List.nil_append, List.set_cons_succ]
    rw [ih]
theorem info29 : (Tryd.prog.info? 29).map (fun i => (i.zero, i.size, i.bytes)) = some (some (.agg #[.int .i64 0, .int .i64 0, .int .i64 0, .bool false]), 4, 32) := by kernel_rfl
/-- A hold is appended to what the law keeps. -/
theorem wpList_appO {w : World} {ops : Array Oper} {rest : List Oper} {o : Oper} {a : Act} {Q : Exit → Act → World → Prop} (hgd : o.guard = none) (s x : Operand)
    (ho : o.op = .call { callee := .builtin .append, args := #[s, x], argTypes := #[22, 22] })
    (base k : Nat) (v : Value) (es : List OpA) (hs : a.eval s = v) (hown : w.ownsRow base 29 4 v k (flatO es)) (e : OpA) {g : Nat} (hx : a.eval x = .slice (some ⟨g, 0, none⟩) 1 1) (hgs : g = w.heap.size) (hlen : k + 1 ≤ 100000) (hbase : base ≤ w.heap.size)
    (h : ∀ v' w', w'.ownsRow base 29 4 v' (k + 1) (flatO (es ++ [e])) → Chg (fun j => v.ownBlock = some j) w w' → wpList Tryd.prog ops Q rest (a.put o.dst v') w') :
    wpList Tryd.prog ops Q (o :: rest) a (w.alloc (.cells #[.int .i64 e.k, .int .i64 e.a, .int .i64 e.b, .bool e.o] 29)) := by
  subst hgs
  obtain ⟨i0, hi, hz0, hz1, hz2⟩ := info_parts info29
  have hby2 : (k + 1) * 32 ≤ 140737488355328 := Nat.le_trans (Nat.mul_le_mul hlen (Nat.le_refl 32)) (by decide)
  have hnews : ∀ j u, (opCells e)[j]? = some u → (w.alloc (.cells #[.int .i64 e.k, .int .i64 e.a, .int .i64 e.b, .bool e.o] 29)).cell? ((⟨w.heap.size, 0, none⟩ : Addr).add j) = some u := fun j u hu => by
    rw [addr_add, Nat.zero_add]
    have hB : Blk (w.alloc (.cells #[.int .i64 e.k, .int .i64 e.a, .int .i64 e.b, .bool e.o] 29)) w.heap.size #[.int .i64 e.k, .int .i64 e.a, .int .i64 e.b, .bool e.o] 29 := heap_alloc_new w _
    rw [hB.cell j]
    simpa [opCells] using hu
  obtain ⟨v', w', hr, h1, h2, _⟩ := run_append_own (P := Tryd.prog) (w.alloc (.cells #[.int .i64 e.k, .int .i64 e.a, .int .i64 e.b, .bool e.o] 29)) base 22 o.type 29 i0 (.agg #[.int .i64 0, .int .i64 0, .int .i64 0, .bool false]) 4 32 Tryd.underlying22 hi hz0 hz1 hz2 rfl (by decide) v k (flatO es) (hown.alloc _) ⟨w.heap.size, 0, none⟩ 1 1 (opCells e) rfl hnews (fun u hu => by simp [opCells] at hu; rcases hu with rfl | rfl | rfl | rfl <;> rfl) (by unfold maxLen; omega) hby2 (by rw [World.size_alloc]; omega)
  refine wpList_plain hgd fun K hK => ?_
  unfold Oper.wp execOp
  simp only [ho, resolve, invoke, builtin, Sem.run_bind, Sem.run_pure, Result.andThen_ok, List.map_toArray, List.map_cons, List.map_nil, hs, hx, hr]
  refine hK _ _ (h v' w' ?_ ?_)
  · rw [flatO_append]
    have : flatO [e] = opCells e := by simp [flatO]
    rw [this]
    exact h1
  · exact ⟨h2.os, h2.tape, h2.output, by have := h2.size; rw [World.size_alloc] at this; omega, fun j hj hn => (h2.block j (by rw [World.size_alloc]; omega) (fun e => hn e.symm)).trans (Below.heap_alloc _ _ _ hj)⟩
theorem own_set4 {w : World} {L e n g cap k : Nat} {xs : List Value} (h : w.ownsRow L e 4 (.slice (some ⟨g, 0, none⟩) n cap) n xs) (hk : k < n * 4) (u : Value) : (w.setCell ⟨g, k, none⟩ u).ownsRow L e 4 (.slice (some ⟨g, 0, none⟩) n cap) n (xs.set k u) ∧ w.frozen? ⟨g, k, none⟩ = false ∧ ∃ u0, w.cell? ⟨g, k, none⟩ = some u0 := by
  rcases h.2 with ⟨h1, _⟩ | ⟨g2, c, cur, h1, h2, h3, h4, h5, h6, h7⟩
  · cases h1
  · cases h1
    have hB : Blk w g cur e := h3
    have hkc : k < cur.size := by rw [h6]; omega
    refine ⟨⟨by simpa using h.1, Or.inr ⟨g, cap, cur.setIfInBounds k u, rfl, h2, hB.set k u, h4, h5, by simpa using h6, ?_⟩⟩, hB.frozen k, ?_⟩
    · rw [← h7, Array.toList_setIfInBounds, List.take_set]
    · exact ⟨cur[k]'hkc, by rw [hB.cell k]; exact Array.getElem?_eq_getElem _⟩
/-- The law's state in memory. -/
structure OSt (S : Sens) (hb mb lb : Nat) (b : BS) (s : LS) (es : List OpA) (v : Value) (W wr : World) : Prop where
  bk : BkS S hb mb lb b s W wr
  oi : OI b s es
  row : wr.ownsRow W.heap.size 29 4 v es.length (flatO es)
section
variable {S : Sens} {hb mb lb : Nat} {b b' : BS} {s s' : LS} {es es' : List OpA} {v v' : Value} {W wr w2 : World}
theorem OSt.more (h : OSt S hb mb lb b s es v W wr) (hb2 : Below wr.heap.size wr w2) : OSt S hb mb lb b s es v W w2 :=
  ⟨h.bk.more hb2, h.oi, ownsRow_same h.row (fun k e => hb2.block k (ownsRow_lt h.row e).2)⟩
theorem OSt.rowne (h : OSt S hb mb lb b s es v W wr) {k : Nat} (e : v.ownBlock = some k) : k ≠ hb ∧ k ≠ mb ∧ k ≠ lb := by
  obtain ⟨cur, h1⟩ := ownsRow_type h.row e
  exact ⟨Blk.ne_t h1 h.bk.bk.blk (by decide), Blk.ne_m h1 h.bk.bk.map, Blk.ne_t h1 h.bk.led (by decide)⟩
theorem OSt.step (h : OSt S hb mb lb b s es v W wr) (hc : Chg (fun k => k = hb ∨ k = mb ∨ k = lb) wr w2) (hB : Bk hb mb b' w2) (hl : Blk w2 lb s'.cs 71) : BkS S hb mb lb b' s' W w2 ∧ w2.ownsRow W.heap.size 29 4 v es.length (flatO es) :=
  ⟨h.bk.step hc hB hl, ownsRow_same h.row (fun k e => hc.block k (ownsRow_lt h.row e).2 (fun e2 => by have := h.rowne e; rcases e2 with e2 | e2 | e2; exact this.1 e2; exact this.2.1 e2; exact this.2.2 e2))⟩
theorem OSt.low (h : OSt S hb mb lb b s es v W wr) : W.heap.size ≤ wr.heap.size := h.bk.bel.size
theorem bks_row {n : Nat} {xs : List Value} (h : BkS S hb mb lb b s W wr) (hr : wr.ownsRow W.heap.size 29 4 v n xs) (hc : Chg (fun j => v.ownBlock = some j) wr w2) : BkS S hb mb lb b s W w2 := by
  have hne : ∀ k, v.ownBlock = some k → k ≠ hb ∧ k ≠ mb ∧ k ≠ lb := fun k e => by
    obtain ⟨cur, h1⟩ := ownsRow_type hr e
    exact ⟨Blk.ne_t h1 h.bk.blk (by decide), Blk.ne_m h1 h.bk.map, Blk.ne_t h1 h.led (by decide)⟩
  have hx : Below W.heap.size wr w2 := hc.below h.bel.size (fun k e => (ownsRow_lt hr e).1)
  exact ⟨h.sen.below hx, h.bk.keep hc (fun e => (hne _ e).1 rfl) (fun e => (hne _ e).2.1 rfl), hc.blk h.led (fun e => (hne _ e).2.2 rfl), h.bel.trans hx, h.lo⟩
/-- The cells of what is kept. -/
theorem OSt.cells (h : OSt S hb mb lb b s es v W wr) {j : Nat} {e : OpA} (hj : es[j]? = some e) : ∃ g cap, v = .slice (some ⟨g, 0, none⟩) es.length cap ∧ wr.cell? ⟨g, j * 4, none⟩ = some (.int .i64 e.k) ∧ wr.cell? ⟨g, j * 4 + 1, none⟩ = some (.int .i64 e.a) ∧ wr.cell? ⟨g, j * 4 + 2, none⟩ = some (.int .i64 e.b) ∧ wr.cell? ⟨g, j * 4 + 3, none⟩ = some (.bool e.o) := by
  obtain ⟨ao, cap, hv, _, _, hc⟩ := own_read h.row
  obtain ⟨g, hg, _, _, hcc⟩ := hc (by have := (List.getElem?_eq_some_iff.1 hj).1; omega)
  obtain ⟨f0, f1, f2, f3⟩ := flatO_get _ _ _ hj
  exact ⟨g, cap, by rw [hv, hg], hcc _ _ f0, hcc _ _ f1, hcc _ _ f2, hcc _ _ f3⟩
/-- A row's cell of what has ended is written. -/
theorem row_set {g cap j : Nat} {e : OpA} (hk : BkS S hb mb lb b s W wr) (hr : wr.ownsRow W.heap.size 29 4 (.slice (some ⟨g, 0, none⟩) es.length cap) es.length (flatO es)) (hj : es[j]? = some e) (t : Bool) :
    BkS S hb mb lb b s W (wr.setCell ⟨g, j * 4 + 3, none⟩ (.bool t)) ∧ (wr.setCell ⟨g, j * 4 + 3, none⟩ (.bool t)).ownsRow W.heap.size 29 4 (.slice (some ⟨g, 0, none⟩) es.length cap) es.length (flatO (es.set j { e with o := t })) ∧ wr.frozen? ⟨g, j * 4 + 3, none⟩ = false ∧ ∃ u0, wr.cell? ⟨g, j * 4 + 3, none⟩ = some u0 := by
  have hl := (List.getElem?_eq_some_iff.1 hj).1
  obtain ⟨h1, h2, h3⟩ := own_set4 hr (k := j * 4 + 3) (by omega) (.bool t)
  rw [flatO_set es j e t hj] at h1
  refine ⟨bks_row hk hr ((Chg.ofStq (Stq.set g (j * 4 + 3) (.bool t) wr)).mono (fun k _ e => by subst e; rfl)), h1, h2, h3⟩
end
end Go.Proofs.YtkdndfdofhnagaaDoor
