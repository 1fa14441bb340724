import Derived.Test.YtnphkmdanicemaaGreatDoorRows
import Derived.WalkKit
import Derived.WalkSpells
import Derived.WalkLawsBesides
import Derived.Handy
import Derived.PlainAid
import Derived.Laws.AppendOwnNone
import Derived.Deep.AppendLies
import Derived.Recover
import Derived.Laws.Cover1
import Derived.Deep.RegionWith
import Derived.Deep.RegionLaw
import Derived.Deep.QuietTactic
import Derived.BigQuiet
namespace Go.Proofs.YtnphkmdanicemaaGreatDoor
open Go.RowKit Go.PlainAid
set_option linter.unusedVariables false
set_option linter.unusedSimpArgs false
theorem val_i64 {a b : Int} (h : a = b) : Value.int .i64 a = .int .i64 b := by rw [h]
theorem val_u64 {a b : Int} (h : a = b) : Value.int .u64 a = .int .u64 b := by rw [h]
theorem ret_i64 {a b : Int} (h : a = b) : Ending.returned (.int .i64 a) = .returned (.int .i64 b) := by rw [h]
theorem ret_u64 {a b : Int} (h : a = b) : Ending.returned (.int .u64 a) = .returned (.int .u64 b) := by rw [h]
theorem ret_bool {a b : Bool} (h : a = b) : Ending.returned (.bool a) = .returned (.bool b) := by rw [h]
theorem addr_add (g o j : Nat) : (Addr.add ⟨g, o, none⟩ j) = ⟨g, o + j, none⟩ := by unfold Addr.add; split <;> simp_all
def Blk (w : World) (mb : Nat) (C : Array Value) (T : TypeId) : Prop := w.heap[mb]? = some (.cells C T (0, 0))
theorem Blk.cell {w : World} {mb : Nat} {C : Array Value} {T : TypeId} (h : Blk w mb C T) (j : Nat) : w.cell? ⟨mb, j, none⟩ = C[j]? := cell_of_row w mb j C T (0, 0) h
theorem Blk.frozen {w : World} {mb : Nat} {C : Array Value} {T : TypeId} (h : Blk w mb C T) (j : Nat) : w.frozen? ⟨mb, j, none⟩ = false := by unfold Blk at h; simp [World.frozen?, h]
theorem Blk.lt {w : World} {mb : Nat} {C : Array Value} {T : TypeId} (h : Blk w mb C T) : mb < w.heap.size := (Array.getElem?_eq_some_iff.1 h).1
theorem Blk.set {w : World} {mb : Nat} {C : Array Value} {T : TypeId} (h : Blk w mb C T) (j : Nat) (v : Value) : Blk (w.setCell ⟨mb, j, none⟩ v) mb (C.setIfInBounds j v) T := by
  unfold Blk at *
  simp [World.setCell, Array.getElem?_modify, h]
theorem Blk.below {w w' : World} {B mb : Nat} {C : Array Value} {T : TypeId} (h : Blk w mb C T) (hb : Below B w w') (hlt : mb < B) : Blk w' mb C T := (hb.block mb hlt).trans h
theorem grown_alloc {w w1 : World} {o : Obj} {row : Option Nat} (hg : (w.alloc o).grownBy w1 row) : w.grownBy w1 row :=
  ⟨hg.os, hg.tape, hg.output, Nat.le_trans (by simp) hg.size, fun k hk hne => (hg.block k (by simp; omega) hne).trans (Below.heap_alloc _ _ _ hk)⟩
/-- What becomes of a row that is appended to, and of all else. -/
structure Grew (w w' : World) (v v' : Value) : Prop where
  g : w.grownBy w' v.ownBlock
  at' : ∀ j, v'.ownBlock = some j → v.ownBlock = some j ∨ w.heap.size ≤ j
theorem Grew.refl (w : World) (v : Value) : Grew w w v v := ⟨⟨rfl, rfl, rfl, Nat.le_refl _, fun _ _ _ => rfl⟩, fun _ h => Or.inl h⟩
theorem Grew.trans {a b c : World} {u v x : Value} (h : Grew a b u v) (k : Grew b c v x) : Grew a c u x := by
  refine ⟨⟨k.g.os.trans h.g.os, k.g.tape.trans h.g.tape, k.g.output.trans h.g.output, Nat.le_trans h.g.size k.g.size, fun j hj hne => ?_⟩, fun j hj => ?_⟩
  · refine (k.g.block j (Nat.lt_of_lt_of_le hj h.g.size) ?_).trans (h.g.block j hj hne)
    intro e
    rcases h.at' j e.symm with h1 | h1
    · exact hne h1.symm
    · omega
  · rcases k.at' j hj with h1 | h1
    · exact h.at' j h1
    · exact Or.inr (Nat.le_trans h.g.size h1)
theorem Grew.below {w w' : World} {v v' : Value} {base : Nat} (h : Grew w w' v v') (hb : ∀ j, v.ownBlock = some j → base ≤ j) (hs : base ≤ w.heap.size) : Below base w w' :=
  ⟨h.g.os, h.g.tape, h.g.output, h.g.size, fun k hk => h.g.block k (by omega) (fun e => by have := hb k e.symm; omega)⟩
theorem Grew.ofAlloc {w w' : World} {v v' : Value} {o : Obj} (h : Grew (w.alloc o) w' v v') : Grew w w' v v' := by
  refine ⟨⟨h.g.os, h.g.tape, h.g.output, by have := h.g.size; rw [World.size_alloc] at this; omega, fun k hk hne => ?_⟩, fun j hj => ?_⟩
  · exact (h.g.block k (by rw [World.size_alloc]; omega) hne).trans (Below.heap_alloc _ _ _ hk)
  · rcases h.at' j hj with h1 | h1
    · exact Or.inl h1
    · rw [World.size_alloc] at h1; exact Or.inr (by omega)
/- A frame as a function of the slot. -/
def upd (f : Nat → Value) (d : Nat) (v : Value) : Nat → Value := fun j => if j = d then v else f j
structure Fr (N : Nat) (a : Act) (f : Nat → Value) : Prop where
  size : a.tmps.size = N
  defers : a.defers = []
  get : ∀ j, j < N → a.tmps[j]? = some (f j)
theorem Fr.put {N : Nat} {a : Act} {f : Nat → Value} (h : Fr N a f) (d : Nat) (v : Value) (hd : d < N) : Fr N (a.put (some d) v) (upd f d v) := by
  refine ⟨by simp [Act.put, h.size], by simp [Act.put, h.defers], fun j hj => ?_⟩
  simp only [Act.put, upd, Array.getElem?_setIfInBounds, h.size, h.get j hj]
  by_cases e : d = j
  · subst e; simp [hd]
  · rw [if_neg e, if_neg (fun e' => e e'.symm)]
theorem Fr.eval {N : Nat} {a : Act} {f : Nat → Value} (h : Fr N a f) (j : Nat) (hj : j < N) : a.eval (.tmp j) = f j := by
  simp [Act.eval, h.get j hj]
theorem Fr.yields {N : Nat} {a : Act} {f : Nat → Value} (h : Fr N a f) {ops : Array Oper} {i d : Nat} (ho : (ops[i]?).bind (·.dst) = some d) (hd : d < N) {b : Bool} (hb : f d = .bool b) : yielded ops a.tmps i = some b := by
  simp [yielded, ho, h.get d hd, hb]
theorem Fr.yieldsNot {N : Nat} {a : Act} {f : Nat → Value} (h : Fr N a f) {ops : Array Oper} {i d : Nat} (ho : (ops[i]?).bind (·.dst) = some d) (hd : d < N) (hb : f d = undef) : yielded ops a.tmps i = none := by
  simp only [yielded, ho, Option.bind_some, h.get d hd, hb]
  rfl

section
variable {ops : Array Oper} {Q : Exit → Act → World → Prop} {a : Act} {w : World} {rest : List Oper} {o : Oper}
theorem st_yes {v : Value} (hw : Region.wanted o (yielded ops a.tmps) = true) (hr : (execOp a.eval o).run Tryz.prog w = .ok (.value v) w) (h : wpList Tryz.prog ops Q rest (a.put o.dst v) w) : wpList Tryz.prog ops Q (o :: rest) a w :=
  wpList_step fun K hK => by
    rw [if_pos hw]
    unfold Oper.wp
    rw [hr]
    exact hK _ _ h
theorem st_no (hw : Region.wanted o (yielded ops a.tmps) = false) (h : wpList Tryz.prog ops Q rest (a.put o.dst undef) w) : wpList Tryz.prog ops Q (o :: rest) a w :=
  wpList_step fun K hK => by
    rw [if_neg (by rw [hw]; simp)]
    exact hK _ _ h
theorem st_call {v : Value} {k : Nat} {args : Array Value} (hw : Region.wanted o (yielded ops a.tmps) = true) (hr : (execOp a.eval o).run Tryz.prog w = .ok (.enter k args) w) (hc : Calls Tryz.prog k args w fun e w' => e = .returned v ∧ w' = w)
    (h : wpList Tryz.prog ops Q rest (a.put o.dst v) w) : wpList Tryz.prog ops Q (o :: rest) a w :=
  wpList_step fun K hK => by
    rw [if_pos hw]
    unfold Oper.wp
    rw [hr]
    refine hc.mono ?_
    rintro e w' ⟨rfl, rfl⟩
    exact hK _ _ h
theorem wanted_none {g : Nat → Option Bool} (h : o.guard = none) : Region.wanted o g = true := by simp [Region.wanted, h]
theorem wanted_some {g : Nat → Option Bool} {i : Nat} {b : Bool} (h : o.guard = some (i, b)) : Region.wanted o g = (g i == some b) := by simp [Region.wanted, h]
end

section
variable {ops : Array Oper} {Q : Exit → Act → World → Prop} {a : Act} {w : World} {rest : List Oper} {o : Oper} {f : Nat → Value} {N d : Nat}
theorem sy (hF : Fr N a f) (hd : o.dst = some d) (hN : d < N) (hw : Region.wanted o (yielded ops a.tmps) = true) {v : Value} (hr : (execOp a.eval o).run Tryz.prog w = .ok (.value v) w) (h : ∀ a', Fr N a' (upd f d v) → wpList Tryz.prog ops Q rest a' w) : wpList Tryz.prog ops Q (o :: rest) a w :=
  st_yes hw hr (by rw [hd]; exact h _ (hF.put d v hN))
theorem sn (hF : Fr N a f) (hd : o.dst = some d) (hN : d < N) (hw : Region.wanted o (yielded ops a.tmps) = false) (h : ∀ a', Fr N a' (upd f d undef) → wpList Tryz.prog ops Q rest a' w) : wpList Tryz.prog ops Q (o :: rest) a w :=
  st_no hw (by rw [hd]; exact h _ (hF.put d undef hN))
theorem sc (hF : Fr N a f) (hd : o.dst = some d) (hN : d < N) (hw : Region.wanted o (yielded ops a.tmps) = true) {k : Nat} {args : Array Value} (hr : (execOp a.eval o).run Tryz.prog w = .ok (.enter k args) w) {v : Value} (hc : Calls Tryz.prog k args w fun e w' => e = .returned v ∧ w' = w)
    (h : ∀ a', Fr N a' (upd f d v) → wpList Tryz.prog ops Q rest a' w) : wpList Tryz.prog ops Q (o :: rest) a w :=
  st_call hw hr hc (by rw [hd]; exact h _ (hF.put d v hN))
end
section
variable {ops : Array Oper} {Q : Exit → Act → World → Prop} {a : Act} {w w' : World} {rest : List Oper} {o : Oper} {f : Nat → Value} {N d : Nat}
theorem sw (hF : Fr N a f) (hd : o.dst = some d) (hN : d < N) (hw : Region.wanted o (yielded ops a.tmps) = true) {v : Value} (hr : (execOp a.eval o).run Tryz.prog w = .ok (.value v) w') (h : ∀ a', Fr N a' (upd f d v) → wpList Tryz.prog ops Q rest a' w') : wpList Tryz.prog ops Q (o :: rest) a w :=
  wpList_step fun K hK => by
    rw [if_pos hw]
    unfold Oper.wp
    rw [hr]
    exact hK _ _ (by rw [hd]; exact h _ (hF.put d v hN))
theorem su (hd : o.dst = none) (hw : Region.wanted o (yielded ops a.tmps) = true) (hr : (execOp a.eval o).run Tryz.prog w = .ok .skip w') (h : wpList Tryz.prog ops Q rest a w') : wpList Tryz.prog ops Q (o :: rest) a w :=
  wpList_step fun K hK => by
    rw [if_pos hw]
    unfold Oper.wp
    rw [hr]
    exact hK _ _ (by rw [hd]; exact h)
end

theorem load_row_g {ops : Array Oper} {rest : List Oper} {o : Oper} {a : Act} {w : World} {Q : Exit → Act → World → Prop} (ty : TypeId) (x : Operand) (ho : o.op = .load ty x) (hw : Region.wanted o (yielded ops a.tmps) = true)
    (g : Nat) (hx : a.eval x = .pointer (some ⟨g, 0, none⟩)) (t : TypeId) (cs : Array Value) (fr : Nat × Nat) (fs : _) (hg : w.heap[g]? = some (.cells cs t fr))
    (hu : Tryz.prog.underlying ty = some (.struct fs)) (hi : (Tryz.prog.info? ty).map (·.size) = some cs.size)
    (h : wpList Tryz.prog ops Q rest (a.put o.dst (.agg cs)) w) : wpList Tryz.prog ops Q (o :: rest) a w :=
  wpList_step fun K hK => by
    rw [if_pos hw]
    exact wp_load_row ty x ho g hx t cs fr _ hg hu rfl hi (hK _ _ h)

theorem Fr.lit {N : Nat} {a : Act} {f : Nat → Value} (h : Fr N a f) : a = { tmps := ((List.range N).map f).toArray, defers := [] } := by
  obtain ⟨t, d⟩ := a
  have h1 := h.size
  have h2 := h.defers
  simp only at h1 h2
  subst h2
  congr 1
  apply Array.ext_getElem?
  intro i
  by_cases hi : i < N
  · rw [h.get i hi]
    simp [hi]
  · rw [Array.getElem?_eq_none (by omega), Array.getElem?_eq_none (by simp; omega)]
theorem Fr.ofLit {N : Nat} (t : Array Value) (h : t.size = N) : Fr N { tmps := t, defers := [] } (fun j => t.getD j undef) := by
  refine ⟨h, rfl, fun j hj => ?_⟩
  simp [Array.getD, h, hj]
/-- What else stays where the blocks of A may change. -/
structure Chg (A : Nat → Prop) (w w' : World) : Prop where
  os : w'.os = w.os
  tape : w'.tape = w.tape
  output : w'.output = w.output
  size : w.heap.size ≤ w'.heap.size
  block : ∀ k, k < w.heap.size → ¬ A k → w'.heap[k]? = w.heap[k]?
theorem Chg.refl (A : Nat → Prop) (w : World) : Chg A w w := ⟨rfl, rfl, rfl, Nat.le_refl _, fun _ _ _ => rfl⟩
theorem Chg.trans {A B : Nat → Prop} {a b c : World} (h : Chg A a b) (k : Chg B b c) (hs : ∀ j, j < a.heap.size → B j → A j) : Chg A a c :=
  ⟨k.os.trans h.os, k.tape.trans h.tape, k.output.trans h.output, Nat.le_trans h.size k.size, fun j hj hn => (k.block j (Nat.lt_of_lt_of_le hj h.size) (fun hb => hn (hs j hj hb))).trans (h.block j hj hn)⟩
theorem Chg.mono {A B : Nat → Prop} {a b : World} (h : Chg A a b) (hs : ∀ j, j < a.heap.size → A j → B j) : Chg B a b :=
  ⟨h.os, h.tape, h.output, h.size, fun j hj hn => h.block j hj (fun ha => hn (hs j hj ha))⟩
theorem Chg.ofBelow (A : Nat → Prop) {w w' : World} (h : Below w.heap.size w w') : Chg A w w' := ⟨h.os, h.tape, h.output, h.size, fun k hk _ => h.block k hk⟩
theorem Chg.below {A : Nat → Prop} {w w' : World} (h : Chg A w w') {L : Nat} (hL : L ≤ w.heap.size) (h1 : ∀ k, A k → L ≤ k) : Below L w w' :=
  ⟨h.os, h.tape, h.output, h.size, fun k hk => h.block k (by omega) (fun ha => by have := h1 k ha; omega)⟩
theorem Chg.blk {A : Nat → Prop} {w w' : World} {hc : Nat} {C : Array Value} {T : TypeId} (h : Chg A w w') (hB : Blk w hc C T) (hn : ¬ A hc) : Blk w' hc C T := (h.block hc hB.lt hn).trans hB
theorem Chg.drewN {A : Nat → Prop} {w w' : World} (h : Chg A w w') (q : Nat) : Chg A w (w'.drewN q) := ⟨h.os, h.tape, h.output, h.size, h.block⟩

theorem Blk.ne_t {w : World} {a b : Nat} {C D : Array Value} {T U : TypeId} (h1 : Blk w a C T) (h2 : Blk w b D U) (h : T ≠ U) : a ≠ b := fun e => by
  subst e
  have := h1.symm.trans h2
  simp only [Option.some.injEq, Obj.cells.injEq] at this
  exact h this.2.1
theorem Grew.chg {w w' : World} {v v' : Value} (h : Grew w w' v v') : Chg (fun k => v.ownBlock = some k) w w' := ⟨h.g.os, h.g.tape, h.g.output, h.g.size, fun k hk hn => h.g.block k hk (fun e => hn e.symm)⟩
theorem ownsRow_same {w w' : World} {base e s n : Nat} {v : Value} {xs : List Value} (h : w.ownsRow base e s v n xs) (hb : ∀ g, v.ownBlock = some g → w'.heap[g]? = w.heap[g]?) : w'.ownsRow base e s v n xs := by
  refine ⟨h.1, ?_⟩
  rcases h.2 with h2 | ⟨g, c, cur, rfl, h3, h4, h5⟩
  · exact Or.inl h2
  · exact Or.inr ⟨g, c, cur, rfl, h3, (hb g rfl).trans h4, h5⟩
theorem ownsRow_type {w : World} {base e s n : Nat} {v : Value} {xs : List Value} (h : w.ownsRow base e s v n xs) {g : Nat} (hg : v.ownBlock = some g) : ∃ cur, w.heap[g]? = some (.cells cur e (0, 0)) := by
  rcases h.2 with ⟨rfl, _⟩ | ⟨g2, c, cur, rfl, h3, h4, h5⟩
  · cases hg
  · cases hg; exact ⟨cur, h4⟩
theorem ownsRow_mono {w : World} {base base' e s n : Nat} {v : Value} {xs : List Value} (h : w.ownsRow base e s v n xs) (hb : base' ≤ base) : w.ownsRow base' e s v n xs := by
  refine ⟨h.1, ?_⟩
  rcases h.2 with h2 | ⟨g, c, cur, rfl, h3, h5⟩
  · exact Or.inl h2
  · exact Or.inr ⟨g, c, cur, rfl, by omega, h5⟩
theorem ownsRow_lt {w : World} {base e s n : Nat} {v : Value} {xs : List Value} (h : w.ownsRow base e s v n xs) {g : Nat} (hg : v.ownBlock = some g) : base ≤ g ∧ g < w.heap.size := h.lt g hg
theorem own_slice {w : World} {base n e s : Nat} {v : Value} {xs : List Value} (h : w.ownsRow base e s v n xs) : ∃ ao cap, v = .slice ao n cap ∧ n ≤ cap := by
  rcases h.2 with ⟨rfl, rfl⟩ | ⟨g, cap, cur, rfl, _, _, hc, _⟩
  · exact ⟨none, 0, rfl, Nat.le_refl _⟩
  · exact ⟨_, cap, rfl, hc⟩
/-- A row is read: where its elements lie. -/
theorem own_read {w : World} {base n e s : Nat} {v : Value} {xs : List Value} (h : w.ownsRow base e s v n xs) : ∃ ao cap, v = .slice ao n cap ∧ n ≤ cap ∧ cap ≤ maxLen ∧ (0 < n → ∃ g, ao = some ⟨g, 0, none⟩ ∧ base ≤ g ∧ g < w.heap.size ∧ ∀ j u, xs[j]? = some u → w.cell? ⟨g, j, none⟩ = some u) := by
  rcases h.2 with ⟨rfl, rfl⟩ | ⟨g, cap, cur, rfl, hb, hg, hc, hm, hcs, htk⟩
  · exact ⟨none, 0, rfl, Nat.le_refl _, Nat.zero_le _, fun h => by omega⟩
  · refine ⟨_, cap, rfl, hc, hm, fun _ => ⟨g, rfl, hb, (Array.getElem?_eq_some_iff.1 hg).1, fun j u hu => ?_⟩⟩
    rw [cell_of_row w g j cur e (0, 0) hg, ← Array.getElem?_toList]
    rw [← htk, List.getElem?_take] at hu
    split at hu
    · exact hu
    · cases hu
/-- An append, whatever the elements: the row behind it, where it lies, and what else within the old row stays. -/
theorem app_any (t e : TypeId) (z : Value) (size bytes : Nat) (ht : Tryz.prog.underlying t = some (.slice e)) (hinfo : (Tryz.prog.info? e).map (fun i => (i.zero, i.size, i.bytes)) = some (some z, size, bytes)) (hzz : z.cells.size = size) (hs0 : 1 ≤ size) (hb0 : 0 < bytes)
    {w : World} {base k : Nat} {v : Value} {xs : List Value} (hown : w.ownsRow base e size v k xs) (ad : Addr) (m cap : Nat) (ys : List Value) (hys : ys.length = m * size) (hnews : ∀ j u, ys[j]? = some u → w.cell? (ad.add j) = some u) (hone : ∀ u ∈ ys, u.oneCell' = true) (hby2 : (k + m) * bytes ≤ 140737488355328) (hbase : base ≤ w.heap.size) (ty : TypeId) :
    ∃ v' w', (Builtin.append_ #[t, t] ty #[v, .slice (some ad) m cap]).run Tryz.prog w = .ok v' w' ∧ w'.ownsRow base e size v' (k + m) (xs ++ ys) ∧ Grew w w' v v' ∧
      ∀ (d : Value) (n base' : Nat) (zs : List Value), n ≤ k → d.ownBlock = v.ownBlock → w.ownsRow base' e size d n zs → w'.ownsRow base' e size d n zs := by
  obtain ⟨i0, hi, hz0, hz1, hz2⟩ := info_parts hinfo
  have hlen : k + m ≤ 140737488355328 := Nat.le_trans (Nat.le_mul_of_pos_right _ hb0) hby2
  obtain ⟨v', w', hr, h1, h2, _⟩ := run_append_own (P := Tryz.prog) w base t ty e i0 z size bytes ht hi hz0 hz1 hz2 hzz hs0 v k xs hown ad m cap ys hys hnews hone (by unfold maxLen; omega) hby2 hbase
  refine ⟨v', w', hr, h1, ⟨h2, ?_⟩, fun d n base' zs hn hd hod => ?_⟩
  · rcases hown.2 with ⟨rfl, rfl⟩ | ⟨g, c, cur, rfl, _, hg, hnc, hcm, hcs, htk⟩
    · have hx : xs = [] := List.eq_nil_of_length_eq_zero (by simpa using hown.1)
      obtain ⟨v1, w1, hr1, ho1, _⟩ := run_append_own (P := Tryz.prog) w w.heap.size t ty e i0 z size bytes ht hi hz0 hz1 hz2 hzz hs0 (.slice none 0 0) 0 [] (World.ownsRow_nil _ _ _ _) ad m cap ys hys hnews hone (by unfold maxLen; omega) hby2 (Nat.le_refl _)
      rw [hr] at hr1
      cases hr1
      exact fun j hj => Or.inr (ho1.lt j hj).1
    · by_cases hroom : k + m ≤ c
      · have hr1 := run_append_room (P := Tryz.prog) w t ty e i0 ht hi g k c cur hg ad m cap ys (by rw [hz1]; exact hys) hnews hone hroom (by rw [hz1, hcs, hys, ← Nat.add_mul]; exact Nat.mul_le_mul_right _ hroom)
        rw [hr] at hr1
        cases hr1
        exact fun j hj => Or.inl hj
      · have hr1 := run_append_grow (P := Tryz.prog) w t ty e i0 z ht hi hz0 ⟨g, 0, none⟩ k c xs (by rw [hz1]; exact hown.1) (hown.cells (g := g) rfl) ad m cap ys (by rw [hz1]; exact hys) hnews (by omega) (by omega) (growslice_fits (by omega) (by rw [hz2]; exact hby2))
        rw [hr] at hr1
        cases hr1
        intro j hj
        cases hj
        exact Or.inr (Nat.le_refl _)
  · rcases hown.2 with ⟨rfl, rfl⟩ | ⟨g, c, cur, rfl, _, hg, hnc, hcm, hcs, htk⟩
    · rcases hod.2 with ⟨rfl, rfl⟩ | ⟨g2, c2, cur2, rfl, _⟩
      · exact ⟨hod.1, Or.inl ⟨rfl, rfl⟩⟩
      · cases hd
    · rcases hod.2 with ⟨rfl, rfl⟩ | ⟨g2, c2, cur2, rfl, hb2, hg2, hnc2, hcm2, hcs2, htk2⟩
      · cases hd
      · cases hd
        rw [hg] at hg2
        cases hg2
        by_cases hroom : k + m ≤ c
        · have hfit : k * i0.size + ys.length ≤ cur.size := by rw [hz1, hcs, hys, ← Nat.add_mul]; exact Nat.mul_le_mul_right _ hroom
          have hr1 := run_append_room (P := Tryz.prog) w t ty e i0 ht hi g k c cur hg ad m cap ys (by rw [hz1]; exact hys) hnews hone hroom hfit
          rw [hr] at hr1
          cases hr1
          have hsz : (cur.toList.take (k * i0.size) ++ ys ++ cur.toList.drop (k * i0.size + ys.length)).toArray.size = cur.size := by
            simp only [List.size_toArray, List.length_append, List.length_take, List.length_drop, Array.length_toList]
            omega
          have hnk : n * size ≤ k * i0.size := by rw [hz1]; exact Nat.mul_le_mul_right _ hn
          refine ⟨hod.1, Or.inr ⟨g, c2, _, rfl, hb2, setRow_heap _ _ _ _ e _ hg, hnc2, hcm2, by rw [hsz]; exact hcs2, ?_⟩⟩
          rw [List.append_assoc]
          rw [List.take_append_of_le_length (by simp only [List.length_take, Array.length_toList]; omega), List.take_take, Nat.min_eq_left hnk, htk2]
        · have hr1 := run_append_grow (P := Tryz.prog) w t ty e i0 z ht hi hz0 ⟨g, 0, none⟩ k c xs (by rw [hz1]; exact hown.1) (hown.cells (g := g) rfl) ad m cap ys (by rw [hz1]; exact hys) hnews (by omega) (by omega) (growslice_fits (by omega) (by rw [hz2]; exact hby2))
          rw [hr] at hr1
          cases hr1
          refine ownsRow_same hod fun j hj => ?_
          cases hj
          have := (Array.getElem?_eq_some_iff.1 hg).1
          exact Below.heap_alloc _ _ _ (by simpa using this)
/-- The step of it in a walk. -/
theorem wpList_app (t e : TypeId) (z : Value) (size bytes : Nat) (ht : Tryz.prog.underlying t = some (.slice e)) (hinfo : (Tryz.prog.info? e).map (fun i => (i.zero, i.size, i.bytes)) = some (some z, size, bytes)) (hzz : z.cells.size = size) (hs0 : 1 ≤ size) (hb0 : 0 < bytes)
    {w : World} {ops : Array Oper} {rest : List Oper} {o : Oper} {a : Act} {Q : Exit → Act → World → Prop} (hgd : o.guard = none) (s x : Operand)
    (ho : o.op = .call { callee := .builtin .append, args := #[s, x], argTypes := #[t, t] })
    (base k : Nat) (v : Value) (xs : List Value) (hs : a.eval s = v) (hown : w.ownsRow base e size v k xs)
    (ad : Addr) (m cap : Nat) (ys : List Value) (hx : a.eval x = .slice (some ad) m cap) (hys : ys.length = m * size) (hnews : ∀ j u, ys[j]? = some u → w.cell? (ad.add j) = some u) (hone : ∀ u ∈ ys, u.oneCell' = true) (hby2 : (k + m) * bytes ≤ 140737488355328) (hbase : base ≤ w.heap.size)
    (h : ∀ v' w', w'.ownsRow base e size v' (k + m) (xs ++ ys) → Grew w w' v v' → (∀ (d : Value) (n base' : Nat) (zs : List Value), n ≤ k → d.ownBlock = v.ownBlock → w.ownsRow base' e size d n zs → w'.ownsRow base' e size d n zs) → wpList Tryz.prog ops Q rest (a.put o.dst v') w') : wpList Tryz.prog ops Q (o :: rest) a w := by
  obtain ⟨v', w', hr, h1, h2, h3⟩ := app_any t e z size bytes ht hinfo hzz hs0 hb0 hown ad m cap ys hys hnews hone hby2 hbase o.type
  refine wpList_plain hgd fun K hK => ?_
  unfold Oper.wp execOp
  simp only [ho, resolve, invoke, builtin, Sem.run_bind, Sem.run_pure, Result.andThen_ok, List.map_toArray, List.map_cons, List.map_nil, hs, hx, hr]
  exact hK _ _ (h v' w' h1 h2 h3)
def I (z : Int) : Value := .int .i64 z
theorem info3 : (Tryz.prog.info? 3).map (fun i => (i.zero, i.size, i.bytes)) = some (some (.int .i64 0), 1, 8) := by kernel_rfl
theorem oneI (zs : List Int) : ∀ u ∈ zs.map I, u.oneCell' = true := by
  intro u hu
  obtain ⟨z, _, rfl⟩ := List.mem_map.1 hu
  rfl
/-- Numbers that a slice holds. -/
def FromI (w : World) (ao : Option Addr) (zs : List Int) : Prop := 0 < zs.length → ∃ b off, ao = some ⟨b, off, none⟩ ∧ ∀ j z, zs[j]? = some z → w.cell? ⟨b, off + j, none⟩ = some (.int .i64 z)
theorem FromI.keep {w w' : World} {ao : Option Addr} {zs : List Int} (h : FromI w ao zs) (hk : ∀ b off, ao = some ⟨b, off, none⟩ → w'.heap[b]? = w.heap[b]?) : FromI w' ao zs := by
  intro h0
  obtain ⟨b, off, rfl, hc⟩ := h h0
  exact ⟨b, off, rfl, fun j u hu => (World.cell?_of_block (w := w) (hk b off rfl)).trans (hc j u hu)⟩
theorem FromI.below {w w' : World} {L : Nat} {ao : Option Addr} {zs : List Int} (h : FromI w ao zs) (hb : Below L w w') (hL : ∀ b off, ao = some ⟨b, off, none⟩ → b < L) : FromI w' ao zs := h.keep fun b off e => hb.block b (hL b off e)
theorem FromI.lt {w : World} {b off : Nat} {zs : List Int} (h : FromI w (some ⟨b, off, none⟩) zs) (h0 : 0 < zs.length) : b < w.heap.size := by
  obtain ⟨b', off', e, hc⟩ := h h0
  cases e
  exact World.block_lt_of_cell? w _ (hc 0 _ (List.getElem?_eq_getElem h0))
theorem FromI.all {w w' : World} {ao : Option Addr} {zs : List Int} (h : FromI w ao zs) (hb : Below w.heap.size w w') : FromI w' ao zs := by
  intro h0
  have h' := h
  obtain ⟨b, off, rfl, hc⟩ := h h0
  exact ⟨b, off, rfl, fun j u hu => (World.cell?_of_block (w := w) (hb.block b (h'.lt h0))).trans (hc j u hu)⟩
theorem own_from {w : World} {base n : Nat} {v : Value} {zs : List Int} (h : w.ownsRow base 3 1 v n (zs.map I)) :
    ∃ ao cap, v = .slice ao n cap ∧ n ≤ cap ∧ cap ≤ maxLen ∧ (ao = none → n = 0 ∧ cap = 0) ∧ FromI w ao zs ∧ zs.length = n := by
  have hl := h.1
  simp only [List.length_map, Nat.mul_one] at hl
  rcases h.2 with ⟨rfl, rfl⟩ | ⟨g, cap, cur, rfl, hb, hg, hc, hm, hcs, htake⟩
  · exact ⟨none, 0, rfl, Nat.le_refl _, Nat.zero_le _, fun _ => ⟨rfl, rfl⟩, fun h => by omega, hl⟩
  · refine ⟨some ⟨g, 0, none⟩, cap, rfl, hc, hm, (fun h => by cases h), (fun _ => ⟨g, 0, rfl, fun j u hu => ?_⟩), hl⟩
    have := h.cells (g := g) rfl j (I u) (by rw [List.getElem?_map, hu]; rfl)
    rwa [addr_add] at this
theorem news_of {w : World} {ad : Addr} {zs : List Int} (hs : FromI w (some ad) zs) : ∀ j v, (zs.map I)[j]? = some v → w.cell? (ad.add j) = some v := by
  intro j v hv
  rw [List.getElem?_map] at hv
  cases hu : zs[j]? with
  | none => rw [hu] at hv; cases hv
  | some u =>
    rw [hu] at hv
    cases hv
    have hj := (List.getElem?_eq_some_iff.1 hu).1
    obtain ⟨b, off, h, hc⟩ := hs (by omega)
    cases h
    rw [addr_add]
    exact hc j u hu
theorem fromI_new (w : World) (zs : List Int) (c : Array Value) (fr : Nat × Nat) (t : TypeId) (h : c.toList = zs.map I) : FromI (w.alloc (.cells c t fr)) (some ⟨w.heap.size, 0, none⟩) zs := fun _ =>
  ⟨w.heap.size, 0, rfl, fun j u hu => by
    rw [Nat.zero_add, cell_of_row _ w.heap.size j c t fr (heap_alloc_new w _)]
    have : c.toList[j]? = some (I u) := by rw [h, List.getElem?_map, hu]; rfl
    simpa [I] using this⟩
end Go.Proofs.YtnphkmdanicemaaGreatDoor
