import Derived.Test.YtehjdkdoalmaeaaRows
import Derived.WalkKit
import Derived.WalkSpells
import Derived.WalkLawsBesides
import Derived.Handy
import Derived.PlainAid
import Derived.Laws.AppendOwnNone
import Derived.Laws.IdiomStrings
import Derived.Laws.BytesString
import Derived.Lib.AppendStr
import Derived.Deep.AppendLies
import Derived.Recover
import Derived.Laws.Cover1
import Derived.Deep.RegionWith
import Derived.Deep.RegionLaw
import Derived.Deep.QuietTactic
import Derived.BigQuiet
namespace Go.Proofs.Ytehjdkdoalmaeaa
open Go.RowKit Go.PlainAid

def B (x : UInt8) : Value := .int .u8 (x.toNat : Int)
def Str (s : List UInt8) : Value := .string ⟨s.toArray⟩
theorem byte_lt (u : UInt8) : u.toNat < 256 := u.toNat_lt
theorem val_u8 {a b : Int} (h : a = b) : Value.int .u8 a = .int .u8 b := by rw [h]
theorem val_i64 {a b : Int} (h : a = b) : Value.int .i64 a = .int .i64 b := by rw [h]
theorem val_u64 {a b : Int} (h : a = b) : Value.int .u64 a = .int .u64 b := by rw [h]
theorem ret_i64 {a b : Int} (h : a = b) : Ending.returned (.int .i64 a) = .returned (.int .i64 b) := by rw [h]
theorem ret_u64 {a b : Int} (h : a = b) : Ending.returned (.int .u64 a) = .returned (.int .u64 b) := by rw [h]
theorem ret_bool {a b : Bool} (h : a = b) : Ending.returned (.bool a) = .returned (.bool b) := by rw [h]
theorem addr_add (g o j : Nat) : (Addr.add ⟨g, o, none⟩ j) = ⟨g, o + j, none⟩ := by unfold Addr.add; split <;> simp_all
theorem getD_some (bs : List UInt8) (k : Nat) (h : k < bs.length) : bs[k]? = some (bs.getD k 0) := by
  rw [List.getD_eq_getElem?_getD, List.getElem?_eq_getElem h]; rfl

/-- Bytes that a slice holds. -/
def From (w : World) (ao : Option Addr) (bs : List UInt8) : Prop := 0 < bs.length → ∃ b off, ao = some ⟨b, off, none⟩ ∧ ∀ j u, bs[j]? = some u → w.cell? ⟨b, off + j, none⟩ = some (B u)

theorem From.keep {w w' : World} {ao : Option Addr} {bs : List UInt8} (h : From w ao bs) (hk : ∀ b off, ao = some ⟨b, off, none⟩ → w'.heap[b]? = w.heap[b]?) : From w' ao bs := by
  intro h0
  obtain ⟨b, off, rfl, hc⟩ := h h0
  exact ⟨b, off, rfl, fun j u hu => (World.cell?_of_block (w := w) (hk b off rfl)).trans (hc j u hu)⟩

theorem own_from {w : World} {base n : Nat} {v : Value} {ps : List UInt8} (h : w.ownsRow base 5 1 v n (ps.map B)) :
    ∃ ao cap, v = .slice ao n cap ∧ n ≤ cap ∧ (ao = none → n = 0 ∧ cap = 0) ∧ From w ao ps ∧ ps.length = n := by
  have hl := h.1
  simp only [List.length_map, Nat.mul_one] at hl
  rcases h.2 with ⟨rfl, rfl⟩ | ⟨g, cap, cur, rfl, hb, hg, hc, hm, hcs, htake⟩
  · exact ⟨none, 0, rfl, Nat.le_refl _, fun _ => ⟨rfl, rfl⟩, fun h => by omega, hl⟩
  · refine ⟨some ⟨g, 0, none⟩, cap, rfl, hc, (fun h => by cases h), (fun _ => ⟨g, 0, rfl, fun j u hu => ?_⟩), hl⟩
    have := h.cells (g := g) rfl j (B u) (by rw [List.getElem?_map, hu]; rfl)
    rwa [addr_add] at this

theorem oneCells (ps : List UInt8) : ∀ v ∈ ps.map B, v.oneCell' = true := by
  intro v hv
  obtain ⟨x, _, rfl⟩ := List.mem_map.1 hv
  rfl

theorem news_of {w : World} {ad : Addr} {ps : List UInt8} (hs : From w (some ad) ps) : ∀ j v, (ps.map B)[j]? = some v → w.cell? (ad.add j) = some v := by
  intro j v hv
  rw [List.getElem?_map] at hv
  cases hu : ps[j]? with
  | none => rw [hu] at hv; cases hv
  | some u =>
    rw [hu] at hv
    cases hv
    have hj := (List.getElem?_eq_some_iff.1 hu).1
    obtain ⟨b, off, h, hc⟩ := hs (by omega)
    cases h
    rw [addr_add]
    exact hc j u hu

theorem strCells_str (s : List UInt8) : Lib.strCells ⟨s.toArray⟩ = s.map B := by simp [Lib.strCells, B]

theorem conv_run (w : World) (ao : Option Addr) (n cap : Nat) (xs : List UInt8) (hn : xs.length = n) (hs : From w ao xs) : (convert 29 9 (.slice ao n cap)).run Try.prog w = .ok (.string ⟨xs.toArray⟩) w := by
  subst hn
  cases ao with
  | none =>
    have h0 : xs = [] := by
      cases xs with
      | nil => rfl
      | cons x xs => obtain ⟨_, _, h, _⟩ := hs (by simp); cases h
    subst h0
    rw [run_convert_bytes_string w 29 9 5 none _ cap Try.underlying29 Try.underlying5 Try.underlying9]
    simp [Conv.bytesToString]
    rfl
  | some ad =>
    refine run_convert_bytes_back w 29 9 5 ad cap xs Try.underlying29 Try.underlying5 Try.underlying9 (fun j hj => ?_)
    obtain ⟨b, off, h, hc⟩ := hs (by omega)
    cases h
    rw [addr_add]
    exact hc j _ (List.getElem?_eq_getElem hj)

theorem Try.info5 : (Try.prog.info? 5).map (fun i => (i.zero, i.size, i.bytes)) = some (some (.int .u8 0), 1, 1) := by kernel_rfl

/-- 'append' upon a slice of the call's own (or nil), from whatever bytes. -/
theorem wpList_append_bytes {w : World} {ops : Array Oper} {rest : List Oper} {o : Oper} {a : Act} {Q : Exit → Act → World → Prop} (hgd : o.guard = none) (s x : Operand)
    (ho : o.op = .call { callee := .builtin .append, args := #[s, x], argTypes := #[29, 29] })
    (base k : Nat) (v : Value) (xs : List UInt8) (hs : a.eval s = v) (hown : w.ownsRow base 5 1 v k (xs.map B))
    (ao : Option Addr) (n cap : Nat) (ps : List UInt8) (hx : a.eval x = .slice ao n cap) (hn : ps.length = n) (hnil : ao = none → n = 0 ∧ cap = 0) (hsrc : From w ao ps)
    (hlen : k + n ≤ 140737488355328) (hbase : base ≤ w.heap.size)
    (h : ∀ v' w', w'.ownsRow base 5 1 v' (k + n) ((xs ++ ps).map B) → w.grownBy w' v.ownBlock → wpList Try.prog ops Q rest (a.put o.dst v') w') : wpList Try.prog ops Q (o :: rest) a w := by
  obtain ⟨i0, hi, hz0, hz1, hz2⟩ := info_parts Try.info5
  cases ao with
  | none =>
    obtain ⟨rfl, rfl⟩ := hnil rfl
    obtain rfl : ps = [] := List.eq_nil_of_length_eq_zero hn
    refine wpList_append_own_none hgd s x 29 ho base 5 i0 1 Try.underlying29 hi v k (xs.map B) hs hown hx ?_
    refine h v w (by simpa using hown) ⟨rfl, rfl, rfl, Nat.le_refl _, fun _ _ _ => rfl⟩
  | some ad =>
    refine wpList_append_own _ hgd s x 29 ho base 5 i0 _ 1 1 Try.underlying29 hi hz0 hz1 hz2 rfl (by decide) v k (xs.map B) hs hown ad n cap (ps.map B) hx (by simp [hn]) (news_of hsrc) (oneCells ps) (by unfold maxLen; omega) (by omega) hbase ?_
    intro v' w' h1 h2 _
    rw [← List.map_append] at h1
    exact h v' w' h1 h2

theorem from_mark (w : World) (ps : List UInt8) (c : Array Value) (fr : Nat × Nat) (h : c.toList = ps.map B) : From (w.alloc (.cells c 5 fr)) (some ⟨w.heap.size, 0, none⟩) ps := fun _ =>
  ⟨w.heap.size, 0, rfl, fun j u hu => by
    rw [Nat.zero_add, cell_of_row _ w.heap.size j c 5 fr (heap_alloc_new w _)]
    have : c.toList[j]? = some (B u) := by rw [h, List.getElem?_map, hu]; rfl
    simpa using this⟩

def Blk (w : World) (mb : Nat) (C : Array Value) (T : TypeId) : Prop := w.heap[mb]? = some (.cells C T (0, 0))
theorem Blk.cell {w : World} {mb : Nat} {C : Array Value} {T : TypeId} (h : Blk w mb C T) (j : Nat) : w.cell? ⟨mb, j, none⟩ = C[j]? := cell_of_row w mb j C T (0, 0) h
theorem Blk.frozen {w : World} {mb : Nat} {C : Array Value} {T : TypeId} (h : Blk w mb C T) (j : Nat) : w.frozen? ⟨mb, j, none⟩ = false := by unfold Blk at h; simp [World.frozen?, h]
theorem Blk.lt {w : World} {mb : Nat} {C : Array Value} {T : TypeId} (h : Blk w mb C T) : mb < w.heap.size := (Array.getElem?_eq_some_iff.1 h).1
theorem Blk.set {w : World} {mb : Nat} {C : Array Value} {T : TypeId} (h : Blk w mb C T) (j : Nat) (v : Value) : Blk (w.setCell ⟨mb, j, none⟩ v) mb (C.setIfInBounds j v) T := by
  unfold Blk at *
  simp [World.setCell, Array.getElem?_modify, h]
theorem Blk.below {w w' : World} {B mb : Nat} {C : Array Value} {T : TypeId} (h : Blk w mb C T) (hb : Below B w w') (hlt : mb < B) : Blk w' mb C T := (hb.block mb hlt).trans h
theorem grown_alloc {w w1 : World} {o : Obj} {row : Option Nat} (hg : (w.alloc o).grownBy w1 row) : w.grownBy w1 row :=
  ⟨hg.os, hg.tape, hg.output, Nat.le_trans (by simp) hg.size, fun k hk hne => (hg.block k (by simp; omega) hne).trans (Below.heap_alloc _ _ _ hk)⟩
theorem From.alloc {w : World} {ao : Option Addr} {bs : List UInt8} (h : From w ao bs) (o : Obj) : From (w.alloc o) ao bs := by
  intro h0
  obtain ⟨b, off, rfl, hc⟩ := h h0
  refine ⟨b, off, rfl, fun j u hu => ?_⟩
  have h1 := hc j u hu
  exact (World.cell?_of_block (w := w) (Below.heap_alloc _ _ _ (World.block_lt_of_cell? w _ h1))).trans h1

/-- Where the row stands behind an append: where it stood, or in new memory. -/
theorem append_where {w : World} {base k : Nat} {v : Value} {xs : List UInt8} (hown : w.ownsRow base 5 1 v k (xs.map B)) (ad : Addr) (n cap : Nat) (ps : List UInt8) (hn : ps.length = n) (hsrc : From w (some ad) ps) (hlen : k + n ≤ 140737488355328) (ty : TypeId)
    {v' : Value} {w' : World} (hr : (Builtin.append_ #[29, 29] ty #[v, .slice (some ad) n cap]).run Try.prog w = .ok v' w') : ∀ j, v'.ownBlock = some j → v.ownBlock = some j ∨ w.heap.size ≤ j := by
  obtain ⟨i0, hi, hz0, hz1, hz2⟩ := info_parts Try.info5
  rcases hown.2 with ⟨rfl, rfl⟩ | ⟨g, c, cur, rfl, _, hg, hnc, hcm, hcs, htk⟩
  · have hx : xs.map B = [] := List.eq_nil_of_length_eq_zero (by simpa using hown.1)
    obtain ⟨v1, w1, hr1, ho1, _⟩ := run_append_own (P := Try.prog) w w.heap.size 29 ty 5 i0 _ 1 1 Try.underlying29 hi hz0 hz1 hz2 rfl (by decide) (.slice none 0 0) 0 [] (World.ownsRow_nil _ _ _ _) ad n cap (ps.map B) (by simp [hn]) (news_of hsrc) (oneCells ps) (by unfold maxLen; omega) (by omega) (Nat.le_refl _)
    rw [hr] at hr1
    cases hr1
    exact fun j hj => Or.inr (ho1.lt j hj).1
  · by_cases hroom : k + n ≤ c
    · have hr1 := run_append_room (P := Try.prog) w 29 ty 5 i0 Try.underlying29 hi g k c cur hg ad n cap (ps.map B) (by simp [hn, hz1]) (news_of hsrc) (oneCells ps) hroom (by rw [hz1, hcs]; simp [hn]; omega)
      rw [hr] at hr1
      cases hr1
      exact fun j hj => Or.inl hj
    · have hr1 := run_append_grow (P := Try.prog) w 29 ty 5 i0 _ Try.underlying29 hi hz0 ⟨g, 0, none⟩ k c (xs.map B) (by rw [hz1]; exact hown.1) (hown.cells (g := g) rfl) ad n cap (ps.map B) (by simp [hn, hz1]) (news_of hsrc) (by omega) (by omega) (growslice_fits (by omega) (by rw [hz2]; omega))
      rw [hr] at hr1
      cases hr1
      intro j hj
      cases hj
      exact Or.inr (Nat.le_refl _)
/-- What becomes of a row that is appended to, and of all else. -/
structure Grew (w w' : World) (v v' : Value) : Prop where
  g : w.grownBy w' v.ownBlock
  at' : ∀ j, v'.ownBlock = some j → v.ownBlock = some j ∨ w.heap.size ≤ j
theorem Grew.refl (w : World) (v : Value) : Grew w w v v := ⟨⟨rfl, rfl, rfl, Nat.le_refl _, fun _ _ _ => rfl⟩, fun _ h => Or.inl h⟩
theorem Grew.trans {a b c : World} {u v x : Value} (h : Grew a b u v) (k : Grew b c v x) : Grew a c u x := by
  refine ⟨⟨k.g.os.trans h.g.os, k.g.tape.trans h.g.tape, k.g.output.trans h.g.output, Nat.le_trans h.g.size k.g.size, fun j hj hne => ?_⟩, fun j hj => ?_⟩
  · refine (k.g.block j (Nat.lt_of_lt_of_le hj h.g.size) ?_).trans (h.g.block j hj hne)
    intro e
    rcases h.at' j e.symm with h1 | h1
    · exact hne h1.symm
    · omega
  · rcases k.at' j hj with h1 | h1
    · exact h.at' j h1
    · exact Or.inr (Nat.le_trans h.g.size h1)
theorem Grew.below {w w' : World} {v v' : Value} {base : Nat} (h : Grew w w' v v') (hb : ∀ j, v.ownBlock = some j → base ≤ j) (hs : base ≤ w.heap.size) : Below base w w' :=
  ⟨h.g.os, h.g.tape, h.g.output, h.g.size, fun k hk => h.g.block k (by omega) (fun e => by have := hb k e.symm; omega)⟩
theorem Grew.ofAlloc {w w' : World} {v v' : Value} {o : Obj} (h : Grew (w.alloc o) w' v v') : Grew w w' v v' := by
  refine ⟨⟨h.g.os, h.g.tape, h.g.output, by have := h.g.size; rw [World.size_alloc] at this; omega, fun k hk hne => ?_⟩, fun j hj => ?_⟩
  · exact (h.g.block k (by rw [World.size_alloc]; omega) hne).trans (Below.heap_alloc _ _ _ hk)
  · rcases h.at' j hj with h1 | h1
    · exact Or.inl h1
    · rw [World.size_alloc] at h1; exact Or.inr (by omega)
theorem wpList_append_in {w : World} {ops : Array Oper} {rest : List Oper} {o : Oper} {a : Act} {Q : Exit → Act → World → Prop} (hgd : o.guard = none) (s x : Operand)
    (ho : o.op = .call { callee := .builtin .append, args := #[s, x], argTypes := #[29, 29] })
    (base k : Nat) (v : Value) (xs : List UInt8) (hs : a.eval s = v) (hown : w.ownsRow base 5 1 v k (xs.map B))
    (ad : Addr) (n cap : Nat) (ps : List UInt8) (hx : a.eval x = .slice (some ad) n cap) (hn : ps.length = n) (hsrc : From w (some ad) ps)
    (hlen : k + n ≤ 140737488355328) (hbase : base ≤ w.heap.size)
    (h : ∀ v' w', w'.ownsRow base 5 1 v' (k + n) ((xs ++ ps).map B) → Grew w w' v v' → wpList Try.prog ops Q rest (a.put o.dst v') w') : wpList Try.prog ops Q (o :: rest) a w := by
  obtain ⟨i0, hi, hz0, hz1, hz2⟩ := info_parts Try.info5
  obtain ⟨v', w', hr, h1, h2, _⟩ := run_append_own (P := Try.prog) w base 29 o.type 5 i0 _ 1 1 Try.underlying29 hi hz0 hz1 hz2 rfl (by decide) v k (xs.map B) hown ad n cap (ps.map B) (by simp [hn]) (news_of hsrc) (oneCells ps) (by unfold maxLen; omega) (by omega) hbase
  rw [← List.map_append] at h1
  refine wpList_plain hgd fun K hK => ?_
  unfold Oper.wp execOp
  simp only [ho, resolve, invoke, builtin, Sem.run_bind, Sem.run_pure, Result.andThen_ok, List.map_toArray, List.map_cons, List.map_nil, hs, hx, hr]
  exact hK _ _ (h v' w' h1 ⟨h2, append_where hown ad n cap ps hn hsrc hlen _ hr⟩)

/- A frame as a function of the slot. -/
def upd (f : Nat → Value) (d : Nat) (v : Value) : Nat → Value := fun j => if j = d then v else f j
structure Fr (N : Nat) (a : Act) (f : Nat → Value) : Prop where
  size : a.tmps.size = N
  defers : a.defers = []
  get : ∀ j, j < N → a.tmps[j]? = some (f j)
theorem Fr.put {N : Nat} {a : Act} {f : Nat → Value} (h : Fr N a f) (d : Nat) (v : Value) (hd : d < N) : Fr N (a.put (some d) v) (upd f d v) := by
  refine ⟨by simp [Act.put, h.size], by simp [Act.put, h.defers], fun j hj => ?_⟩
  simp only [Act.put, upd, Array.getElem?_setIfInBounds, h.size, h.get j hj]
  by_cases e : d = j
  · subst e; simp [hd]
  · rw [if_neg e, if_neg (fun e' => e e'.symm)]
theorem Fr.eval {N : Nat} {a : Act} {f : Nat → Value} (h : Fr N a f) (j : Nat) (hj : j < N) : a.eval (.tmp j) = f j := by
  simp [Act.eval, h.get j hj]
theorem Fr.yields {N : Nat} {a : Act} {f : Nat → Value} (h : Fr N a f) {ops : Array Oper} {i d : Nat} (ho : (ops[i]?).bind (·.dst) = some d) (hd : d < N) {b : Bool} (hb : f d = .bool b) : yielded ops a.tmps i = some b := by
  simp [yielded, ho, h.get d hd, hb]
theorem Fr.yieldsNot {N : Nat} {a : Act} {f : Nat → Value} (h : Fr N a f) {ops : Array Oper} {i d : Nat} (ho : (ops[i]?).bind (·.dst) = some d) (hd : d < N) (hb : f d = undef) : yielded ops a.tmps i = none := by
  simp only [yielded, ho, Option.bind_some, h.get d hd, hb]
  rfl

section
variable {ops : Array Oper} {Q : Exit → Act → World → Prop} {a : Act} {w : World} {rest : List Oper} {o : Oper}
theorem st_yes {v : Value} (hw : Region.wanted o (yielded ops a.tmps) = true) (hr : (execOp a.eval o).run Try.prog w = .ok (.value v) w) (h : wpList Try.prog ops Q rest (a.put o.dst v) w) : wpList Try.prog ops Q (o :: rest) a w :=
  wpList_step fun K hK => by
    rw [if_pos hw]
    unfold Oper.wp
    rw [hr]
    exact hK _ _ h
theorem st_no (hw : Region.wanted o (yielded ops a.tmps) = false) (h : wpList Try.prog ops Q rest (a.put o.dst undef) w) : wpList Try.prog ops Q (o :: rest) a w :=
  wpList_step fun K hK => by
    rw [if_neg (by rw [hw]; simp)]
    exact hK _ _ h
theorem st_call {v : Value} {k : Nat} {args : Array Value} (hw : Region.wanted o (yielded ops a.tmps) = true) (hr : (execOp a.eval o).run Try.prog w = .ok (.enter k args) w) (hc : Calls Try.prog k args w fun e w' => e = .returned v ∧ w' = w)
    (h : wpList Try.prog ops Q rest (a.put o.dst v) w) : wpList Try.prog ops Q (o :: rest) a w :=
  wpList_step fun K hK => by
    rw [if_pos hw]
    unfold Oper.wp
    rw [hr]
    refine hc.mono ?_
    rintro e w' ⟨rfl, rfl⟩
    exact hK _ _ h
theorem wanted_none {g : Nat → Option Bool} (h : o.guard = none) : Region.wanted o g = true := by simp [Region.wanted, h]
theorem wanted_some {g : Nat → Option Bool} {i : Nat} {b : Bool} (h : o.guard = some (i, b)) : Region.wanted o g = (g i == some b) := by simp [Region.wanted, h]
end

section
variable {ops : Array Oper} {Q : Exit → Act → World → Prop} {a : Act} {w : World} {rest : List Oper} {o : Oper} {f : Nat → Value} {N d : Nat}
theorem sy (hF : Fr N a f) (hd : o.dst = some d) (hN : d < N) (hw : Region.wanted o (yielded ops a.tmps) = true) {v : Value} (hr : (execOp a.eval o).run Try.prog w = .ok (.value v) w) (h : ∀ a', Fr N a' (upd f d v) → wpList Try.prog ops Q rest a' w) : wpList Try.prog ops Q (o :: rest) a w :=
  st_yes hw hr (by rw [hd]; exact h _ (hF.put d v hN))
theorem sn (hF : Fr N a f) (hd : o.dst = some d) (hN : d < N) (hw : Region.wanted o (yielded ops a.tmps) = false) (h : ∀ a', Fr N a' (upd f d undef) → wpList Try.prog ops Q rest a' w) : wpList Try.prog ops Q (o :: rest) a w :=
  st_no hw (by rw [hd]; exact h _ (hF.put d undef hN))
theorem sc (hF : Fr N a f) (hd : o.dst = some d) (hN : d < N) (hw : Region.wanted o (yielded ops a.tmps) = true) {k : Nat} {args : Array Value} (hr : (execOp a.eval o).run Try.prog w = .ok (.enter k args) w) {v : Value} (hc : Calls Try.prog k args w fun e w' => e = .returned v ∧ w' = w)
    (h : ∀ a', Fr N a' (upd f d v) → wpList Try.prog ops Q rest a' w) : wpList Try.prog ops Q (o :: rest) a w :=
  st_call hw hr hc (by rw [hd]; exact h _ (hF.put d v hN))
end
section
variable {ops : Array Oper} {Q : Exit → Act → World → Prop} {a : Act} {w w' : World} {rest : List Oper} {o : Oper} {f : Nat → Value} {N d : Nat}
theorem sw (hF : Fr N a f) (hd : o.dst = some d) (hN : d < N) (hw : Region.wanted o (yielded ops a.tmps) = true) {v : Value} (hr : (execOp a.eval o).run Try.prog w = .ok (.value v) w') (h : ∀ a', Fr N a' (upd f d v) → wpList Try.prog ops Q rest a' w') : wpList Try.prog ops Q (o :: rest) a w :=
  wpList_step fun K hK => by
    rw [if_pos hw]
    unfold Oper.wp
    rw [hr]
    exact hK _ _ (by rw [hd]; exact h _ (hF.put d v hN))
theorem su (hd : o.dst = none) (hw : Region.wanted o (yielded ops a.tmps) = true) (hr : (execOp a.eval o).run Try.prog w = .ok .skip w') (h : wpList Try.prog ops Q rest a w') : wpList Try.prog ops Q (o :: rest) a w :=
  wpList_step fun K hK => by
    rw [if_pos hw]
    unfold Oper.wp
    rw [hr]
    exact hK _ _ (by rw [hd]; exact h)
end

theorem load_row_g {ops : Array Oper} {rest : List Oper} {o : Oper} {a : Act} {w : World} {Q : Exit → Act → World → Prop} (ty : TypeId) (x : Operand) (ho : o.op = .load ty x) (hw : Region.wanted o (yielded ops a.tmps) = true)
    (g : Nat) (hx : a.eval x = .pointer (some ⟨g, 0, none⟩)) (t : TypeId) (cs : Array Value) (fr : Nat × Nat) (fs : _) (hg : w.heap[g]? = some (.cells cs t fr))
    (hu : Try.prog.underlying ty = some (.struct fs)) (hi : (Try.prog.info? ty).map (·.size) = some cs.size)
    (h : wpList Try.prog ops Q rest (a.put o.dst (.agg cs)) w) : wpList Try.prog ops Q (o :: rest) a w :=
  wpList_step fun K hK => by
    rw [if_pos hw]
    exact wp_load_row ty x ho g hx t cs fr _ hg hu rfl hi (hK _ _ h)

theorem Fr.lit {N : Nat} {a : Act} {f : Nat → Value} (h : Fr N a f) : a = { tmps := ((List.range N).map f).toArray, defers := [] } := by
  obtain ⟨t, d⟩ := a
  have h1 := h.size
  have h2 := h.defers
  simp only at h1 h2
  subst h2
  congr 1
  apply Array.ext_getElem?
  intro i
  by_cases hi : i < N
  · rw [h.get i hi]
    simp [hi]
  · rw [Array.getElem?_eq_none (by omega), Array.getElem?_eq_none (by simp; omega)]
theorem Fr.ofLit {N : Nat} (t : Array Value) (h : t.size = N) : Fr N { tmps := t, defers := [] } (fun j => t.getD j undef) := by
  refine ⟨h, rfl, fun j hj => ?_⟩
  simp [Array.getD, h, hj]
end Go.Proofs.Ytehjdkdoalmaeaa
