import Derived.Test.YtfgnlfemckdfnaaRows
import Derived.Test.YtfgnlfemckdfnaaJA
import Derived.WalkKit
import Derived.WalkSpells
import Derived.WalkLawsBesides
import Derived.Handy
import Derived.PlainAid
import Derived.Laws.AppendOwnNone
import Derived.Laws.IdiomStrings
import Derived.Laws.BytesString
import Derived.Lib.AppendStr
import Derived.Deep.AppendLies
import Derived.Recover
import Derived.Laws.Cover1
import Derived.Deep.RegionWith
import Derived.Deep.RegionLaw
import Derived.Deep.QuietTactic
import Derived.BigQuiet
namespace Go.Proofs.Ytfgnlfemckdfnaa
open Go.RowKit Go.PlainAid
def B (x : UInt8) : Value := .int .u8 (x.toNat : Int)
def Str (s : List UInt8) : Value := .string ⟨s.toArray⟩
theorem byte_lt (u : UInt8) : u.toNat < 256 := u.toNat_lt
theorem val_u8 {a b : Int} (h : a = b) : Value.int .u8 a = .int .u8 b := by rw [h]
theorem val_u64 {a b : Int} (h : a = b) : Value.int .u64 a = .int .u64 b := by rw [h]
theorem ret_bool {a b : Bool} (h : a = b) : Ending.returned (.bool a) = .returned (.bool b) := by rw [h]
theorem addr_add (g o j : Nat) : (Addr.add ⟨g, o, none⟩ j) = ⟨g, o + j, none⟩ := by unfold Addr.add; split <;> simp_all
def From (w : World) (ao : Option Addr) (bs : List UInt8) : Prop := 0 < bs.length → ∃ b off, ao = some ⟨b, off, none⟩ ∧ ∀ j u, bs[j]? = some u → w.cell? ⟨b, off + j, none⟩ = some (B u)
theorem From.keep {w w' : World} {ao : Option Addr} {bs : List UInt8} (h : From w ao bs) (hk : ∀ b off, ao = some ⟨b, off, none⟩ → w'.heap[b]? = w.heap[b]?) : From w' ao bs := by
  intro h0
  obtain ⟨b, off, rfl, hc⟩ := h h0
  exact ⟨b, off, rfl, fun j u hu => (World.cell?_of_block (w := w) (hk b off rfl)).trans (hc j u hu)⟩
theorem own_from {w : World} {base n : Nat} {v : Value} {ps : List UInt8} (h : w.ownsRow base 5 1 v n (ps.map B)) :
    ∃ ao cap, v = .slice ao n cap ∧ n ≤ cap ∧ (ao = none → n = 0 ∧ cap = 0) ∧ From w ao ps ∧ ps.length = n := by
  have hl := h.1
  simp only [List.length_map, Nat.mul_one] at hl
  rcases h.2 with ⟨rfl, rfl⟩ | ⟨g, cap, cur, rfl, hb, hg, hc, hm, hcs, htake⟩
  · exact ⟨none, 0, rfl, Nat.le_refl _, fun _ => ⟨rfl, rfl⟩, fun h => by omega, hl⟩
  · refine ⟨some ⟨g, 0, none⟩, cap, rfl, hc, (fun h => by cases h), (fun _ => ⟨g, 0, rfl, fun j u hu => ?_⟩), hl⟩
    have := h.cells (g := g) rfl j (B u) (by rw [List.getElem?_map, hu]; rfl)
    rwa [addr_add] at this
theorem oneCells (ps : List UInt8) : ∀ v ∈ ps.map B, v.oneCell' = true := by
  intro v hv
  obtain ⟨x, _, rfl⟩ := List.mem_map.1 hv
  rfl
theorem news_of {w : World} {ad : Addr} {ps : List UInt8} (hs : From w (some ad) ps) : ∀ j v, (ps.map B)[j]? = some v → w.cell? (ad.add j) = some v := by
  intro j v hv
  rw [List.getElem?_map] at hv
  cases hu : ps[j]? with
  | none => rw [hu] at hv; cases hv
  | some u =>
    rw [hu] at hv
    cases hv
    have hj := (List.getElem?_eq_some_iff.1 hu).1
    obtain ⟨b, off, h, hc⟩ := hs (by omega)
    cases h
    rw [addr_add]
    exact hc j u hu
theorem strCells_str (s : List UInt8) : Lib.strCells ⟨s.toArray⟩ = s.map B := by simp [Lib.strCells, B]
theorem conv_run (w : World) (ao : Option Addr) (n cap : Nat) (xs : List UInt8) (hn : xs.length = n) (hs : From w ao xs) : (convert 22 9 (.slice ao n cap)).run Try.prog w = .ok (.string ⟨xs.toArray⟩) w := by
  subst hn
  cases ao with
  | none =>
    have h0 : xs = [] := by
      cases xs with
      | nil => rfl
      | cons x xs => obtain ⟨_, _, h, _⟩ := hs (by simp); cases h
    subst h0
    rw [run_convert_bytes_string w 22 9 5 none _ cap Try.underlying22 Try.underlying5 Try.underlying9]
    simp [Conv.bytesToString]
    rfl
  | some ad =>
    refine run_convert_bytes_back w 22 9 5 ad cap xs Try.underlying22 Try.underlying5 Try.underlying9 (fun j hj => ?_)
    obtain ⟨b, off, h, hc⟩ := hs (by omega)
    cases h
    rw [addr_add]
    exact hc j _ (List.getElem?_eq_getElem hj)
theorem Try.info5 : (Try.prog.info? 5).map (fun i => (i.zero, i.size, i.bytes)) = some (some (.int .u8 0), 1, 1) := by kernel_rfl
theorem wpList_append_bytes {w : World} {ops : Array Oper} {rest : List Oper} {o : Oper} {a : Act} {Q : Exit → Act → World → Prop} (hgd : o.guard = none) (s x : Operand)
    (ho : o.op = .call { callee := .builtin .append, args := #[s, x], argTypes := #[22, 22] })
    (base k : Nat) (v : Value) (xs : List UInt8) (hs : a.eval s = v) (hown : w.ownsRow base 5 1 v k (xs.map B))
    (ao : Option Addr) (n cap : Nat) (ps : List UInt8) (hx : a.eval x = .slice ao n cap) (hn : ps.length = n) (hnil : ao = none → n = 0 ∧ cap = 0) (hsrc : From w ao ps)
    (hlen : k + n ≤ 140737488355328) (hbase : base ≤ w.heap.size)
    (h : ∀ v' w', w'.ownsRow base 5 1 v' (k + n) ((xs ++ ps).map B) → w.grownBy w' v.ownBlock → wpList Try.prog ops Q rest (a.put o.dst v') w') : wpList Try.prog ops Q (o :: rest) a w := by
  obtain ⟨i0, hi, hz0, hz1, hz2⟩ := info_parts Try.info5
  cases ao with
  | none =>
    obtain ⟨rfl, rfl⟩ := hnil rfl
    obtain rfl : ps = [] := List.eq_nil_of_length_eq_zero hn
    refine wpList_append_own_none hgd s x 22 ho base 5 i0 1 Try.underlying22 hi v k (xs.map B) hs hown hx ?_
    refine h v w (by simpa using hown) ⟨rfl, rfl, rfl, Nat.le_refl _, fun _ _ _ => rfl⟩
  | some ad =>
    refine wpList_append_own _ hgd s x 22 ho base 5 i0 _ 1 1 Try.underlying22 hi hz0 hz1 hz2 rfl (by decide) v k (xs.map B) hs hown ad n cap (ps.map B) hx (by simp [hn]) (news_of hsrc) (oneCells ps) (by unfold maxLen; omega) (by omega) hbase ?_
    intro v' w' h1 h2 _
    rw [← List.map_append] at h1
    exact h v' w' h1 h2
theorem from_mark (w : World) (ps : List UInt8) (c : Array Value) (fr : Nat × Nat) (h : c.toList = ps.map B) : From (w.alloc (.cells c 5 fr)) (some ⟨w.heap.size, 0, none⟩) ps := fun _ =>
  ⟨w.heap.size, 0, rfl, fun j u hu => by
    rw [Nat.zero_add, cell_of_row _ w.heap.size j c 5 fr (heap_alloc_new w _)]
    have : c.toList[j]? = some (B u) := by rw [h, List.getElem?_map, hu]; rfl
    simpa using this⟩
/- THE WRITER -/
structure WSt (hb : Nat) (v : Value) (out : List UInt8) (w : World) : Prop where
  blk : w.heap[hb]? = some (.cells #[v] 142 (0, 0))
  own : w.ownsRow (hb + 1) 5 1 v out.length (out.map B)
structure WStep (hb : Nat) (w w' : World) : Prop where
  below : Below hb w w'
  other : ∀ k c t fr, w.heap[k]? = some (.cells c t fr) → t ≠ 5 → k ≠ hb → w'.heap[k]? = w.heap[k]?
theorem WStep.refl (hb : Nat) (w : World) : WStep hb w w := ⟨Below.refl _ _, fun _ _ _ _ _ _ _ => rfl⟩
theorem WStep.trans {hb : Nat} {w w1 w2 : World} (h : WStep hb w w1) (k : WStep hb w1 w2) : WStep hb w w2 :=
  ⟨h.below.trans k.below, fun i c t fr hi ht hn => by
    have h1 := h.other i c t fr hi ht hn
    exact (k.other i c t fr (h1.trans hi) ht hn).trans h1⟩
theorem WStep.alloc {hb : Nat} {w : World} (h : hb ≤ w.heap.size) (o : Obj) : WStep hb w (w.alloc o) :=
  ⟨(Below.refl _ _).alloc h _, fun _ _ _ _ hk _ _ => Below.heap_alloc _ _ _ (Array.getElem?_eq_some_iff.1 hk).1⟩
theorem WStep.cell {hb : Nat} {w w' : World} (h : WStep hb w w') {a : Addr} (ha : a.block < hb) : w'.cell? a = w.cell? a := h.below.cell ha
theorem WStep.cellO {hb : Nat} {w w' : World} (h : WStep hb w w') {k j : Nat} {c : Array Value} {t : TypeId} {fr : Nat × Nat} (hk : w.heap[k]? = some (.cells c t fr)) (ht : t ≠ 5) (hn : k ≠ hb) : w'.cell? ⟨k, j, none⟩ = c[j]? :=
  cell_of_row w' k j c t fr ((h.other k c t fr hk ht hn).trans hk)
theorem WStep.ofDrew {hb : Nat} {w w' : World} (h : WStep hb w.drew w') : WStep hb w w' := ⟨⟨h.below.os, h.below.tape, h.below.output, h.below.size, h.below.block⟩, h.other⟩
theorem WSt.drewN {hb : Nat} {v : Value} {out : List UInt8} {w : World} (h : WSt hb v out w) (q : Nat) : WSt hb v out (w.drewN q) := ⟨h.blk, h.own⟩
theorem WStep.drewN {hb : Nat} {w w' : World} (h : WStep hb w w') (q : Nat) : WStep hb w (w'.drewN q) := ⟨⟨h.below.os, h.below.tape, h.below.output, h.below.size, h.below.block⟩, h.other⟩
theorem WSt.drew {hb : Nat} {v : Value} {out : List UInt8} {w : World} (h : WSt hb v out w) : WSt hb v out w.drew := ⟨h.blk, h.own⟩
theorem WSt.lt {hb : Nat} {v : Value} {out : List UInt8} {w : World} (h : WSt hb v out w) : hb < w.heap.size := (Array.getElem?_eq_some_iff.1 h.blk).1
theorem WSt.cell {hb : Nat} {v : Value} {out : List UInt8} {w : World} (h : WSt hb v out w) : w.cell? ⟨hb, 0, none⟩ = some v := by rw [cell_of_row w hb 0 _ 142 (0, 0) h.blk]; rfl
theorem WSt.frozen {hb : Nat} {v : Value} {out : List UInt8} {w : World} (h : WSt hb v out w) : w.frozen? ⟨hb, 0, none⟩ = false := by have := h.blk; simp [World.frozen?, this]
theorem WSt.alloc {hb : Nat} {v : Value} {out : List UInt8} {w : World} (h : WSt hb v out w) (o : Obj) : WSt hb v out (w.alloc o) :=
  ⟨(Below.heap_alloc _ _ _ h.lt).trans h.blk, h.own.alloc o⟩
theorem WSt.stored {hb : Nat} {v v' : Value} {out out' : List UInt8} {w w' : World} (h : WSt hb v out w) {n : Nat} (hn : n = out'.length) (hown : w'.ownsRow (hb + 1) 5 1 v' n (out'.map B)) (hg : w.grownBy w' v.ownBlock) :
    WSt hb v' out' (w'.setCell ⟨hb, 0, none⟩ v') ∧ WStep hb w (w'.setCell ⟨hb, 0, none⟩ v') := by
  subst hn
  have hlt := h.lt
  have hne : some hb ≠ v.ownBlock := fun e => by have := (h.own.lt hb e.symm).1; omega
  have hblk : w'.heap[hb]? = some (.cells #[v] 142 (0, 0)) := (hg.block hb hlt hne).trans h.blk
  refine ⟨⟨?_, ownsRow_setCell_below hown (show hb < hb + 1 by omega) _⟩, ?_, ?_⟩
  · simp [World.setCell, Array.getElem?_modify, hblk]
  · exact ((Below.refl hb w).grown hg (by omega) (fun k e => by have := (h.own.lt k e).1; omega)).setCell (Nat.le_refl _) _
  · intro k c t fr hk ht hn
    have hkl := (Array.getElem?_eq_some_iff.1 hk).1
    rw [Below.heap_setCell _ _ _ _ hn]
    refine hg.block k hkl (fun e => ht ?_)
    rcases h.own.2 with ⟨rfl, _⟩ | ⟨g, cap, cur, rfl, _, hgg, _⟩
    · cases e
    · simp only [Value.ownBlock, Option.some.injEq] at e
      subst e
      rw [hk] at hgg
      cases hgg
      rfl
theorem grown_alloc {w w1 : World} {o : Obj} {row : Option Nat} (hg : (w.alloc o).grownBy w1 row) : w.grownBy w1 row :=
  ⟨hg.os, hg.tape, hg.output, Nat.le_trans (by simp) hg.size, fun k hk hne => (hg.block k (by simp; omega) hne).trans (Below.heap_alloc _ _ _ hk)⟩
theorem WSt.grown {hb : Nat} {v : Value} {out : List UInt8} {w w1 : World} (h : WSt hb v out w) (hg : w.grownBy w1 v.ownBlock) : w1.cell? ⟨hb, 0, none⟩ = some v ∧ w1.frozen? ⟨hb, 0, none⟩ = false := by
  have hne : some hb ≠ v.ownBlock := fun e => by have := (h.own.lt hb e.symm).1; omega
  have hblk : w1.heap[hb]? = some (.cells #[v] 142 (0, 0)) := (hg.block hb h.lt hne).trans h.blk
  exact ⟨by rw [cell_of_row w1 hb 0 _ 142 (0, 0) hblk]; rfl, by simp [World.frozen?, hblk]⟩
def refused : Ending := .panicked [{ v := .iface 86 (.agg #[]), recovered := false }]
/- THE READER -/
structure RSt (hb : Nat) (ao : Option Addr) (n cap : Nat) (bs : List UInt8) (at' : Nat) (w : World) : Prop where
  blk : w.heap[hb]? = some (.cells #[.slice ao n cap, .int .i64 (at' : Nat)] 120 (0, 0))
  len : bs.length = n
  src : From w ao bs
  apart : ∀ b off, ao = some ⟨b, off, none⟩ → b ≠ hb
  le : at' ≤ n
  small : n ≤ 140737488355328
  room : n ≤ cap
theorem RSt.lt {hb : Nat} {ao : Option Addr} {n cap : Nat} {bs : List UInt8} {p : Nat} {w : World} (h : RSt hb ao n cap bs p w) : hb < w.heap.size := (Array.getElem?_eq_some_iff.1 h.blk).1
theorem RSt.cell0 {hb : Nat} {ao : Option Addr} {n cap : Nat} {bs : List UInt8} {p : Nat} {w : World} (h : RSt hb ao n cap bs p w) : w.cell? ⟨hb, 0, none⟩ = some (.slice ao n cap) := by rw [cell_of_row w hb 0 _ 120 (0, 0) h.blk]; rfl
theorem RSt.cell1 {hb : Nat} {ao : Option Addr} {n cap : Nat} {bs : List UInt8} {p : Nat} {w : World} (h : RSt hb ao n cap bs p w) : w.cell? ⟨hb, 1, none⟩ = some (.int .i64 (p : Nat)) := by rw [cell_of_row w hb 1 _ 120 (0, 0) h.blk]; rfl
theorem RSt.frozen {hb : Nat} {ao : Option Addr} {n cap : Nat} {bs : List UInt8} {p : Nat} {w : World} (h : RSt hb ao n cap bs p w) (j : Nat) : w.frozen? ⟨hb, j, none⟩ = false := by have := h.blk; simp [World.frozen?, this]
theorem RSt.move {hb : Nat} {ao : Option Addr} {n cap : Nat} {bs : List UInt8} {p : Nat} {w : World} (h : RSt hb ao n cap bs p w) {q : Nat} (hq : q ≤ n) : RSt hb ao n cap bs q (w.setCell ⟨hb, 1, none⟩ (.int .i64 (q : Nat))) :=
  ⟨by simp [World.setCell, Array.getElem?_modify, h.blk], h.len, h.src.keep (fun b off e => Below.heap_setCell _ _ _ _ (h.apart b off e)), h.apart, hq, h.small, h.room⟩
theorem RSt.other {hb : Nat} {ao : Option Addr} {n cap : Nat} {bs : List UInt8} {p : Nat} {w w' : World} (h : RSt hb ao n cap bs p w) (h1 : w'.heap[hb]? = w.heap[hb]?) (h2 : ∀ b off, ao = some ⟨b, off, none⟩ → w'.heap[b]? = w.heap[b]?) : RSt hb ao n cap bs p w' :=
  ⟨h1.trans h.blk, h.len, h.src.keep h2, h.apart, h.le, h.small, h.room⟩
theorem bn (a b c : Int) (h : bits BinOp.and IntKind.u64 a b = c := by decide) : bits BinOp.and IntKind.u64 a b = c := h
end Go.Proofs.Ytfgnlfemckdfnaa
