import Derived.Test.YtjpdcahodmomgaaEn
import Derived.Test.YtjpdcahodmomgaaWt
namespace Go.Proofs.Ytjpdcahodmomgaa
open Go.RowKit Go.PlainAid
set_option linter.unusedVariables false
set_option linter.unusedSimpArgs false
def tailE (L : Nat) (e : TypeId) (v : Value) (n : Nat) (xs : List Value) : Ent L where
  bl := fun k => v.ownBlock = some k
  P := fun w => Tail w L e v n xs
  fr := fun w w' h hP => tail_same hP h
  lo := fun w hP g hg => tail_lt hP g hg
def dmE (L p s : Nat) (x : DV) : Ent L where
  bl := down p s
  P := fun w => DM L p s x w
  fr := fun w w' h hP => by
    obtain ⟨C, h1, h1'⟩ := hP.box
    obtain ⟨R, h2, h2'⟩ := hP.sec
    exact ⟨⟨C, (h p (.inl rfl)).trans h1, h1'⟩, ⟨R, (h s (.inr rfl)).trans h2, h2'⟩, hP.lo, hP.nb⟩
  lo := fun w hP g hg => hP.lt hg
def datE (L : Nat) (d : Value × List UInt8) : Ent L := rowE L 5 1 d.1 d.2.length (d.2.map B)
def intE (L : Nat) (d : Value × List Int) : Ent L := rowE L 3 1 d.1 d.2.length (d.2.map I)
def strV (s : List UInt8) : Value := .string ⟨s.toArray⟩
section
variable {L : Nat} {R : List (Ent L)} {w : World}
theorem Held.boxB {pb : Nat} {C : Array Value} {T : TypeId} (h : Held (boxE L pb C T :: R) w) : Blk w pb C T := (h.all _ (List.mem_cons_self ..)).1
/-- A cell of the box is written. -/
theorem Held.boxSet {pb : Nat} {C : Array Value} {T : TypeId} (h : Held (boxE L pb C T :: R) w) (j : Nat) (v : Value) : Held (boxE L pb (C.setIfInBounds j v) T :: R) (w.setCell ⟨pb, j, none⟩ v) :=
  h.swap (setCell_chg w pb j v) ⟨h.boxB.set j v, (h.all _ (List.mem_cons_self ..)).2⟩ (fun k hk => Or.inl hk)
theorem Held.lowL {e : Ent L} (h : Held (e :: R) w) {k : Nat} (hk : e.bl k) : L ≤ w.heap.size := by
  have := h.typ (k := k) (has_cons.2 (Or.inl hk))
  omega
theorem Held.drewN (h : Held R w) (q : Nat) : Held R (w.drewN q) := h.keep (fun _ _ => rfl)
/-- One more behind a row. -/
theorem Held.tailApp {e t bytes : Nat} {tv z : Value} {n : Nat} {xs : List Value} (h : Held (tailE L e tv n xs :: R) w) (ht : Try.prog.underlying t = some (.slice e)) (hinfo : (Try.prog.info? e).map (fun i => (i.zero, i.size, i.bytes)) = some (some z, 1, bytes)) (hzs : z.cells.size = 1) (u : Value) (hu : u.oneCell' = true) (hn : (n + 1) * bytes ≤ 140737488355328) (hn2 : n ≤ 1000000) (hL : L ≤ w.heap.size) :
    ∃ v' w', (∀ ty, (Builtin.append_ #[t, t] ty #[tv, .slice (some ⟨w.heap.size, 0, none⟩) 1 1]).run Try.prog (w.alloc (.cells #[u] e)) = .ok v' w') ∧ Held (tailE L e v' (n + 1) (xs ++ [u]) :: R) w' ∧ Chg (fun k => tv.ownBlock = some k) w w' ∧ (∃ ao c, v' = .slice ao (n + 1) c) ∧ (∀ k, v'.ownBlock = some k → tv.ownBlock = some k ∨ w.heap.size ≤ k) := by
  obtain ⟨i0, hi, hz, hs, hb⟩ := info_parts hinfo
  have hT : Tail w L e tv n xs := h.all _ (List.mem_cons_self ..)
  have hal := tail_alloc hT (.cells #[u] e)
  have hnew : ∀ j y, [u][j]? = some y → (w.alloc (.cells #[u] e)).cell? ((Addr.mk w.heap.size 0 none).add j) = some y := fun j y hy => by
    have hB : Blk (w.alloc (.cells #[u] e)) w.heap.size #[u] e := heap_alloc_new w _
    rw [addr_add, Nat.zero_add, hB.cell j]
    cases j with
    | zero => simpa using hy
    | succ j => simp at hy
  obtain ⟨g, off, cap, w', hr, h2, h3, h4, h5⟩ := run_append_tail (P := Try.prog) (w.alloc (.cells #[u] e)) t t L e i0 z bytes ht hi hz hs hb hzs tv n xs hal ⟨w.heap.size, 0, none⟩ 1 1 [u] rfl hnew (fun y hy => by rw [List.mem_singleton.1 hy]; exact hu) (by omega) (by unfold maxLen; omega) hn (by rw [World.size_alloc]; omega) _ rfl
  have hch : Chg (fun k => tv.ownBlock = some k) w w' := by
    refine ⟨h3.os, h3.tape, h3.output, by have := h3.size; rw [World.size_alloc] at this; omega, fun k hk hne => ?_⟩
    exact (h3.block k (by rw [World.size_alloc]; omega) (fun e => hne e.symm)).trans (Below.heap_alloc _ _ _ hk)
  have hat : ∀ k, (Value.slice (some ⟨g, off, none⟩) (n + 1) cap).ownBlock = some k → tv.ownBlock = some k ∨ w.heap.size ≤ k := fun k hk => by
    have hgk : g = k := by simpa [Value.ownBlock] using hk
    subst hgk
    rcases h4 with h6 | h6
    · exact Or.inl h6
    · rw [World.size_alloc] at h6; exact Or.inr (by omega)
  exact ⟨_, w', fun ty => hr, h.swap hch h2 hat, hch, ⟨_, _, rfl⟩, hat⟩
end
end Go.Proofs.Ytjpdcahodmomgaa
