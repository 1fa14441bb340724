import Derived.Test.YtboghanldbmfmabDoorTail
namespace Go.Proofs.YtboghanldbmfmabDoor
open Go.RowKit

/-- The one block g is another one; all else is as it was. -/
structure OnlyG (g : Nat) (w w' : World) : Prop where
  os : w'.os = w.os
  tape : w'.tape = w.tape
  output : w'.output = w.output
  size : w'.heap.size = w.heap.size
  block : ∀ k, k ≠ g → w'.heap[k]? = w.heap[k]?
theorem OnlyG.refl (g : Nat) (w : World) : OnlyG g w w := ⟨rfl, rfl, rfl, rfl, fun _ _ => rfl⟩
theorem OnlyG.trans {g : Nat} {a b c : World} (h : OnlyG g a b) (k : OnlyG g b c) : OnlyG g a c :=
  ⟨k.os.trans h.os, k.tape.trans h.tape, k.output.trans h.output, k.size.trans h.size, fun i hi => (k.block i hi).trans (h.block i hi)⟩
theorem OnlyG.setCell {g : Nat} {a w : World} (h : OnlyG g a w) (o : Nat) (u : Value) : OnlyG g a (w.setCell ⟨g, o, none⟩ u) :=
  h.trans ⟨rfl, rfl, rfl, by simp [World.setCell], fun k hk => Below.heap_setCell _ _ _ _ hk⟩
theorem OnlyG.setRow {g : Nat} {a w : World} (h : OnlyG g a w) (cs : Array Value) : OnlyG g a (w.setRow g cs) :=
  h.trans ⟨rfl, rfl, rfl, by simp [World.setRow], fun k hk => setRow_other w g k cs hk⟩
theorem OnlyG.below {g L : Nat} {w w' : World} (h : OnlyG g w w') (hL : L ≤ g) : Below L w w' := ⟨h.os, h.tape, h.output, by rw [h.size]; exact Nat.le_refl _, fun k hk => h.block k (by omega)⟩
theorem OnlyG.drew {g : Nat} {a w : World} (h : OnlyG g a w) : OnlyG g a w.drew := ⟨h.os, h.tape, h.output, h.size, h.block⟩

theorem copy_only {w : World} {g off dLen dCap n cap : Nat} {ao : Option Addr} {cur ps : List UInt8} (hR : Row w g cur) (hn : ps.length = n) (hd : n ≤ dLen) (hfit : off + n ≤ cur.length) (hsrc : Src w ao ps) :
    ∃ w', Sem.run Tryd.prog (Builtin.copy_ #[22, 22] 3 #[.slice (some ⟨g, off, none⟩) dLen dCap, .slice ao n cap]) w = .ok (.int .i64 n) w' ∧ Row w' g (splice cur off ps) ∧ OnlyG g w w' := by
  by_cases h0 : n = 0
  · subst h0
    obtain rfl : ps = [] := List.eq_nil_of_length_eq_zero hn
    refine ⟨w, run_copy_none (P := Tryd.prog) w 22 22 3 5 _ ao dLen dCap 0 cap Tryd.underlying22 size5 (by simp), ?_, OnlyG.refl _ _⟩
    simpa [splice] using hR
  · obtain ⟨ad, rfl, hc⟩ := hsrc (by omega)
    have hrun := run_copy_row (P := Tryd.prog) w 22 22 3 5 g off dLen dCap ad n cap (cur.map B).toArray 5 (ps.map B) Tryd.underlying22 size5 hR (by simp [hn, Nat.min_def]; omega) (news_of hsrc) (by simp; omega) (oneCells ps)
    refine ⟨_, by rw [hrun, List.length_map, hn]; rfl, ?_, (OnlyG.refl _ _).setRow _⟩
    exact (setRow_heap w g _ _ 5 _ hR).trans (by simp [splice, hn])

def StrV (bs : List UInt8) : Value := .string ⟨bs.toArray⟩

/-- A slice of bytes of the law's own, whatever its room. -/
def Ent (L : Nat) (w : World) (v : Value) (bs : List UInt8) : Prop :=
  ∃ ao n cap, v = .slice ao n cap ∧ bs.length = n ∧ n ≤ cap ∧ (ao = none → n = 0 ∧ cap = 0) ∧ Src w ao bs ∧ ∀ ad, ao = some ad → L ≤ ad.block ∧ ∃ cur, w.heap[ad.block]? = some (.cells cur 5 (0, 0))
theorem src_same {w w' : World} {ad : Addr} {bs : List UInt8} (h : Src w (some ad) bs) (hb : w'.heap[ad.block]? = w.heap[ad.block]?) : Src w' (some ad) bs := by
  intro h0
  obtain ⟨ad', e, hc⟩ := h h0
  cases e
  refine ⟨ad, rfl, fun j u hu => ?_⟩
  rw [← hc j u hu]
  refine World.cell?_of_block ?_
  unfold Addr.add
  split <;> exact hb
theorem Ent.same {L : Nat} {w w' : World} {v : Value} {bs : List UInt8} (h : Ent L w v bs) (hb : ∀ g, v.ownBlock = some g → w'.heap[g]? = w.heap[g]?) : Ent L w' v bs := by
  obtain ⟨ao, n, cap, rfl, hn, hc, hnil, hs, ha⟩ := h
  cases ao with
  | none => exact ⟨none, n, cap, rfl, hn, hc, hnil, (fun h0 => by obtain ⟨ad, e, _⟩ := hs h0; cases e), (fun ad e => by cases e)⟩
  | some ad =>
    have hh := hb ad.block rfl
    obtain ⟨h1, cur, h2⟩ := ha ad rfl
    exact ⟨some ad, n, cap, rfl, hn, hc, hnil, src_same hs hh, fun ad' e => by cases e; exact ⟨h1, cur, by rw [hh, h2]⟩⟩
theorem Ent.lt {L : Nat} {w : World} {v : Value} {bs : List UInt8} (h : Ent L w v bs) {g : Nat} (hg : v.ownBlock = some g) : g < w.heap.size ∧ ∃ cur, w.heap[g]? = some (.cells cur 5 (0, 0)) := by
  obtain ⟨ao, n, cap, rfl, hn, hc, hnil, hs, ha⟩ := h
  cases ao with
  | none => simp [Value.ownBlock] at hg
  | some ad =>
    simp [Value.ownBlock] at hg
    subst hg
    obtain ⟨_, cur, h2⟩ := ha ad rfl
    exact ⟨(Array.getElem?_eq_some_iff.1 h2).1, cur, h2⟩

def lentV : Option (Nat × List UInt8) → Value
  | none => .slice none 0 0
  | some (g, bs) => .slice (some ⟨g, 0, none⟩) bs.length bs.length

/-- The shelf, as it lies in memory. -/
structure Shelf (L s : Nat) (w : World) (m : Nat) (lv hv : Value) (ls : List (Value × List UInt8)) (lent : Option (Nat × List UInt8)) (fv wv : Value) (fs : List (Value × List UInt8)) : Prop where
  blk : w.heap[s]? = some (.cells #[lv, hv, .int .i64 (m : Nat), lentV lent, fv, wv] 28 (0, 0))
  base : L ≤ s
  mark : m ≤ 1000
  lists : Tail w L 22 lv ls.length (ls.map (·.1))
  holds : Tail w L 9 hv ls.length (ls.map fun e => StrV e.2)
  left : w.ownsRow L 22 1 fv fs.length (fs.map (·.1))
  were : w.ownsRow L 9 1 wv fs.length (fs.map fun e => StrV e.2)
  lentR : ∀ g bs, lent = some (g, bs) → L ≤ g ∧ Row w g bs
  lsE : ∀ e ∈ ls, Ent L w e.1 e.2
  fsE : ∀ e ∈ fs, Ent L w e.1 e.2
  lsep : ∀ g bs, lent = some (g, bs) → ∀ e ∈ ls, e.1.ownBlock ≠ some g
  fsep : ∀ g bs, lent = some (g, bs) → ∀ e ∈ fs, e.1.ownBlock ≠ some g
  rows : ∀ g, lv.ownBlock = some g → fv.ownBlock ≠ some g
  rowh : ∀ g, hv.ownBlock = some g → wv.ownBlock ≠ some g

theorem own_same {w w' : World} {L e k : Nat} {v : Value} {xs : List Value} (h : w.ownsRow L e 1 v k xs) (hb : ∀ g, v.ownBlock = some g → w'.heap[g]? = w.heap[g]?) : w'.ownsRow L e 1 v k xs := by
  refine ⟨h.1, ?_⟩
  rcases h.2 with hn | ⟨g, cap, cur, rfl, hg, hh, rest⟩
  · exact .inl hn
  · exact .inr ⟨g, cap, cur, rfl, hg, by rw [hb g rfl, hh], rest⟩
theorem own_blk {w : World} {L e k : Nat} {v : Value} {xs : List Value} (h : w.ownsRow L e 1 v k xs) {g : Nat} (hg : v.ownBlock = some g) : L ≤ g ∧ ∃ cur, w.heap[g]? = some (.cells cur e (0, 0)) := by
  rcases h.2 with ⟨rfl, _⟩ | ⟨g', cap, cur, rfl, hb, hh, _⟩
  · simp [Value.ownBlock] at hg
  · simp [Value.ownBlock] at hg
    subst hg
    exact ⟨hb, cur, hh⟩

/-- What leaves the shelf's blocks alone leaves the shelf. -/
theorem Shelf.same {L s : Nat} {w w' : World} {m : Nat} {lv hv : Value} {ls : List (Value × List UInt8)} {lent : Option (Nat × List UInt8)} {fv wv : Value} {fs : List (Value × List UInt8)}
    (h : Shelf L s w m lv hv ls lent fv wv fs) (hb : ∀ g, g < w.heap.size → w'.heap[g]? = w.heap[g]?) : Shelf L s w' m lv hv ls lent fv wv fs := by
  have lt : ∀ {g : Nat} {o : Obj}, w.heap[g]? = some o → g < w.heap.size := fun h => (Array.getElem?_eq_some_iff.1 h).1
  refine ⟨by rw [hb s (lt h.blk), h.blk], h.base, h.mark, tail_same h.lists ?_, tail_same h.holds ?_, own_same h.left ?_, own_same h.were ?_, ?_, ?_, ?_, h.lsep, h.fsep, h.rows, h.rowh⟩
  · intro g hg; obtain ⟨_, cur, hh⟩ := tail_blk h.lists hg; exact hb g (lt hh)
  · intro g hg; obtain ⟨_, cur, hh⟩ := tail_blk h.holds hg; exact hb g (lt hh)
  · intro g hg; obtain ⟨_, cur, hh⟩ := own_blk h.left hg; exact hb g (lt hh)
  · intro g hg; obtain ⟨_, cur, hh⟩ := own_blk h.were hg; exact hb g (lt hh)
  · intro g bs e
    obtain ⟨h1, h2⟩ := h.lentR g bs e
    refine ⟨h1, ?_⟩
    unfold Row at *
    rw [hb g (lt h2), h2]
  · intro e he; exact (h.lsE e he).same fun g hg => hb g ((h.lsE e he).lt hg).1
  · intro e he; exact (h.fsE e he).same fun g hg => hb g ((h.fsE e he).lt hg).1
theorem Shelf.below {L s : Nat} {w w' : World} {m : Nat} {lv hv : Value} {ls : List (Value × List UInt8)} {lent : Option (Nat × List UInt8)} {fv wv : Value} {fs : List (Value × List UInt8)}
    (h : Shelf L s w m lv hv ls lent fv wv fs) (hb : Below w.heap.size w w') : Shelf L s w' m lv hv ls lent fv wv fs := h.same hb.block

/-- The lent memory is written over. -/
theorem Shelf.relent {L s : Nat} {w w' : World} {m : Nat} {lv hv : Value} {ls : List (Value × List UInt8)} {fv wv : Value} {fs : List (Value × List UInt8)} {g : Nat} {bs bs' : List UInt8}
    (h : Shelf L s w m lv hv ls (some (g, bs)) fv wv fs) (hb : OnlyG g w w') (hR : Row w' g bs') (hl : bs'.length = bs.length) : Shelf L s w' m lv hv ls (some (g, bs')) fv wv fs := by
  obtain ⟨hLg, hRg⟩ := h.lentR g bs rfl
  have ne : ∀ {k t : Nat} {cur : Array Value}, w.heap[k]? = some (.cells cur t (0, 0)) → t ≠ 5 → k ≠ g := by
    intro k t cur hk ht e
    subst e
    unfold Row at hRg
    rw [hRg] at hk
    simp at hk
    exact ht hk.2.symm
  refine ⟨?_, h.base, h.mark, tail_same h.lists ?_, tail_same h.holds ?_, own_same h.left ?_, own_same h.were ?_, ?_, ?_, ?_, ?_, ?_, h.rows, h.rowh⟩
  · rw [hb.block s (ne h.blk (by decide)), h.blk]
    simp only [lentV, hl]
  · intro k hk; obtain ⟨_, cur, hh⟩ := tail_blk h.lists hk; exact hb.block k (ne hh (by decide))
  · intro k hk; obtain ⟨_, cur, hh⟩ := tail_blk h.holds hk; exact hb.block k (ne hh (by decide))
  · intro k hk; obtain ⟨_, cur, hh⟩ := own_blk h.left hk; exact hb.block k (ne hh (by decide))
  · intro k hk; obtain ⟨_, cur, hh⟩ := own_blk h.were hk; exact hb.block k (ne hh (by decide))
  · intro g' bs'' e; cases e; exact ⟨hLg, hR⟩
  · intro e he; exact (h.lsE e he).same fun k hk => hb.block k fun e' => by subst e'; exact h.lsep _ _ rfl e he hk
  · intro e he; exact (h.fsE e he).same fun k hk => hb.block k fun e' => by subst e'; exact h.fsep _ _ rfl e he hk
  · intro g' bs'' e; cases e; exact h.lsep _ _ rfl
  · intro g' bs'' e; cases e; exact h.fsep _ _ rfl

/-- The field that holds what was lent: another block. -/
theorem Shelf.setLent {L s : Nat} {w : World} {m : Nat} {lv hv : Value} {ls : List (Value × List UInt8)} {lent : Option (Nat × List UInt8)} {fv wv : Value} {fs : List (Value × List UInt8)} {g : Nat} {bs : List UInt8}
    (h : Shelf L s w m lv hv ls lent fv wv fs) (hL : L ≤ g) (hR : Row w g bs) (hl : ∀ e ∈ ls, e.1.ownBlock ≠ some g) (hf : ∀ e ∈ fs, e.1.ownBlock ≠ some g) :
    Shelf L s (w.setCell ⟨s, 3, none⟩ (lentV (some (g, bs)))) m lv hv ls (some (g, bs)) fv wv fs := by
  have ne : ∀ {k t : Nat} {cur : Array Value}, w.heap[k]? = some (.cells cur t (0, 0)) → t ≠ 28 → k ≠ s := by
    intro k t cur hk ht e
    subst e
    rw [h.blk] at hk
    simp at hk
    exact ht hk.2.symm
  have hb : ∀ k, k ≠ s → (w.setCell ⟨s, 3, none⟩ (lentV (some (g, bs)))).heap[k]? = w.heap[k]? := fun k hk => Below.heap_setCell _ _ _ _ hk
  refine ⟨?_, h.base, h.mark, tail_same h.lists ?_, tail_same h.holds ?_, own_same h.left ?_, own_same h.were ?_, ?_, ?_, ?_, ?_, ?_, h.rows, h.rowh⟩
  · simp [World.setCell, Array.getElem?_modify, h.blk]
  · intro k hk; obtain ⟨_, cur, hh⟩ := tail_blk h.lists hk; exact hb k (ne hh (by decide))
  · intro k hk; obtain ⟨_, cur, hh⟩ := tail_blk h.holds hk; exact hb k (ne hh (by decide))
  · intro k hk; obtain ⟨_, cur, hh⟩ := own_blk h.left hk; exact hb k (ne hh (by decide))
  · intro k hk; obtain ⟨_, cur, hh⟩ := own_blk h.were hk; exact hb k (ne hh (by decide))
  · intro g' bs'' e; cases e
    refine ⟨hL, ?_⟩
    unfold Row at *
    rw [hb g (ne hR (by decide)), hR]
  · intro e he; exact (h.lsE e he).same fun k hk => by obtain ⟨_, cur, hh⟩ := (h.lsE e he).lt hk; exact hb k (ne hh (by decide))
  · intro e he; exact (h.fsE e he).same fun k hk => by obtain ⟨_, cur, hh⟩ := (h.fsE e he).lt hk; exact hb k (ne hh (by decide))
  · intro g' bs'' e; cases e; exact hl
  · intro g' bs'' e; cases e; exact hf
end Go.Proofs.YtboghanldbmfmabDoor
