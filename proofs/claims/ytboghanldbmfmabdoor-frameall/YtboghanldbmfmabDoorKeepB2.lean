import Derived.Test.YtboghanldbmfmabDoorKeepA2
namespace Go.Proofs.YtboghanldbmfmabDoor
open Go.RowKit

theorem own_le {w : World} {base base' n : Nat} {e : TypeId} {v : Value} {xs : List Value} (h : w.ownsRow base e 1 v n xs) (hb : base' ≤ base) : w.ownsRow base' e 1 v n xs :=
  ⟨h.1, h.2.elim Or.inl (fun ⟨g, cap, cur, hv, hg, r⟩ => Or.inr ⟨g, cap, cur, hv, Nat.le_trans hb hg, r⟩)⟩

/-- An answer: nil, or a row just as long. -/
def Ans (w : World) (ao : Option Addr) (n : Nat) (bs : List UInt8) : Prop := bs.length = n ∧ ((ao = none ∧ n = 0) ∨ ∃ g, ao = some ⟨g, 0, none⟩ ∧ Row w g bs)

theorem Ans.ent {L : Nat} {w : World} {ao : Option Addr} {n : Nat} {bs : List UInt8} (h : Ans w ao n bs) (hL : ∀ g, (Value.slice ao n n).ownBlock = some g → L ≤ g) : Ent L w (.slice ao n n) bs := by
  obtain ⟨hn, ⟨rfl, rfl⟩ | ⟨g, rfl, hR⟩⟩ := h
  · exact ⟨none, 0, 0, rfl, hn, Nat.le_refl _, fun _ => ⟨rfl, rfl⟩, fun h0 => by omega, fun ad e => by cases e⟩
  · exact ⟨_, n, n, rfl, hn, Nat.le_refl _, (fun e => by cases e), row_src hR, fun ad e => by cases e; exact ⟨hL g rfl, _, hR⟩⟩

/-- A mark more, and the answer's own bytes others: the shelf is as it was else. -/
theorem Shelf.remark {L s : Nat} {w w' : World} {m : Nat} {lv hv : Value} {ls : List (Value × List UInt8)} {lent : Option (Nat × List UInt8)} {fv wv : Value} {fs : List (Value × List UInt8)} {vb : Option Nat}
    (hS : Shelf L s w m lv hv ls lent fv wv fs) (hm : m < 1000) (hblk' : w'.heap[s]? = some (.cells #[lv, hv, .int .i64 ((m : Int) + 1), lentV lent, fv, wv] 28 (0, 0)))
    (K : ∀ k, k < w.heap.size → k ≠ s → vb ≠ some k → w'.heap[k]? = w.heap[k]?) (hvb : ∀ g, vb = some g → ∃ cur, w.heap[g]? = some (.cells cur 5 (0, 0)))
    (hvl : ∀ g bs, lent = some (g, bs) → vb ≠ some g) (hve : ∀ g, vb = some g → (∀ e ∈ ls, e.1.ownBlock ≠ some g) ∧ ∀ e ∈ fs, e.1.ownBlock ≠ some g) : Shelf L s w' (m + 1) lv hv ls lent fv wv fs := by
  have lt : ∀ {w : World} {g : Nat} {o : Obj}, w.heap[g]? = some o → g < w.heap.size := fun h => (Array.getElem?_eq_some_iff.1 h).1
  have nes : ∀ {k : Nat} {cur : Array Value} {t : Nat}, w.heap[k]? = some (.cells cur t (0, 0)) → t ≠ 28 → k ≠ s := by
    intro k cur t hk ht e
    have hblk := hS.blk
    subst e; rw [hblk] at hk; simp at hk; exact ht hk.2.symm
  have nev : ∀ {k : Nat} {cur : Array Value} {t : Nat}, w.heap[k]? = some (.cells cur t (0, 0)) → t ≠ 5 → vb ≠ some k := by
    intro k cur t hk ht e
    obtain ⟨c, hc⟩ := hvb k e
    rw [hk] at hc; simp at hc; exact ht hc.2
  refine ⟨by rw [hblk']; congr 3, hS.base, by omega, tail_same hS.lists ?_, tail_same hS.holds ?_, own_same hS.left ?_, own_same hS.were ?_, ?_, ?_, ?_, hS.lsep, hS.fsep, hS.rows, hS.rowh⟩
  · intro g hg; obtain ⟨_, cur, hh⟩ := tail_blk hS.lists hg; exact K g (lt hh) (nes hh (by decide)) (nev hh (by decide))
  · intro g hg; obtain ⟨_, cur, hh⟩ := tail_blk hS.holds hg; exact K g (lt hh) (nes hh (by decide)) (nev hh (by decide))
  · intro g hg; obtain ⟨_, cur, hh⟩ := own_blk hS.left hg; exact K g (lt hh) (nes hh (by decide)) (nev hh (by decide))
  · intro g hg; obtain ⟨_, cur, hh⟩ := own_blk hS.were hg; exact K g (lt hh) (nes hh (by decide)) (nev hh (by decide))
  · intro g bs e
    obtain ⟨h1, h2⟩ := hS.lentR g bs e
    refine ⟨h1, ?_⟩
    unfold Row at *
    rw [K g (lt h2) (nes h2 (by decide)) (hvl g bs e), h2]
  · intro e he
    refine (hS.lsE e he).same fun g hg => ?_
    obtain ⟨hl, cur, hh⟩ := (hS.lsE e he).lt hg
    exact K g hl (nes hh (by decide)) (fun h => (hve g h).1 e he hg)
  · intro e he
    refine (hS.fsE e he).same fun g hg => ?_
    obtain ⟨hl, cur, hh⟩ := (hS.fsE e he).lt hg
    exact K g hl (nes hh (by decide)) (fun h => (hve g h).2 e he hg)

theorem keepB_shelf {L s : Nat} {w w3 w4 : World} {m : Nat} {lv hv : Value} {ls es : List (Value × List UInt8)} {lent : Option (Nat × List UInt8)} {fv wv : Value} {fs : List (Value × List UInt8)} {g2 o2 fc2 g4 o4 wc4 N : Nat} {o : Obj}
    (hS : Shelf L s w m lv hv ls lent fv wv fs) (hE : ∀ e ∈ es, Ent L w e.1 e.2) (hsep : ∀ g bs', lent = some (g, bs') → ∀ e ∈ es, e.1.ownBlock ≠ some g) (hN : N = (ls ++ es).length)
    (K3 : ∀ k, k < w.heap.size → k ≠ s → lv.ownBlock ≠ some k → w3.heap[k]? = w.heap[k]?) (hz : w.heap.size ≤ w3.heap.size) (hb3 : Below L w w3)
    (hown3 : Tail w3 L 22 (.slice (some ⟨g2, o2, none⟩) N fc2) N (ls.map (·.1) ++ es.map (·.1))) (hat2 : lv.ownBlock = some g2 ∨ w.heap.size ≤ g2)
    (hown3w : Tail w3 L 9 hv ls.length (ls.map fun e => StrV e.2))
    (hblk4 : w4.heap[s]? = some (.cells #[.slice (some ⟨g2, o2, none⟩) N fc2, hv, .int .i64 (m : Nat), lentV lent, fv, wv] 28 (0, 0)))
    (hown4 : Tail w4 L 9 (.slice (some ⟨g4, o4, none⟩) N wc4) N ((ls.map fun e => StrV e.2) ++ es.map fun e => StrV e.2)) (hg4 : (w3.drew.alloc o).grownBy w4 hv.ownBlock) (hat4 : hv.ownBlock = some g4 ∨ w.heap.size ≤ g4) :
    Shelf L s (w4.setCell ⟨s, 1, none⟩ (.slice (some ⟨g4, o4, none⟩) N wc4)) m (.slice (some ⟨g2, o2, none⟩) N fc2) (.slice (some ⟨g4, o4, none⟩) N wc4) (ls ++ es) lent fv wv fs ∧
      (∀ (k : Nat) (cur : Array Value), w.heap[k]? = some (Obj.cells cur 5 (0, 0)) → (w4.setCell ⟨s, 1, none⟩ (.slice (some ⟨g4, o4, none⟩) N wc4)).heap[k]? = w.heap[k]?) ∧
      Below L w (w4.setCell ⟨s, 1, none⟩ (.slice (some ⟨g4, o4, none⟩) N wc4)) := by
  have hkF : ∀ k, k ≠ s → (w4.setCell ⟨s, 1, none⟩ (.slice (some ⟨g4, o4, none⟩) N wc4)).heap[k]? = w4.heap[k]? := fun k hk => Below.heap_setCell _ _ _ _ hk
  have lt : ∀ {w : World} {g : Nat} {o : Obj}, w.heap[g]? = some o → g < w.heap.size := fun h => (Array.getElem?_eq_some_iff.1 h).1
  have hall : ∀ k, k < w.heap.size → k ≠ s → lv.ownBlock ≠ some k → hv.ownBlock ≠ some k → (w4.setCell ⟨s, 1, none⟩ (.slice (some ⟨g4, o4, none⟩) N wc4)).heap[k]? = w.heap[k]? := by
    intro k hk hks h1 h2
    rw [hkF k hks, grown_keep (w := w3.drew) hg4 (by simp; omega) h2]
    exact K3 k hk hks h1
  have nes : ∀ {k : Nat} {cur : Array Value} {t : Nat}, w.heap[k]? = some (.cells cur t (0, 0)) → t ≠ 28 → k ≠ s := by
    intro k cur t hk ht e
    have hblk := hS.blk
    subst e; rw [hblk] at hk; simp at hk; exact ht hk.2.symm
  have nes4 : ∀ {k : Nat} {cur : Array Value} {t : Nat}, w4.heap[k]? = some (.cells cur t (0, 0)) → t ≠ 28 → k ≠ s := by
    intro k cur t hk ht e
    subst e; rw [hblk4] at hk; simp at hk; exact ht hk.2.symm
  have h5 : ∀ (k : Nat) (cur : Array Value), w.heap[k]? = some (Obj.cells cur 5 (0, 0)) → (w4.setCell ⟨s, 1, none⟩ (.slice (some ⟨g4, o4, none⟩) N wc4)).heap[k]? = w.heap[k]? := fun k cur hk =>
    hall k (lt hk) (nes hk (by decide)) (tail_ne hS.lists hk (by decide)) (tail_ne hS.holds hk (by decide))
  have hEs : ∀ {x : Value} {y : List UInt8}, Ent L w x y → Ent L (w4.setCell ⟨s, 1, none⟩ (.slice (some ⟨g4, o4, none⟩) N wc4)) x y := fun he => he.same fun g hg => by
    obtain ⟨_, cur, hh⟩ := he.lt hg
    exact h5 g cur hh
  refine ⟨⟨?_, hS.base, hS.mark, ?_, ?_, own_same hS.left ?_, own_same hS.were ?_, ?_, ?_, ?_, ?_, hS.fsep, ?_, ?_⟩, h5, ?_⟩
  · rw [sh_set1 hblk4]
  · rw [← hN, List.map_append]
    refine tail_same hown3 fun g hg => ?_
    obtain ⟨_, cur, hh⟩ := tail_blk hown3 hg
    have e1 := grown_keep (w := w3.drew) hg4 (k := g) (by simpa using lt hh) (tail_ne hown3w hh (by decide))
    rw [hkF g (nes4 (e1.trans hh) (by decide))]
    exact e1
  · rw [← hN, List.map_append]
    refine tail_same hown4 fun g hg => ?_
    obtain ⟨_, cur, hh⟩ := tail_blk hown4 hg
    exact hkF g (nes4 hh (by decide))
  · intro g hg
    obtain ⟨_, cur, hh⟩ := own_blk hS.left hg
    exact hall g (lt hh) (nes hh (by decide)) (fun h => hS.rows g h hg) (tail_ne hS.holds hh (by decide))
  · intro g hg
    obtain ⟨_, cur, hh⟩ := own_blk hS.were hg
    exact hall g (lt hh) (nes hh (by decide)) (tail_ne hS.lists hh (by decide)) (fun h => hS.rowh g h hg)
  · intro g bs' e
    obtain ⟨h1, h2⟩ := hS.lentR g bs' e
    refine ⟨h1, ?_⟩
    unfold Row at *
    rw [h5 g _ h2, h2]
  · intro e he
    rcases List.mem_append.1 he with h | h
    · exact hEs (hS.lsE e h)
    · exact hEs (hE e h)
  · intro e he; exact hEs (hS.fsE e he)
  · intro g bs' e x hx
    rcases List.mem_append.1 hx with h | h
    · exact hS.lsep g bs' e x h
    · exact hsep g bs' e x h
  · intro g hg hh
    have hg' : g2 = g := by simpa [Value.ownBlock] using hg
    subst hg'
    obtain ⟨_, cur, hc⟩ := own_blk hS.left hh
    have := lt hc
    rcases hat2 with h | h
    · exact hS.rows g2 h hh
    · omega
  · intro g hg hh
    have hg' : g4 = g := by simpa [Value.ownBlock] using hg
    subst hg'
    obtain ⟨_, cur, hc⟩ := own_blk hS.were hh
    have := lt hc
    rcases hat4 with h | h
    · exact hS.rowh g4 h hh
    · omega
  · have hb3s := hb3.size
    have hLw : L ≤ w3.heap.size := by have := lt hS.blk; have := hS.base; omega
    exact ((hb3.drew.alloc hLw _).grown hg4 (by simp; omega) (fun k h => (tail_lt hown3w k h).1)).setCell hS.base _

theorem tail_cut {w : World} {L e g off n cap : Nat} {xs : List Value} (h : Tail w L e (.slice (some ⟨g, off, none⟩) (n + 2) cap) (n + 2) xs) : Tail w L e (.slice (some ⟨g, off + 2, none⟩) n (cap - 2)) n (xs.drop 2) := by
  refine ⟨by rw [List.length_drop, h.1]; omega, ?_⟩
  rcases h.2 with ⟨e, _⟩ | ⟨g', off', cap', e, hg, ⟨cur, hc, hs⟩, hn, hall⟩
  · cases e
  · cases e
    refine .inr ⟨g, off + 2, cap - 2, rfl, hg, ⟨cur, hc, by omega⟩, by omega, fun j u hu => ?_⟩
    rw [List.getElem?_drop] at hu
    have := hall (2 + j) u hu
    rwa [show off + (2 + j) = off + 2 + j from by omega] at this

/-- The two oldest go. -/
theorem Shelf.cut {L s : Nat} {w : World} {m : Nat} {g2 o2 c2 g4 o4 c4 n : Nat} {ls : List (Value × List UInt8)} {lent : Option (Nat × List UInt8)} {fv wv : Value} {fs : List (Value × List UInt8)} (hn : ls.length = n + 2)
    (h : Shelf L s w m (.slice (some ⟨g2, o2, none⟩) (n + 2) c2) (.slice (some ⟨g4, o4, none⟩) (n + 2) c4) ls lent fv wv fs) :
    Shelf L s ((w.setCell ⟨s, 0, none⟩ (.slice (some ⟨g2, o2 + 2, none⟩) n (c2 - 2))).setCell ⟨s, 1, none⟩ (.slice (some ⟨g4, o4 + 2, none⟩) n (c4 - 2))) m (.slice (some ⟨g2, o2 + 2, none⟩) n (c2 - 2)) (.slice (some ⟨g4, o4 + 2, none⟩) n (c4 - 2)) (ls.drop 2) lent fv wv fs ∧
      (∀ k, k ≠ s → ((w.setCell ⟨s, 0, none⟩ (.slice (some ⟨g2, o2 + 2, none⟩) n (c2 - 2))).setCell ⟨s, 1, none⟩ (.slice (some ⟨g4, o4 + 2, none⟩) n (c4 - 2))).heap[k]? = w.heap[k]?) ∧
      Below L w ((w.setCell ⟨s, 0, none⟩ (.slice (some ⟨g2, o2 + 2, none⟩) n (c2 - 2))).setCell ⟨s, 1, none⟩ (.slice (some ⟨g4, o4 + 2, none⟩) n (c4 - 2))) := by
  have hk : ∀ k, k ≠ s → ((w.setCell ⟨s, 0, none⟩ (.slice (some ⟨g2, o2 + 2, none⟩) n (c2 - 2))).setCell ⟨s, 1, none⟩ (.slice (some ⟨g4, o4 + 2, none⟩) n (c4 - 2))).heap[k]? = w.heap[k]? := fun k hk =>
    (Below.heap_setCell _ _ _ _ hk).trans (Below.heap_setCell _ _ _ _ hk)
  have hblk := sh_set1 (sh_set0 h.blk (.slice (some ⟨g2, o2 + 2, none⟩) n (c2 - 2))) (.slice (some ⟨g4, o4 + 2, none⟩) n (c4 - 2))
  have hb : Below L w ((w.setCell ⟨s, 0, none⟩ (.slice (some ⟨g2, o2 + 2, none⟩) n (c2 - 2))).setCell ⟨s, 1, none⟩ (.slice (some ⟨g4, o4 + 2, none⟩) n (c4 - 2))) := ((Below.refl _ _).setCell h.base _).setCell h.base _
  refine ⟨?_, hk, hb⟩
  generalize (w.setCell ⟨s, 0, none⟩ (.slice (some ⟨g2, o2 + 2, none⟩) n (c2 - 2))).setCell ⟨s, 1, none⟩ (.slice (some ⟨g4, o4 + 2, none⟩) n (c4 - 2)) = w' at *
  have nes : ∀ {k : Nat} {cur : Array Value} {t : Nat}, w.heap[k]? = some (.cells cur t (0, 0)) → t ≠ 28 → k ≠ s := by
    intro k cur t hk' ht e
    have hblk := h.blk
    subst e; rw [hblk] at hk'; simp at hk'; exact ht hk'.2.symm
  have hlen : (ls.drop 2).length = n := by rw [List.length_drop, hn]; omega
  have hlists := h.lists
  have hholds := h.holds
  rw [hn] at hlists hholds
  refine ⟨hblk, h.base, h.mark, ?_, ?_, own_same h.left ?_, own_same h.were ?_, ?_, ?_, ?_, ?_, h.fsep, ?_, ?_⟩
  · rw [hlen, List.map_drop]
    refine tail_same (tail_cut hlists) fun g hg => ?_
    obtain ⟨_, cur, hh⟩ := tail_blk (tail_cut hlists) hg
    exact hk g (nes hh (by decide))
  · rw [hlen, List.map_drop]
    refine tail_same (tail_cut hholds) fun g hg => ?_
    obtain ⟨_, cur, hh⟩ := tail_blk (tail_cut hholds) hg
    exact hk g (nes hh (by decide))
  · intro g hg; obtain ⟨_, cur, hh⟩ := own_blk h.left hg; exact hk g (nes hh (by decide))
  · intro g hg; obtain ⟨_, cur, hh⟩ := own_blk h.were hg; exact hk g (nes hh (by decide))
  · intro g bs e
    obtain ⟨h1, h2⟩ := h.lentR g bs e
    refine ⟨h1, ?_⟩
    unfold Row at *
    rw [hk g (nes h2 (by decide)), h2]
  · intro e he
    have he' := List.mem_of_mem_drop he
    refine (h.lsE e he').same fun g hg => ?_
    obtain ⟨_, cur, hh⟩ := (h.lsE e he').lt hg
    exact hk g (nes hh (by decide))
  · intro e he
    refine (h.fsE e he).same fun g hg => ?_
    obtain ⟨_, cur, hh⟩ := (h.fsE e he).lt hg
    exact hk g (nes hh (by decide))
  · intro g bs e x hx; exact h.lsep g bs e x (List.mem_of_mem_drop hx)
  · intro g hg; exact h.rows g hg
  · intro g hg; exact h.rowh g hg

theorem run_cut (t e : Nat) (hu : Tryd.prog.underlying t = some (.slice e)) (hsz : ∀ wx : World, (sizeOf e).run Tryd.prog wx = .ok 1 wx) (b off len cap : Nat) (h1 : 2 ≤ len) (h2 : 2 < cap) (wx : World) :
    (Instr.slice t (.slice (some ⟨b, off, none⟩) len cap) (some (.int .i64 2)) none none).run Tryd.prog wx = .ok (.slice (some ⟨b, off + 2, none⟩) (len - 2) (cap - 2)) wx := by
  have h3 : ¬ cap = 2 := by omega
  have hs := hsz wx
  simp [Instr.slice, run_underlying hu, Instr.sliceBounds, Instr.sliceBound, asIntOf, h3, hs, go_sem]
  intro h
  omega

set_option maxHeartbeats 1000000 in
theorem keepB_any (L s : Nat) (w : World) (m : Nat) (lv hv : Value) (ls : List (Value × List UInt8)) (lent : Option (Nat × List UInt8)) (fv wv : Value) (fs : List (Value × List UInt8))
    (ao : Option Addr) (n : Nat) (bs : List UInt8) (hS : Shelf L s w m lv hv ls lent fv wv fs) (hm : m < 1000) (hm3 : (m + 1) % 3 = 0) (hll : ls.length ≤ 8) (hA : Ans w ao n bs) (hn : n ≤ 100000)
    (hL : ∀ g, (Value.slice ao n n).ownBlock = some g → L ≤ g)
    (hsep : ∀ g bs', lent = some (g, bs') → (Value.slice ao n n).ownBlock ≠ some g) (hsl' : ∀ g, (Value.slice ao n n).ownBlock = some g → (∀ e ∈ ls, e.1.ownBlock ≠ some g) ∧ ∀ e ∈ fs, e.1.ownBlock ≠ some g) :
    Calls Tryd.prog 20 #[.pointer (some ⟨s, 0, none⟩), .slice ao n n] w fun e w' => e = .returned (.tuple #[]) ∧ ∃ lv' hv' ls', ls'.length ≤ 8 ∧ Shelf L s w' (m + 1) lv' hv' ls' lent fv wv fs ∧
      (∀ (k : Nat) (cur : Array Value), w.heap[k]? = some (Obj.cells cur 5 (0, 0)) → (Value.slice ao n n).ownBlock ≠ some k → w'.heap[k]? = w.heap[k]?) ∧ Below L w w' := by
  have hblk := hS.blk
  obtain ⟨_, _, c2, _, _, hfz⟩ := sh_cells hblk
  have hfz2 := hfz 2
  obtain ⟨i0, hi, hz0, hz1, hz2⟩ := info_parts Tryd.info22
  obtain ⟨j0, gi, gz0, gz1, gz2⟩ := info_parts Tryd.info9
  obtain ⟨k0, ki, kz0, kz1, kz2⟩ := info_parts Tryd.info5
  have hLs := hS.base
  have hsl : s < w.heap.size := (Array.getElem?_eq_some_iff.1 hblk).1
  have hm3b : (((m : Int) + 1) % 3 != 0) = false := by rw [bne_eq_false_iff_eq]; omega
  have nes : ∀ {k : Nat} {cur : Array Value} {t : Nat}, w.heap[k]? = some (.cells cur t (0, 0)) → t ≠ 28 → k ≠ s := by
    intro k cur t hk ht e
    subst e; rw [hblk] at hk; simp at hk; exact ht hk.2.symm
  have hblk1 := sh_set2 hblk (.int .i64 ((m : Int) + 1))
  have hk1 : ∀ k, k ≠ s → (w.setCell ⟨s, 2, none⟩ (.int .i64 ((m : Int) + 1))).heap[k]? = w.heap[k]? := fun k hk => Below.heap_setCell _ _ _ _ hk
  have hz1s : (w.setCell ⟨s, 2, none⟩ (.int .i64 ((m : Int) + 1))).heap.size = w.heap.size := by simp [World.setCell]
  have hb1 : Below L w (w.setCell ⟨s, 2, none⟩ (.int .i64 ((m : Int) + 1))) := (Below.refl _ _).setCell hLs _
  generalize hw1 : w.setCell ⟨s, 2, none⟩ (.int .i64 ((m : Int) + 1)) = w1 at *
  have hownNeS : (Value.slice ao n n).ownBlock ≠ some s := by
    intro h
    obtain ⟨_, ⟨rfl, _⟩ | ⟨g, rfl, hR⟩⟩ := hA
    · simp [Value.ownBlock] at h
    · simp [Value.ownBlock] at h
      exact nes hR (by decide) h
  have hvb5 : ∀ g, (Value.slice ao n n).ownBlock = some g → ∃ cur, w.heap[g]? = some (.cells cur 5 (0, 0)) := by
    intro g h
    obtain ⟨_, ⟨rfl, _⟩ | ⟨g', rfl, hR⟩⟩ := hA
    · simp [Value.ownBlock] at h
    · simp [Value.ownBlock] at h
      subst h
      exact ⟨_, hR⟩
  have hA1 : Ans w1 ao n bs := by
    refine ⟨hA.1, hA.2.imp id fun ⟨g, e, hR⟩ => ⟨g, e, ?_⟩⟩
    unfold Row at *
    rw [hk1 g (nes hR (by decide)), hR]
  obtain ⟨_, _, d2, _, _, dfz⟩ := sh_cells hblk1
  have hzA : w.heap.size ≤ w1.heap.size := by omega
  have HZ : Hid _ := hz1s
  clear hz1s
  go_enter Tryd.func20, Tryd.ntmps20
  go_wp2_with fail
  clear hw1
  go_loopw [4] (fun i wr => ∃ k : Nat, k ≤ n ∧ i = .int .i64 k ∧ (∃ bs', Ans wr ao n bs') ∧ (∀ k, (Value.slice ao n n).ownBlock ≠ some k → wr.heap[k]? = w1.heap[k]?) ∧ wr.heap.size = w1.heap.size ∧ Below L w1 wr) (fun i _ => n - (intOf i).toNat)
  case atStart => exact ⟨0, by omega, rfl, ⟨bs, hA1⟩, fun _ _ => rfl, rfl, Below.refl _ _⟩
  case round =>
    obtain ⟨k, hk, rfl, ⟨bs', hA'⟩, hO, hsz, hbr⟩ := hrel
    by_cases hlt : k < n
    · obtain ⟨hn', ⟨_, h0⟩ | ⟨g, rfl, hR⟩⟩ := hA'
      · omega
      have hgs : g ≠ s := by
        obtain ⟨_, ⟨e, _⟩ | ⟨g', e, hR1⟩⟩ := hA1
        · cases e
        · cases e
          intro e'; subst e'
          unfold Row at hR1; rw [hblk1] at hR1; simp at hR1
      have hc := hR.cell k _ (getD_some bs' k (by omega))
      have hfzk := hR.frozen k
      have e2 : wr.cell? ⟨s, 2, none⟩ = some (.int .i64 ((m : Int) + 1)) := (World.cell?_of_block (w := w1) (hO s (by simpa [Value.ownBlock] using hgs))).trans d2
      have hR2 := hR.set k (UInt8.ofNat (37 * (m + 1) + k))
      have hv : B (UInt8.ofNat (37 * (m + 1) + k)) = .int .u8 ((37 * ((m : Int) + 1) + (k : Int)) % 256) := by rw [B]; exact val_u8 (by simp)
      have hl2 : (bs'.set k (UInt8.ofNat (37 * (m + 1) + k))).length = n := by rw [List.length_set, hn']
      rw [hv] at hR2
      generalize bs'.set k (UInt8.ofNat (37 * (m + 1) + k)) = bs2 at *
      have hO2 : ∀ j, (Value.slice (some ⟨g, 0, none⟩) n n).ownBlock ≠ some j → (wr.setCell ⟨g, k, none⟩ (.int .u8 ((37 * ((m : Int) + 1) + (k : Int)) % 256))).heap[j]? = w1.heap[j]? := fun j hj =>
        (Below.heap_setCell _ _ _ _ (fun e => hj (by rw [e]; rfl))).trans (hO j hj)
      have hb2 := hbr.setCell (p := ⟨g, k, none⟩) (hL g rfl) (.int .u8 ((37 * ((m : Int) + 1) + (k : Int)) % 256))
      have hs2 : (wr.setCell ⟨g, k, none⟩ (.int .u8 ((37 * ((m : Int) + 1) + (k : Int)) % 256))).heap.size = w1.heap.size := by rw [← hsz]; simp [World.setCell]
      simp only [B] at hc
      clear hv hR hA hA1 hO hbr hsz
      generalize (bs'.getD k 0).toNat = z at *
      have HS2 : Hid _ := hs2
      clear hs2
      go_wp2
      go_roundw
      case rel => exact ⟨k + 1, by omega, by go_num, ⟨bs2, hl2, .inr ⟨g, rfl, hR2⟩⟩, hO2, HS2.out, hb2⟩
      case measure => simp [intOf]; omega
    · clear hA hA1
      have hszA : w1.heap.size ≤ wr.heap.size := by omega
      clear hsz
      have hsA : Src wr ao bs' := by
        obtain ⟨_, ⟨rfl, _⟩ | ⟨g, rfl, hR⟩⟩ := hA'
        · intro h0; omega
        · exact row_src hR
      have hnoneA : ao = none → n = 0 ∧ n = 0 := by
        rintro rfl
        obtain ⟨_, ⟨_, h⟩ | ⟨g, e, _⟩⟩ := hA'
        · exact ⟨h, h⟩
        · cases e
      have hblkB : wr.heap[s]? = some (.cells #[lv, hv, .int .i64 ((m : Int) + 1), lentV lent, fv, wv] 28 (0, 0)) := (hO s hownNeS).trans hblk1
      have hslB : s < wr.heap.size := (Array.getElem?_eq_some_iff.1 hblkB).1
      have hcB := (sh_cells hblkB).2.2.1
      have hLB : L ≤ wr.heap.size := by omega
      go_wp2_with fail
      generalize hwB : wr = wB at *
      clear hwB
      generalize hM : wB.heap.size = M at *
      have HM : Hid _ := hM
      clear hM
      go_loopw [5, 6] (fun mv i wr => ∃ k : Nat, k ≤ 80 ∧ i = .int .i64 k ∧ Below M wB wr ∧ ((k = 0 ∧ mv = .slice ao n n) ∨ (0 < k ∧ ∃ ys : List UInt8, wr.ownsRow M 5 1 mv (n + k) (ys.map B)))) (fun _ i _ => 80 - (intOf i).toNat)
      case atStart => exact ⟨0, by omega, rfl, Below.refl _ _, .inl ⟨rfl, rfl⟩⟩
      case round =>
        obtain ⟨q, hq, rfl, hbq, hmv⟩ := hrel
        have hzq := hbq.size
        rw [HM.out] at hzq
        have e2 : wr.cell? ⟨s, 2, none⟩ = some (.int .i64 ((m : Int) + 1)) := (hbq.cell hslB).trans hcB
        by_cases hq80 : q < 80
        · obtain ⟨u, hv⟩ : ∃ u : UInt8, B u = .int .u8 ((200 + ((m : Int) + 1) + (q : Int)) % 256) := ⟨UInt8.ofNat (200 + (m + 1) + q), by rw [B]; exact val_u8 (by simp)⟩
          have hs1 := src_mark wr [u] #[.int .u8 ((200 + ((m : Int) + 1) + (q : Int)) % 256)] (0, 0) (by rw [← hv]; rfl)
          have HV : Hid _ := hv
          clear hv
          rcases hmv with ⟨rfl, rfl⟩ | ⟨hq0, ys, hown⟩
          · have hsW : Src (wr.alloc (.cells #[.int .u8 ((200 + ((m : Int) + 1) + ((0 : Nat) : Int)) % 256)] 5)) ao bs' := by
              have h1 : Src wr ao bs' := by
                cases ao with
                | none => intro h0; obtain ⟨ad, e, _⟩ := hsA h0; cases e
                | some ad =>
                  refine src_same hsA (hbq.block _ ?_)
                  obtain ⟨_, ⟨e, _⟩ | ⟨g, e, hR⟩⟩ := hA'
                  · cases e
                  · cases e
                    show g < M
                    rw [← HM.out]
                    exact (Array.getElem?_eq_some_iff.1 hR).1
              exact src_keep h1 ((Below.refl _ _).alloc (Nat.le_refl _) _)
            rw [show ((0 : Nat) : Int) = (0 : Int) from rfl] at hsW hs1 ⊢
            have hln := hA'.1
            go_wp2_with (first
              | (at_builtin; go_must (refine wpList_append_grows _ rfl _ _ 22 rfl 5 k0 _ 1 1 Tryd.underlying22 ki kz0 kz1 kz2 rfl (by decide) ao n n (bs'.map B) rfl hnoneA (by simp [hln]) (fun b hb => by subst hb; exact news_of hsW) ⟨wr.heap.size, 0, none⟩ 1 1 [.int .u8 ((200 + ((m : Int) + 1)) % 256)] rfl rfl (new_cell rfl) (by intro u hu; simp at hu; subst hu; rfl) (by omega) (by unfold maxLen; omega) (by omega) ?_))
              | fail)
            intro v2 w2 hown2 hg2
            have hb2 : Below M wB w2 := (hbq.alloc hzq _).grown hg2 (by simp; omega) (fun k h => by cases h)
            replace hown2 : w2.ownsRow M 5 1 v2 (n + 1) ((bs' ++ [u]).map B) := by
              have hv0 := HV.out
              rw [show (200 + ((m : Int) + 1) + ((0 : Nat) : Int)) = 200 + ((m : Int) + 1) from by omega] at hv0
              rw [List.map_append, List.map_cons, List.map_nil, hv0]
              exact own_le hown2 (by omega)
            clear hg2 hsW hs1
            go_wp2
            go_roundw
            case rel => exact ⟨1, by omega, by go_num, hb2, .inr ⟨by omega, _, hown2⟩⟩
            case measure => simp [intOf]
          · go_wp2_with (first
              | (at_builtin; go_must (refine wpList_append_bytes rfl _ _ rfl M (n + q) _ ys rfl (hown.alloc _) _ 1 1 [u] rfl rfl (by intro h; cases h) hs1 (by omega) (by simp; omega) ?_))
              | fail)
            intro v2 w2 hown2 hg2
            have hb2 : Below M wB w2 := (hbq.alloc hzq _).grown hg2 (by simp; omega) (fun k h => (hown.lt k h).1)
            replace hown2 : w2.ownsRow M 5 1 v2 (n + q + 1) ((ys ++ [u]).map B) := by rw [List.map_append]; exact hown2
            clear hg2 hs1 hown
            go_wp2
            go_roundw
            case rel => exact ⟨q + 1, by omega, by go_num, hb2, .inr ⟨by omega, _, hown2⟩⟩
            case measure => simp [intOf]; omega
        · obtain rfl : q = 80 := by omega
          rcases hmv with ⟨h, _⟩ | ⟨_, ys, hownM⟩
          · omega
          obtain ⟨gM, cM, rfl, hMg, hgMl⟩ := hownM.form (by omega)
          have hblkC : wr.heap[s]? = some (.cells #[lv, hv, .int .i64 ((m : Int) + 1), lentV lent, fv, wv] 28 (0, 0)) := (hbq.block s (by omega)).trans hblkB
          have KC : ∀ k, k < w.heap.size → k ≠ s → (Value.slice ao n n).ownBlock ≠ some k → wr.heap[k]? = w.heap[k]? := fun k hk hks hkv =>
            (hbq.block k (by omega)).trans ((hO k hkv).trans (hk1 k hks))
          have hSC : Shelf L s wr (m + 1) lv hv ls lent fv wv fs := hS.remark hm hblkC KC hvb5 hsep hsl'
          have hEv : Ent L wr (.slice ao n n) bs' := (hA'.ent hL).same fun g hg => hbq.block g (by
            obtain ⟨_, ⟨rfl, _⟩ | ⟨g', rfl, hR⟩⟩ := hA'
            · simp [Value.ownBlock] at hg
            · simp [Value.ownBlock] at hg
              subst hg
              rw [← HM.out]
              exact (Array.getElem?_eq_some_iff.1 hR).1)
          have hysl : ys.length = n + 80 := by have := hownM.1; simpa using this
          have hEm : Ent L wr (.slice (some ⟨gM, 0, none⟩) (n + 80) cM) ys := by
            obtain ⟨ao', c', e, hc', hnn, hss, hll'⟩ := own_src hownM
            cases e
            obtain ⟨hMg', cur, hcur⟩ := own_blk hownM (g := gM) rfl
            exact ⟨_, n + 80, cM, rfl, hysl, hc', hnn, hss, fun ad e => by cases e; exact ⟨by simp; omega, cur, hcur⟩⟩
          have hbC : Below L w wr := hb1.trans (hbr.trans (hbq.mono (by omega)))
          have h5C : ∀ (k : Nat) (cur : Array Value), w.heap[k]? = some (Obj.cells cur 5 (0, 0)) → (Value.slice ao n n).ownBlock ≠ some k → wr.heap[k]? = w.heap[k]? := fun k cur hk hkv =>
            KC k (Array.getElem?_eq_some_iff.1 hk).1 (nes hk (by decide)) hkv
          have hwrs : w.heap.size ≤ wr.heap.size := hbC.size
          have hMl : ∀ g bs'', lent = some (g, bs'') → (Value.slice (some ⟨gM, 0, none⟩) (n + 80) cM).ownBlock ≠ some g := by
            intro g bs'' e h
            obtain ⟨_, hr⟩ := hS.lentR g bs'' e
            have := (Array.getElem?_eq_some_iff.1 hr).1
            simp [Value.ownBlock] at h
            omega
          clear hblk hblk1 hblkB hcB hO hbq hbr hk1 hb1 KC e2 hA' hsA d2 hownM hS dfz c2 hfz hfz2
          generalize hwC : wr = wC at *
          clear hwC
          obtain ⟨lo, lc, hlv⟩ := tail_val hSC.lists
          obtain ⟨ho, hc, hhv⟩ := tail_val hSC.holds
          obtain ⟨x0, x1, _, _, _, xfz⟩ := sh_cells hblkC
          have xfz0 := xfz 0
          have hownL := hSC.lists
          have hownH := hSC.holds
          rw [hlv] at x0 hownL
          have hLC : L ≤ wC.heap.size := by omega
          have hslC : s < wC.heap.size := (Array.getElem?_eq_some_iff.1 hblkC).1
          go_wp2_with (first
            | (at_builtin; go_must (refine wpList_append_tail _ rfl _ _ 25 rfl L 22 i0 _ 24 Tryd.underlying25 hi hz0 hz1 hz2 rfl _ _ _ rfl (tail_alloc hownL _) ⟨wC.heap.size, 0, none⟩ 2 2 [.slice ao n n, .slice (some ⟨gM, 0, none⟩) (n + 80) cM] rfl rfl (new_cell rfl) (by intro u hu; simp at hu; rcases hu with rfl | rfl <;> rfl) (by decide) (by unfold maxLen; omega) (by omega) (by simp; omega) (wC.heap.size + 1) (by simp) ?_))
            | fail)
          intro g2 o2 fc2 w2 hown2 hg2 hat2 hle2
          have K2 : ∀ k, k < wC.heap.size → (Value.slice lo ls.length lc).ownBlock ≠ some k → w2.heap[k]? = wC.heap[k]? := fun k hk hkf => grown_keep hg2 hk hkf
          have hblk2 : w2.heap[s]? = some (.cells #[lv, hv, .int .i64 ((m : Int) + 1), lentV lent, fv, wv] 28 (0, 0)) := (K2 s hslC (tail_ne hownL hblkC (by decide))).trans hblkC
          have hown2h : Tail w2 L 9 hv ls.length (ls.map fun e => StrV e.2) := tail_same hownH fun g hg => by
            obtain ⟨_, cur, hh⟩ := tail_blk hownH hg
            exact K2 g (Array.getElem?_eq_some_iff.1 hh).1 (tail_ne hownL hh (by decide))
          have hblk3 := sh_set0 hblk2 (.slice (some ⟨g2, o2, none⟩) (ls.length + 2) fc2)
          obtain ⟨y0, _, _, _, _, yfz⟩ := sh_cells hblk2
          have yfz0 := yfz 0
          rw [hlv] at y0
          have hzB : wC.heap.size + 1 ≤ w2.heap.size := by have := hg2.size; simpa using this
          have hk3 : ∀ k, k ≠ s → (w2.setCell ⟨s, 0, none⟩ (.slice (some ⟨g2, o2, none⟩) (ls.length + 2) fc2)).heap[k]? = w2.heap[k]? := fun k hk => Below.heap_setCell _ _ _ _ hk
          have hz3 : (w2.setCell ⟨s, 0, none⟩ (.slice (some ⟨g2, o2, none⟩) (ls.length + 2) fc2)).heap.size = w2.heap.size := by simp [World.setCell]
          have hb2 : Below L wC w2 := ((Below.refl _ _).alloc hLC _).grown hg2 (by simp; omega) (fun k h => (tail_lt hownL k h).1)
          have hb3 : Below L wC (w2.setCell ⟨s, 0, none⟩ (.slice (some ⟨g2, o2, none⟩) (ls.length + 2) fc2)) := hb2.setCell hLs _
          have nes2 : ∀ {k : Nat} {cur : Array Value} {t : Nat}, w2.heap[k]? = some (.cells cur t (0, 0)) → t ≠ 28 → k ≠ s := by
            intro k cur t hk ht e
            subst e; rw [hblk2] at hk; simp at hk; exact ht hk.2.symm
          have nesC : ∀ {k : Nat} {cur : Array Value} {t : Nat}, wC.heap[k]? = some (.cells cur t (0, 0)) → t ≠ 28 → k ≠ s := by
            intro k cur t hk ht e
            subst e; rw [hblkC] at hk; simp at hk; exact ht hk.2.symm
          go_wp2_with fail
          generalize w2.setCell ⟨s, 0, none⟩ (.slice (some ⟨g2, o2, none⟩) (ls.length + 2) fc2) = w3 at *
          have K3 : ∀ k, k < wC.heap.size → k ≠ s → lv.ownBlock ≠ some k → w3.heap[k]? = wC.heap[k]? := fun k hk hks hkf => (hk3 k hks).trans (K2 k hk (by rw [← hlv]; exact hkf))
          have hown3h : Tail w3 L 9 hv ls.length (ls.map fun e => StrV e.2) := tail_same hown2h fun g hg => by
            obtain ⟨_, cur, hh⟩ := tail_blk hown2h hg
            exact hk3 g (nes2 hh (by decide))
          have hown3 : Tail w3 L 22 (.slice (some ⟨g2, o2, none⟩) (ls.length + 2) fc2) (ls.length + 2) (ls.map (·.1) ++ [.slice ao n n, .slice (some ⟨gM, 0, none⟩) (n + 80) cM]) := tail_same hown2 fun g hg => by
            obtain ⟨_, cur, hh⟩ := tail_blk hown2 hg
            exact hk3 g (nes2 hh (by decide))
          have hE3 : ∀ {x : Value} {y : List UInt8}, Ent L wC x y → Ent L w3 x y := fun he => he.same fun g hg => by
            obtain ⟨hgl, cur, hh⟩ := he.lt hg
            exact K3 g hgl (nesC hh (by decide)) (by rw [hlv]; exact tail_ne hownL hh (by decide))
          have hs3 : Src w3.drew ao bs' ∧ bs'.length = n := by obtain ⟨_, _, _, e, hl, _, _, hs', _⟩ := hE3 hEv; cases e; exact ⟨hs', hl⟩
          have hs4 : Src w3.drew (some ⟨gM, 0, none⟩) ys := by obtain ⟨_, _, _, e, hl, _, _, hs', _⟩ := hE3 hEm; cases e; exact hs'
          have kc1 := conv_run w3.drew ao n n bs' hs3.2 hs3.1
          have kc2 := conv_run w3.drew (some ⟨gM, 0, none⟩) (n + 80) cM ys hysl hs4
          obtain ⟨_, z1, _, _, _, zfz⟩ := sh_cells hblk3
          have zfz1 := zfz 1
          rw [hhv] at z1 hown3h
          have hLw3 : L ≤ w3.heap.size := by omega
          have hz3' : w2.heap.size ≤ w3.heap.size := by omega
          clear hz3 hs3 hs4
          have HB3 : Hid _ := hblk3
          have z1a : (w3.alloc (.cells #[.string ⟨bs'.toArray⟩, .string ⟨ys.toArray⟩] 9)).cell? ⟨s, 1, none⟩ = some (.slice ho ls.length hc) := (((Below.refl w3.heap.size w3).alloc (Nat.le_refl _) _).cell (by simp; omega)).trans z1
          go_region_law (refine step_append_tail _ rfl (.tmp 89) (.tmp 94) 26 rfl L 9 j0 _ 16 Tryd.underlying26 gi gz0 gz1 gz2 rfl _ ls.length _ rfl (tail_alloc (tail_drew hown3h) _) ⟨w3.heap.size, 0, none⟩ 2 2 [.string ⟨bs'.toArray⟩, .string ⟨ys.toArray⟩] rfl rfl (new_cell rfl) (by intro u hu; simp at hu; rcases hu with rfl | rfl <;> rfl) (by decide) (by unfold maxLen; omega) (by omega) (by simp; omega) (w3.heap.size + 1) (by simp) ?_; intro g4 o4 wc4 w4 hown4 hg4 hat4 hle4; have hblk4 := (grown_keep (w := w3.drew) hg4 (k := s) (by simp; omega) (tail_ne hown3h HB3.out (by decide))).trans HB3.out; have v1 := (sh_cells hblk4).2.1; have vfz1 := (sh_cells hblk4).2.2.2.2.2 1; have v0 := (sh_cells hblk4).1)
          all_goals
            by_cases hcut : ls.length ≤ 6
            · go_wp2
              go_end0
              rw [← hhv] at hown3h hg4 hat4
              rw [← hlv] at hat2
              obtain ⟨hf1, hf2, hf3⟩ := keepB_shelf (es := [(.slice ao n n, bs'), (.slice (some ⟨gM, 0, none⟩) (n + 80) cM, ys)]) (N := ls.length + 2) (o := .cells #[.string ⟨bs'.toArray⟩, .string ⟨ys.toArray⟩] 9) hSC
                (by
                  intro e he
                  simp only [List.mem_cons, List.not_mem_nil, or_false] at he
                  rcases he with rfl | rfl
                  · exact hEv
                  · exact hEm)
                (by
                  intro g bs'' e x hx
                  simp only [List.mem_cons, List.not_mem_nil, or_false] at hx
                  rcases hx with rfl | rfl
                  · exact hsep g bs'' e
                  · exact hMl g bs'' e)
                (by simp) K3 (by omega) hb3 hown3 (hat2.imp id (fun e => by omega)) hown3h hblk4 hown4 hg4 (hat4.imp id (fun e => by omega))
              exact ⟨rfl, _, _, _, by simp; omega, hf1, fun k cur hk hkv => (hf2 k cur ((h5C k cur hk hkv).trans hk)).trans (h5C k cur hk hkv), hbC.trans hf3⟩
            · have hs1 := run_cut 25 22 Tryd.underlying25 (fun wx => by kernel_rfl) g2 o2 (ls.length + 2) fc2 (by omega) (by omega)
              have hs2 := run_cut 26 9 Tryd.underlying26 (fun wx => by kernel_rfl) g4 o4 (ls.length + 2) wc4 (by omega) (by omega)
              rw [Nat.add_sub_cancel] at hs1 hs2
              have vfz0 := (sh_cells hblk4).2.2.2.2.2 0
              go_wp2
              go_end0
              rw [← hhv] at hown3h hg4 hat4
              rw [← hlv] at hat2
              obtain ⟨hf1, hf2, hf3⟩ := keepB_shelf (es := [(.slice ao n n, bs'), (.slice (some ⟨gM, 0, none⟩) (n + 80) cM, ys)]) (N := ls.length + 2) (o := .cells #[.string ⟨bs'.toArray⟩, .string ⟨ys.toArray⟩] 9) hSC
                (by
                  intro e he
                  simp only [List.mem_cons, List.not_mem_nil, or_false] at he
                  rcases he with rfl | rfl
                  · exact hEv
                  · exact hEm)
                (by
                  intro g bs'' e x hx
                  simp only [List.mem_cons, List.not_mem_nil, or_false] at hx
                  rcases hx with rfl | rfl
                  · exact hsep g bs'' e
                  · exact hMl g bs'' e)
                (by simp) K3 (by omega) hb3 hown3 (hat2.imp id (fun e => by omega)) hown3h hblk4 hown4 hg4 (hat4.imp id (fun e => by omega))
              obtain ⟨hc1, hc2, hc3⟩ := hf1.cut (n := ls.length) (by simp)
              exact ⟨rfl, _, _, _, (by rw [List.length_drop, List.length_append]; show ls.length + 2 - 2 ≤ 8; omega), hc1, fun k cur hk hkv => (hc2 k (nes hk (by decide))).trans ((hf2 k cur ((h5C k cur hk hkv).trans hk)).trans (h5C k cur hk hkv)), hbC.trans (hf3.trans hc3)⟩
end Go.Proofs.YtboghanldbmfmabDoor
