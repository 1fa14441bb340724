import Derived.Test.YtboghanldbmfmabDoorStands2
import Derived.Deep.RegionLaw
import Derived.Deep.AppendLies
namespace Go.Proofs.YtboghanldbmfmabDoor
open Go.RowKit

theorem Tryd.info22 : (Tryd.prog.info? 22).map (fun i => (i.zero, i.size, i.bytes)) = some (some (.slice none 0 0), 1, 24) := by kernel_rfl
theorem Tryd.info9 : (Tryd.prog.info? 9).map (fun i => (i.zero, i.size, i.bytes)) = some (some (.string ⟨#[]⟩), 1, 16) := by kernel_rfl

theorem new_cell {w : World} {c : Array Value} {t : TypeId} {l : List Value} (h : c.toList = l) (j : Nat) (u : Value) (hu : l[j]? = some u) :
    (w.alloc (.cells c t)).cell? ((⟨w.heap.size, 0, none⟩ : Addr).add j) = some u := by
  have hadd : (⟨w.heap.size, 0, none⟩ : Addr).add j = ⟨w.heap.size, j, none⟩ := by unfold Addr.add; split <;> simp_all
  rw [hadd, cell_of_row _ w.heap.size j c t (0, 0) (heap_alloc_new w _), ← hu, ← h]
  simp

/-- A row of the law's own is a slice that shows its form. -/
theorem own_val {w : World} {L e n : Nat} {v : Value} {xs : List Value} (h : w.ownsRow L e 1 v n xs) : ∃ ao cap, v = .slice ao n cap := by
  obtain ⟨ao, cap, rfl, _⟩ := own_form h
  exact ⟨ao, cap, rfl⟩

theorem sh_cells {w : World} {s : Nat} {a0 a1 a2 a3 a4 a5 : Value} (h : w.heap[s]? = some (.cells #[a0, a1, a2, a3, a4, a5] 28 (0, 0))) :
    w.cell? ⟨s, 0, none⟩ = some a0 ∧ w.cell? ⟨s, 1, none⟩ = some a1 ∧ w.cell? ⟨s, 2, none⟩ = some a2 ∧ w.cell? ⟨s, 4, none⟩ = some a4 ∧ w.cell? ⟨s, 5, none⟩ = some a5 ∧ ∀ o, w.frozen? ⟨s, o, none⟩ = false := by
  refine ⟨?_, ?_, ?_, ?_, ?_, ?_⟩
  · rw [cell_of_row w s 0 _ 28 (0, 0) h]; rfl
  · rw [cell_of_row w s 1 _ 28 (0, 0) h]; rfl
  · rw [cell_of_row w s 2 _ 28 (0, 0) h]; rfl
  · rw [cell_of_row w s 4 _ 28 (0, 0) h]; rfl
  · rw [cell_of_row w s 5 _ 28 (0, 0) h]; rfl
  · intro o; simp [World.frozen?, h]
theorem sh_set2 {w : World} {s : Nat} {a0 a1 a2 a3 a4 a5 : Value} (h : w.heap[s]? = some (.cells #[a0, a1, a2, a3, a4, a5] 28 (0, 0))) (v : Value) : (w.setCell ⟨s, 2, none⟩ v).heap[s]? = some (.cells #[a0, a1, v, a3, a4, a5] 28 (0, 0)) := by
  simp [World.setCell, Array.getElem?_modify, h]
theorem sh_set4 {w : World} {s : Nat} {a0 a1 a2 a3 a4 a5 : Value} (h : w.heap[s]? = some (.cells #[a0, a1, a2, a3, a4, a5] 28 (0, 0))) (v : Value) : (w.setCell ⟨s, 4, none⟩ v).heap[s]? = some (.cells #[a0, a1, a2, a3, v, a5] 28 (0, 0)) := by
  simp [World.setCell, Array.getElem?_modify, h]
theorem sh_set5 {w : World} {s : Nat} {a0 a1 a2 a3 a4 a5 : Value} (h : w.heap[s]? = some (.cells #[a0, a1, a2, a3, a4, a5] 28 (0, 0))) (v : Value) : (w.setCell ⟨s, 5, none⟩ v).heap[s]? = some (.cells #[a0, a1, a2, a3, a4, v] 28 (0, 0)) := by
  simp [World.setCell, Array.getElem?_modify, h]
theorem sh_set0 {w : World} {s : Nat} {a0 a1 a2 a3 a4 a5 : Value} (h : w.heap[s]? = some (.cells #[a0, a1, a2, a3, a4, a5] 28 (0, 0))) (v : Value) : (w.setCell ⟨s, 0, none⟩ v).heap[s]? = some (.cells #[v, a1, a2, a3, a4, a5] 28 (0, 0)) := by
  simp [World.setCell, Array.getElem?_modify, h]
theorem sh_set1 {w : World} {s : Nat} {a0 a1 a2 a3 a4 a5 : Value} (h : w.heap[s]? = some (.cells #[a0, a1, a2, a3, a4, a5] 28 (0, 0))) (v : Value) : (w.setCell ⟨s, 1, none⟩ v).heap[s]? = some (.cells #[a0, v, a2, a3, a4, a5] 28 (0, 0)) := by
  simp [World.setCell, Array.getElem?_modify, h]

theorem grown_keep {w w' : World} {o : Obj} {row : Option Nat} (hg : (w.alloc o).grownBy w' row) {k : Nat} (hk : k < w.heap.size) (hne : row ≠ some k) : w'.heap[k]? = w.heap[k]? := by
  rw [hg.block k (by simp; omega) (fun e => hne e.symm), Below.heap_alloc w _ k hk]
theorem own_ne {w : World} {L e k : Nat} {v : Value} {xs : List Value} (h : w.ownsRow L e 1 v k xs) {g : Nat} {cur : Array Value} {t : Nat} (hg : w.heap[g]? = some (.cells cur t (0, 0))) (ht : t ≠ e) : v.ownBlock ≠ some g := by
  intro hh
  obtain ⟨_, cur', h'⟩ := own_blk h hh
  rw [hg] at h'; simp at h'; exact ht h'.2

/-- What lies there when the answer has been put beside the others. -/
theorem keepA_shelf {L s : Nat} {w w3 w4 : World} {m : Nat} {lv hv : Value} {ls : List (Value × List UInt8)} {lent : Option (Nat × List UInt8)} {fv wv : Value} {fs : List (Value × List UInt8)} {v : Value} {bs : List UInt8} {g2 fc2 g4 wc4 : Nat} {o : Obj}
    (hS : Shelf L s w m lv hv ls lent fv wv fs) (hm : m < 1000) (hE : Ent L w v bs) (hsep : ∀ g bs', lent = some (g, bs') → v.ownBlock ≠ some g)
    (K3 : ∀ k, k < w.heap.size → k ≠ s → fv.ownBlock ≠ some k → w3.heap[k]? = w.heap[k]?) (hz : w.heap.size ≤ w3.heap.size) (hb3 : Below L w w3)
    (hown3 : w3.ownsRow L 22 1 (.slice (some ⟨g2, 0, none⟩) (fs.length + 1) fc2) (fs.length + 1) (fs.map (·.1) ++ [v])) (hat2 : fv.ownBlock = some g2 ∨ w.heap.size ≤ g2)
    (hown3w : w3.ownsRow L 9 1 wv fs.length (fs.map fun e => StrV e.2))
    (hblk4 : w4.heap[s]? = some (.cells #[lv, hv, .int .i64 ((m : Int) + 1), lentV lent, .slice (some ⟨g2, 0, none⟩) (fs.length + 1) fc2, wv] 28 (0, 0)))
    (hown4 : w4.ownsRow L 9 1 (.slice (some ⟨g4, 0, none⟩) (fs.length + 1) wc4) (fs.length + 1) ((fs.map fun e => StrV e.2) ++ [StrV bs])) (hg4 : (w3.drew.alloc o).grownBy w4 wv.ownBlock) (hat4 : wv.ownBlock = some g4 ∨ w.heap.size ≤ g4) :
    Shelf L s (w4.setCell ⟨s, 5, none⟩ (.slice (some ⟨g4, 0, none⟩) (fs.length + 1) wc4)) (m + 1) lv hv ls lent (.slice (some ⟨g2, 0, none⟩) (fs.length + 1) fc2) (.slice (some ⟨g4, 0, none⟩) (fs.length + 1) wc4) (fs ++ [(v, bs)]) ∧
      (∀ (k : Nat) (cur : Array Value), w.heap[k]? = some (Obj.cells cur 5 (0, 0)) → (w4.setCell ⟨s, 5, none⟩ (.slice (some ⟨g4, 0, none⟩) (fs.length + 1) wc4)).heap[k]? = w.heap[k]?) ∧
      Below L w (w4.setCell ⟨s, 5, none⟩ (.slice (some ⟨g4, 0, none⟩) (fs.length + 1) wc4)) := by
  have hkF : ∀ k, k ≠ s → (w4.setCell ⟨s, 5, none⟩ (.slice (some ⟨g4, 0, none⟩) (fs.length + 1) wc4)).heap[k]? = w4.heap[k]? := fun k hk => Below.heap_setCell _ _ _ _ hk
  have lt : ∀ {w : World} {g : Nat} {o : Obj}, w.heap[g]? = some o → g < w.heap.size := fun h => (Array.getElem?_eq_some_iff.1 h).1
  have hall : ∀ k, k < w.heap.size → k ≠ s → fv.ownBlock ≠ some k → wv.ownBlock ≠ some k → (w4.setCell ⟨s, 5, none⟩ (.slice (some ⟨g4, 0, none⟩) (fs.length + 1) wc4)).heap[k]? = w.heap[k]? := by
    intro k hk hks h1 h2
    rw [hkF k hks, grown_keep (w := w3.drew) hg4 (by simp; omega) h2]
    exact K3 k hk hks h1
  have nes : ∀ {k : Nat} {cur : Array Value} {t : Nat}, w.heap[k]? = some (.cells cur t (0, 0)) → t ≠ 28 → k ≠ s := by
    intro k cur t hk ht e
    have hblk := hS.blk
    subst e; rw [hblk] at hk; simp at hk; exact ht hk.2.symm
  have nes4 : ∀ {k : Nat} {cur : Array Value} {t : Nat}, w4.heap[k]? = some (.cells cur t (0, 0)) → t ≠ 28 → k ≠ s := by
    intro k cur t hk ht e
    subst e; rw [hblk4] at hk; simp at hk; exact ht hk.2.symm
  have h5 : ∀ (k : Nat) (cur : Array Value), w.heap[k]? = some (Obj.cells cur 5 (0, 0)) → (w4.setCell ⟨s, 5, none⟩ (.slice (some ⟨g4, 0, none⟩) (fs.length + 1) wc4)).heap[k]? = w.heap[k]? := fun k cur hk =>
    hall k (lt hk) (nes hk (by decide)) (own_ne hS.left hk (by decide)) (own_ne hS.were hk (by decide))
  have hEs : ∀ {x : Value} {y : List UInt8}, Ent L w x y → Ent L (w4.setCell ⟨s, 5, none⟩ (.slice (some ⟨g4, 0, none⟩) (fs.length + 1) wc4)) x y := fun he => he.same fun g hg => by
    obtain ⟨_, cur, hh⟩ := he.lt hg
    exact h5 g cur hh
  have hlen : (fs ++ [(v, bs)]).length = fs.length + 1 := by simp
  refine ⟨⟨?_, hS.base, by omega, tail_same hS.lists ?_, tail_same hS.holds ?_, ?_, ?_, ?_, ?_, ?_, hS.lsep, ?_, ?_, ?_⟩, h5, ?_⟩
  · rw [sh_set5 hblk4]
    congr 3
  · intro g hg
    obtain ⟨_, cur, hh⟩ := tail_blk hS.lists hg
    exact hall g (lt hh) (nes hh (by decide)) (hS.rows g hg) (own_ne hS.were hh (by decide))
  · intro g hg
    obtain ⟨_, cur, hh⟩ := tail_blk hS.holds hg
    exact hall g (lt hh) (nes hh (by decide)) (own_ne hS.left hh (by decide)) (hS.rowh g hg)
  · rw [hlen, List.map_append]
    refine own_same hown3 fun g hg => ?_
    obtain ⟨_, cur, hh⟩ := own_blk hown3 hg
    have e1 := grown_keep (w := w3.drew) hg4 (k := g) (by simpa using lt hh) (own_ne hown3w hh (by decide))
    rw [hkF g (nes4 (e1.trans hh) (by decide))]
    exact e1
  · rw [hlen, List.map_append]
    refine own_same hown4 fun g hg => ?_
    obtain ⟨_, cur, hh⟩ := own_blk hown4 hg
    exact hkF g (nes4 hh (by decide))
  · intro g bs' e
    obtain ⟨h1, h2⟩ := hS.lentR g bs' e
    refine ⟨h1, ?_⟩
    unfold Row at *
    rw [h5 g _ h2, h2]
  · intro e he; exact hEs (hS.lsE e he)
  · intro e he
    rcases List.mem_append.1 he with h | h
    · exact hEs (hS.fsE e h)
    · rw [List.mem_singleton.1 h]; exact hEs hE
  · intro g bs' e x hx
    rcases List.mem_append.1 hx with h | h
    · exact hS.fsep g bs' e x h
    · rw [List.mem_singleton.1 h]; exact hsep g bs' e
  · intro g hg hh
    have hh' : g2 = g := by simpa [Value.ownBlock] using hh
    subst hh'
    obtain ⟨_, cur, hc⟩ := tail_blk hS.lists hg
    have := lt hc
    rcases hat2 with h | h
    · exact hS.rows g2 hg h
    · omega
  · intro g hg hh
    have hh' : g4 = g := by simpa [Value.ownBlock] using hh
    subst hh'
    obtain ⟨_, cur, hc⟩ := tail_blk hS.holds hg
    have := lt hc
    rcases hat4 with h | h
    · exact hS.rowh g4 hg h
    · omega
  · have hb3s := hb3.size
    have hLw : L ≤ w3.heap.size := by have := lt hS.blk; have := hS.base; omega
    exact ((hb3.drew.alloc hLw _).grown hg4 (by simp; omega) (fun k h => (hown3w.lt k h).1)).setCell hS.base _

set_option maxHeartbeats 1000000 in
theorem keepA_any (L s : Nat) (w : World) (m : Nat) (lv hv : Value) (ls : List (Value × List UInt8)) (lent : Option (Nat × List UInt8)) (fv wv : Value) (fs : List (Value × List UInt8))
    (ao : Option Addr) (n cap : Nat) (bs : List UInt8) (hS : Shelf L s w m lv hv ls lent fv wv fs) (hm : m < 1000) (hm3 : (m + 1) % 3 ≠ 0) (hfl : fs.length ≤ 1000) (hE : Ent L w (.slice ao n cap) bs)
    (hsep : ∀ g bs', lent = some (g, bs') → (Value.slice ao n cap).ownBlock ≠ some g) :
    Calls Tryd.prog 20 #[.pointer (some ⟨s, 0, none⟩), .slice ao n cap] w fun e w' => e = .returned (.tuple #[]) ∧ ∃ fv' wv', Shelf L s w' (m + 1) lv hv ls lent fv' wv' (fs ++ [(.slice ao n cap, bs)]) ∧
      (∀ (k : Nat) (cur : Array Value), w.heap[k]? = some (Obj.cells cur 5 (0, 0)) → w'.heap[k]? = w.heap[k]?) ∧ Below L w w' := by
  have hblk := hS.blk
  obtain ⟨_, _, c2, _, _, hfz⟩ := sh_cells hblk
  have hfz2 := hfz 2
  obtain ⟨i0, hi, hz0, hz1, hz2⟩ := info_parts Tryd.info22
  obtain ⟨j0, gi, gz0, gz1, gz2⟩ := info_parts Tryd.info9
  have hLs := hS.base
  have hsl : s < w.heap.size := (Array.getElem?_eq_some_iff.1 hblk).1
  obtain ⟨fo, fc, hfv⟩ := own_val hS.left
  obtain ⟨wo, wc, hwv⟩ := own_val hS.were
  have hm3b : (((m : Int) + 1) % 3 != 0) = true := by rw [bne_iff_ne]; omega
  have nes : ∀ {k : Nat} {cur : Array Value} {t : Nat}, w.heap[k]? = some (.cells cur t (0, 0)) → t ≠ 28 → k ≠ s := by
    intro k cur t hk ht e
    subst e; rw [hblk] at hk; simp at hk; exact ht hk.2.symm
  -- the mark
  have hblk1 := sh_set2 hblk (.int .i64 ((m : Int) + 1))
  have hk1 : ∀ k, k ≠ s → (w.setCell ⟨s, 2, none⟩ (.int .i64 ((m : Int) + 1))).heap[k]? = w.heap[k]? := fun k hk => Below.heap_setCell _ _ _ _ hk
  have hz1s : (w.setCell ⟨s, 2, none⟩ (.int .i64 ((m : Int) + 1))).heap.size = w.heap.size := by simp [World.setCell]
  have hb1 : Below L w (w.setCell ⟨s, 2, none⟩ (.int .i64 ((m : Int) + 1))) := (Below.refl _ _).setCell hLs _
  generalize hw1 : w.setCell ⟨s, 2, none⟩ (.int .i64 ((m : Int) + 1)) = w1 at *
  have hown1 : w1.ownsRow L 22 1 fv fs.length (fs.map (·.1)) := own_same hS.left fun g hg => by
    obtain ⟨_, cur, hh⟩ := own_blk hS.left hg
    exact hk1 g (nes hh (by decide))
  have hown1w : w1.ownsRow L 9 1 wv fs.length (fs.map fun e => StrV e.2) := own_same hS.were fun g hg => by
    obtain ⟨_, cur, hh⟩ := own_blk hS.were hg
    exact hk1 g (nes hh (by decide))
  obtain ⟨_, _, d2, d4, d5, dfz⟩ := sh_cells hblk1
  have dfz4 := dfz 4
  have hLw : L ≤ w1.heap.size := by omega
  have hzA : w.heap.size ≤ w1.heap.size := by omega
  clear hz1s
  rw [hfv] at d4 hown1
  go_enter Tryd.func20, Tryd.ntmps20
  go_wp2_with (first
    | (at_builtin; go_must (refine wpList_append_lies _ rfl _ _ 25 rfl L 22 i0 _ 1 24 Tryd.underlying25 hi hz0 hz1 hz2 rfl (by decide) _ _ _ rfl (hown1.alloc _) ⟨w1.heap.size, 0, none⟩ 1 1 [.slice ao n cap] rfl rfl (new_cell rfl) (by intro u hu; simp at hu; subst hu; rfl) (by decide) (by unfold maxLen; omega) (by omega) (by simp; omega) (w1.heap.size + 1) (by simp) ?_))
    | fail)
  intro g2 fc2 w2 hown2 hg2 hat2 hlt2
  have K2 : ∀ k, k < w.heap.size → k ≠ s → (Value.slice fo fs.length fc).ownBlock ≠ some k → w2.heap[k]? = w.heap[k]? := fun k hk hks hkf =>
    (grown_keep hg2 (by omega) hkf).trans (hk1 k hks)
  have hblk2 : w2.heap[s]? = some (.cells #[lv, hv, .int .i64 ((m : Int) + 1), lentV lent, fv, wv] 28 (0, 0)) := by
    rw [grown_keep hg2 (by omega) (own_ne hown1 hblk1 (by decide)), hblk1]
  have hown2w : w2.ownsRow L 9 1 wv fs.length (fs.map fun e => StrV e.2) := own_same hown1w fun g hg => by
    obtain ⟨_, cur, hh⟩ := own_blk hown1w hg
    exact grown_keep hg2 (Array.getElem?_eq_some_iff.1 hh).1 (own_ne hown1 hh (by decide))
  have hblk3 := sh_set4 hblk2 (.slice (some ⟨g2, 0, none⟩) (fs.length + 1) fc2)
  obtain ⟨_, _, _, x4, _, xfz⟩ := sh_cells hblk2
  have xfz4 := xfz 4
  rw [hfv] at x4
  have hzB : w1.heap.size + 1 ≤ w2.heap.size := by have := hg2.size; simpa using this
  have hnb : bs.length = n := by obtain ⟨_, _, _, e, hn', _⟩ := hE; cases e; exact hn'
  have hk3 : ∀ k, k ≠ s → (w2.setCell ⟨s, 4, none⟩ (.slice (some ⟨g2, 0, none⟩) (fs.length + 1) fc2)).heap[k]? = w2.heap[k]? := fun k hk => Below.heap_setCell _ _ _ _ hk
  have hz3 : (w2.setCell ⟨s, 4, none⟩ (.slice (some ⟨g2, 0, none⟩) (fs.length + 1) fc2)).heap.size = w2.heap.size := by simp [World.setCell]
  have hb2 : Below L w w2 := (hb1.alloc (by omega) _).grown hg2 (by simp; omega) (fun k h => (hown1.lt k h).1)
  have hb3 : Below L w (w2.setCell ⟨s, 4, none⟩ (.slice (some ⟨g2, 0, none⟩) (fs.length + 1) fc2)) := hb2.setCell hLs _
  have nes2 : ∀ {k : Nat} {cur : Array Value} {t : Nat}, w2.heap[k]? = some (.cells cur t (0, 0)) → t ≠ 28 → k ≠ s := by
    intro k cur t hk ht e
    subst e; rw [hblk2] at hk; simp at hk; exact ht hk.2.symm
  clear hw1 hown1w
  go_wp2_with fail
  generalize w2.setCell ⟨s, 4, none⟩ (.slice (some ⟨g2, 0, none⟩) (fs.length + 1) fc2) = w3 at *
  have K3 : ∀ k, k < w.heap.size → k ≠ s → (Value.slice fo fs.length fc).ownBlock ≠ some k → w3.heap[k]? = w.heap[k]? := fun k hk hks hkf => (hk3 k hks).trans (K2 k hk hks hkf)
  have hown3w : w3.ownsRow L 9 1 wv fs.length (fs.map fun e => StrV e.2) := own_same hown2w fun g hg => by
    obtain ⟨_, cur, hh⟩ := own_blk hown2w hg
    exact hk3 g (nes2 hh (by decide))
  have hown3 : w3.ownsRow L 22 1 (.slice (some ⟨g2, 0, none⟩) (fs.length + 1) fc2) (fs.length + 1) (fs.map (·.1) ++ [.slice ao n cap]) := own_same hown2 fun g hg => by
    obtain ⟨_, cur, hh⟩ := own_blk hown2 hg
    exact hk3 g (nes2 hh (by decide))
  have hE3 : Ent L w3 (.slice ao n cap) bs := hE.same fun g hg => by
    obtain ⟨hgl, cur, hh⟩ := hE.lt hg
    exact K3 g hgl (nes hh (by decide)) (by rw [← hfv]; exact own_ne hS.left hh (by decide))
  have hs3 : Src w3.drew ao bs := by obtain ⟨_, _, _, e, _, _, _, hs', _⟩ := hE3; cases e; exact hs'
  have kc := conv_run w3.drew ao n cap bs hnb hs3
  obtain ⟨_, _, _, _, y5, yfz⟩ := sh_cells hblk3
  have yfz5 := yfz 5
  rw [hwv] at y5 hown3w
  have hLw3 : L ≤ w3.heap.size := by omega
  have hz3' : w2.heap.size ≤ w3.heap.size := by omega
  clear hz3
  have HB3 : Hid _ := hblk3
  have y5a : (w3.alloc (.cells #[.string ⟨bs.toArray⟩] 9)).cell? ⟨s, 5, none⟩ = some (.slice wo fs.length wc) := (((Below.refl w3.heap.size w3).alloc (Nat.le_refl _) _).cell (by simp; omega)).trans y5
  go_region_law (refine step_append_lies _ rfl (.tmp 34) (.tmp 37) 26 rfl L 9 j0 _ 1 16 Tryd.underlying26 gi gz0 gz1 gz2 rfl (by decide) _ fs.length _ rfl (hown3w.drew.alloc _) ⟨w3.heap.size, 0, none⟩ 1 1 [.string ⟨bs.toArray⟩] rfl rfl (new_cell rfl) (by intro u hu; simp at hu; subst hu; rfl) (by decide) (by unfold maxLen; omega) (by omega) (by simp; omega) (w3.heap.size + 1) (by simp) ?_; intro g4 wc4 w4 hown4 hg4 hat4 hlt4; have hblk4 := (grown_keep (w := w3.drew) hg4 (k := s) (by simp; omega) (own_ne hown3w HB3.out (by decide))).trans HB3.out; have z5 := (sh_cells hblk4).2.2.2.2.1; have zfz5 := (sh_cells hblk4).2.2.2.2.2 5)
  all_goals
    go_wp2
    refine bodyPost_ret (results_none rfl _ _ _) rfl ?_
    rw [← hwv] at hown3w hg4 hat4
    rw [← hfv] at hat2
    have K3' : ∀ k, k < w.heap.size → k ≠ s → fv.ownBlock ≠ some k → w3.heap[k]? = w.heap[k]? := fun k h1 h2 h3 => K3 k h1 h2 (by rw [← hfv]; exact h3)
    exact ⟨rfl, _, _, keepA_shelf (o := .cells #[.string ⟨bs.toArray⟩] 9) hS hm hE hsep K3' (by omega) hb3 hown3 (hat2.imp id (fun e => by omega)) hown3w hblk4 hown4 hg4 (hat4.imp id (fun e => by omega))⟩
end Go.Proofs.YtboghanldbmfmabDoor
