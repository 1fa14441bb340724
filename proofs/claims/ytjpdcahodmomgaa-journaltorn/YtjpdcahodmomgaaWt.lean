import Derived.Test.YtjpdcahodmomgaaDk6
namespace Go.Proofs.Ytjpdcahodmomgaa
open Go.RowKit Go.PlainAid
set_option linter.unusedVariables false
set_option linter.unusedSimpArgs false
theorem info30 : (Try.prog.info? 38).map (fun i => (i.zero, i.size, i.bytes)) = some (some (.slice none 0 0), 1, 24) := by kernel_rfl
/-- What is wanted of each sector. -/
structure WT (L : Nat) (wv : Value) (ds : List (Value × List UInt8)) (w : World) : Prop where
  row : w.ownsRow L 38 1 wv ds.length (ds.map Prod.fst)
  dt : ∀ d ∈ ds, w.ownsRow L 5 1 d.1 512 (d.2.map B)
theorem own_setV {w : World} {L n g cap k : Nat} {zs : List Value} (h : w.ownsRow L 38 1 (.slice (some ⟨g, 0, none⟩) n cap) n zs) (z : Value) :
    (w.setCell ⟨g, k, none⟩ z).ownsRow L 38 1 (.slice (some ⟨g, 0, none⟩) n cap) n (zs.set k z) ∧ w.frozen? ⟨g, k, none⟩ = false := by
  rcases h.2 with ⟨h1, _⟩ | ⟨g2, c, cur, h1, h2, h3, h4, h5, h6, h7⟩
  · cases h1
  · cases h1
    have hB : Blk w g cur 38 := h3
    refine ⟨⟨by simpa using h.1, Or.inr ⟨g, cap, cur.setIfInBounds k z, rfl, h2, hB.set k _, h4, h5, by simpa using h6, ?_⟩⟩, hB.frozen k⟩
    rw [Array.toList_setIfInBounds, List.take_set, h7]
theorem row_ne {w : World} {L e n k T : Nat} {v : Value} {xs : List Value} {C : Array Value} (h : w.ownsRow L e 1 v n xs) (hB : Blk w k C T) (hT : e ≠ T) {g : Nat} (hg : v.ownBlock = some g) : g ≠ k := by
  obtain ⟨cur, hcur⟩ := ownsRow_type h hg
  exact Blk.ne_t hcur hB hT
section
variable {L p s : Nat} {wv : Value} {ds : List (Value × List UInt8)} {w w' : World} {x : DV}
theorem WT.keep (h : WT L wv ds w) {S : Nat → Prop} (hc : Chg S w w') (hr : ∀ g, wv.ownBlock = some g → ¬ S g) (hd : ∀ d ∈ ds, ∀ g, d.1.ownBlock = some g → ¬ S g) : WT L wv ds w' := ⟨own_keep2 h.row hc hr, fun d hm => own_keep2 (h.dt d hm) hc (hd d hm)⟩
theorem WT.more (h : WT L wv ds w) (hb : Below w.heap.size w w') : WT L wv ds w' := h.keep (Chg.ofBelow (fun _ => False) hb) (fun _ _ e => e) (fun _ _ _ _ e => e)
/-- Rows stand where a disk changes. -/
theorem DM.not_row (h : DM L p s x w) {L' e n : Nat} {v : Value} {xs : List Value} (hr : w.ownsRow L' e 1 v n xs) (he : e ≠ 78 ∧ e ≠ 89) {g : Nat} (hg : v.ownBlock = some g) : ¬ down p s g := by
  obtain ⟨C, h1, _⟩ := h.box
  obtain ⟨R, h2, _⟩ := h.sec
  rintro (e1 | e1)
  · exact row_ne hr h1 he.1 hg e1
  · exact row_ne hr h2 he.2 hg e1
theorem WT.disk (h : WT L wv ds w) (hd : DM L p s x w) (hc : Chg (down p s) w w') : WT L wv ds w' := h.keep hc (fun g hg => hd.not_row h.row (by decide) hg) (fun d hm g hg => hd.not_row (h.dt d hm) (by decide) hg)
theorem WT.lt (h : WT L wv ds w) {g : Nat} (hg : wv.ownBlock = some g) : L ≤ g ∧ g < w.heap.size := ownsRow_lt h.row hg
theorem WT.at' (h : WT L wv ds w) {i : Nat} {d : Value × List UInt8} (hi : ds[i]? = some d) : ∃ g cap, wv = .slice (some ⟨g, 0, none⟩) ds.length cap ∧ w.cell? ⟨g, i, none⟩ = some d.1 ∧ w.frozen? ⟨g, i, none⟩ = false := by
  have hlt := (List.getElem?_eq_some_iff.1 hi).1
  rcases id h.row.2 with ⟨e, e0⟩ | ⟨g, c, cur, e, hrest⟩
  · omega
  · have hr := h.row
    rw [e] at hr
    refine ⟨g, c, e, ?_, (own_setV (k := i) hr d.1).2⟩
    have := hr.cells (g := g) rfl i d.1 (by rw [List.getElem?_map, hi]; rfl)
    rwa [addr_add, Nat.zero_add] at this
/-- One is put in another's place. -/
theorem WT.set {g cap n : Nat} (h : WT L (.slice (some ⟨g, 0, none⟩) n cap) ds w) {i : Nat} (hn : ds.length = n) {v : Value} {bs : List UInt8} (hv : w.ownsRow L 5 1 v 512 (bs.map B)) : WT L (.slice (some ⟨g, 0, none⟩) n cap) (ds.set i (v, bs)) (w.setCell ⟨g, i, none⟩ v) ∧ Chg (fun k => k = g) w (w.setCell ⟨g, i, none⟩ v) := by
  have hr := h.row
  rw [hn] at hr
  have hs := (own_setV (k := i) hr v).1
  obtain ⟨cur, hcur⟩ := ownsRow_type hr (g := g) rfl
  have hch := setCell_chg w g i v
  have hk : ∀ {v' : Value} {bs' : List UInt8}, w.ownsRow L 5 1 v' 512 (bs'.map B) → (w.setCell ⟨g, i, none⟩ v).ownsRow L 5 1 v' 512 (bs'.map B) := fun h' => own_keep2 h' hch (fun k hk => row_ne h' (show Blk w g cur 38 from hcur) (by decide) hk)
  refine ⟨⟨?_, fun d hm => ?_⟩, hch⟩
  · rw [List.length_set, hn, List.map_set]
    exact hs
  · rcases List.mem_or_eq_of_mem_set hm with h1 | h1
    · exact hk (h.dt d h1)
    · subst h1
      exact hk hv
theorem DM.notRow30 (h : DM L p s x w) (hw : WT L wv ds w) (hc : Chg (fun k => wv.ownBlock = some k) w w') : DM L p s x w' := h.keep hc (fun k hk hg => h.not_row hw.row (by decide) hg hk)
/-- One more. -/
theorem WT.add (h : WT L wv ds w) (hL : L ≤ w.heap.size) {v : Value} {bs : List UInt8} (hv : w.ownsRow L 5 1 v 512 (bs.map B)) (hl : ds.length ≤ 1000) :
    ∃ v' w', (∀ ty, (Builtin.append_ #[30, 30] ty #[wv, .slice (some ⟨w.heap.size, 0, none⟩) 1 1]).run Try.prog (w.alloc (.cells #[v] 38)) = .ok v' w') ∧ WT L v' (ds ++ [(v, bs)]) w' ∧ Grew w w' wv v' := by
  have hal : Below w.heap.size w (w.alloc (.cells #[v] 38)) := (Below.refl _ _).alloc (Nat.le_refl _) _
  have h1 : ∃ so sk sc, v = .slice so sk sc := by obtain ⟨a, c, e, _⟩ := own_slice hv; exact ⟨a, 512, c, e⟩
  obtain ⟨v', w', a, b, c⟩ := app_rows (w := w.alloc (.cells #[v] 38)) 30 38 (.slice none 0 0) 1 24 Try.underlying30 info30 rfl (by decide) (by decide) (h.row.alloc _) (ao := some ⟨w.heap.size, 0, none⟩) (m := 1) (cap := 1) (ys := [v]) rfl (fun e => by cases e) (fun ad e j u hu => by
    cases e
    have hB : Blk (w.alloc (.cells #[v] 38)) w.heap.size #[v] 38 := heap_alloc_new w _
    rw [addr_add, Nat.zero_add, hB.cell j]
    cases j with
    | zero => simpa using hu
    | succ j => simp at hu) (fun u hu => by
      obtain ⟨so, sk, sc, e⟩ := h1
      rw [List.mem_singleton.1 hu, e]
      rfl) (by omega) (by rw [World.size_alloc]; omega)
  have hg := c.ofAlloc
  refine ⟨v', w', a, ⟨?_, fun d hm => ?_⟩, hg⟩
  · rw [List.length_append, List.map_append]
    exact b
  · have hk : ∀ {v' : Value} {bs' : List UInt8}, w.ownsRow L 5 1 v' 512 (bs'.map B) → w'.ownsRow L 5 1 v' 512 (bs'.map B) := fun h' => own_keep2 h' hg.chg (fun k hk hk2 => by
      obtain ⟨cur, hcur⟩ := ownsRow_type h.row hk2
      exact row_ne h' (show Blk w k cur 38 from hcur) (by decide) hk rfl)
    rcases List.mem_append.1 hm with h2 | h2
    · exact hk (h.dt d h2)
    · rw [List.mem_singleton.1 h2]
      exact hk hv
end
end Go.Proofs.Ytjpdcahodmomgaa
