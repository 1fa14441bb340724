import Derived.Test.YtcjgicfmfjomgaaCo
namespace Go.Proofs.Ytcjgicfmfjomgaa
open Go.RowKit Go.PlainAid Go.MapKept
set_option linter.unusedVariables false
set_option linter.unusedSimpArgs false
/-- A number brought below m. -/
def wl (x : Int) (m : Nat) : Nat := ((if x < 0 then -(x + 1) else x) % (m : Int)).toNat
theorem wl_lt (x : Int) {m : Nat} (hm : 1 ≤ m) : wl x m < m := by
  unfold wl
  obtain ⟨y, hy⟩ : ∃ y, y = (if x < 0 then -(x + 1) else x) := ⟨_, rfl⟩
  rw [← hy]
  have h1 := Int.emod_nonneg y (b := (m : Int)) (by omega)
  have h2 := Int.emod_lt_of_pos y (b := (m : Int)) (by omega)
  omega
set_option maxRecDepth 100000 in
theorem within_wl (x : Int) (m : Nat) (w : World) (hx : -9223372036854775808 ≤ x ∧ x ≤ 9223372036854775807) (hm : 1 ≤ m) (hm2 : m ≤ 1000000) : Calls Try.prog 15 #[.int .i64 x, .int .i64 0, .int .i64 ((m : Int) - 1)] w fun e w' => e = .returned (.int .i64 (wl x m : Int)) ∧ w' = w := by
  obtain ⟨h1, h2⟩ := hx
  have HW : Hid ((wl x m : Int) = (if x < 0 then -(x + 1) else x) % (m : Int)) := show _ = _ from by
    unfold wl
    exact Int.toNat_of_nonneg (Int.emod_nonneg _ (by omega))
  have HR : Hid (∀ y : Int, 0 ≤ y → 0 ≤ y.tmod m ∧ y.tmod m < m ∧ y.tmod m = y % m) := fun y hy => by
    rw [Int.tmod_eq_emod_of_nonneg hy]
    exact ⟨Int.emod_nonneg _ (by omega), Int.emod_lt_of_pos _ (by omega), rfl⟩
  by_cases h : x < 0
  · go_enter Try.func15, Try.ntmps15
    go_upto_region 3 with fail
    have ha : IntKind.i64.wrap ((m : Int) - 1 - 0) = (m : Int) - 1 := by rw [IntKind.wrap_i64]; omega
    go_wp2_with fail
    go_ret
    have h3 := HR.out (-(x + 1)) (by omega)
    refine ⟨?_, rfl⟩
    refine Eq.trans (b := Ending.returned (.int .i64 _)) rfl ?_
    congr 2
    rw [HW.out, if_pos (by omega), ← h3.2.2]
    rw [Int.neg_tmod] at h3 ⊢
    unfold wrap64
    omega
  · go_enter Try.func15, Try.ntmps15
    go_wp2_with fail
    go_ret
    have h3 := HR.out x (by omega)
    refine ⟨?_, rfl⟩
    refine Eq.trans (b := Ending.returned (.int .i64 _)) rfl ?_
    congr 2
    rw [HW.out, if_neg (by omega), ← h3.2.2]
    rw [Int.tmod_eq_emod_of_nonneg (by omega)] at h3 ⊢
    unfold wrap64
    omega
section
variable {L xb : Nat} {S : Ln} {col : Nat → Nat} {w w6 : World}
/-- What is under way has grown. -/
theorem LNM.setSent (h : LNM L xb S col w) {v6 : Value} {l : List Sgm} (hc : Chg (fun k => S.sv.ownBlock = some k) w w6) (hr : w6.ownsRow L 45 5 v6 l.length (flatG l)) (hat : ∀ k, v6.ownBlock = some k → S.sv.ownBlock = some k ∨ w.heap.size ≤ k) (hd : ∀ g ∈ l, w.ownsRow L 5 1 g.d.v g.d.s.length (g.d.s.map B)) (hcg : ∀ g ∈ l, ∀ k, g.d.v.ownBlock = some k → col k = 7) :
    ∃ col', LNM L xb { S with sv := v6, sent := l } col' (w6.setCell ⟨xb, 6, none⟩ v6) ∧ (∀ k, k < w.heap.size → col' k = col k) ∧ Blk w6 xb (lnbox S) 60 ∧ Chg (fun k => k = xb ∨ S.sv.ownBlock = some k) w (w6.setCell ⟨xb, 6, none⟩ v6) := by
  obtain ⟨col', hcol⟩ : ∃ col' : Nat → Nat, col' = fun k => if k < w.heap.size then col k else 6 := ⟨_, rfl⟩
  have hlow : ∀ k, k < w.heap.size → col' k = col k := fun k hk => by rw [hcol]; exact if_pos hk
  have hhi : ∀ k, w.heap.size ≤ k → col' k = 6 := fun k hk => by rw [hcol]; exact if_neg (by omega)
  have h' := h.recol hlow
  have hB6 : Blk w6 xb (lnbox S) 60 := hc.blk h.b (fun e => by have := h.cs xb e; have := h.cx; omega)
  have c6 := setCell_chg w6 xb 6 v6
  have hct : Chg (fun k => k = xb ∨ S.sv.ownBlock = some k) w (w6.setCell ⟨xb, 6, none⟩ v6) := (hc.mono (fun j _ e => Or.inr e)).trans (c6.mono (fun j _ e => Or.inl e)) (fun _ _ e => e)
  have hn : ∀ k, k < w.heap.size → col' k ≠ 0 → col' k ≠ 6 → (w6.setCell ⟨xb, 6, none⟩ v6).heap[k]? = w.heap[k]? := fun k hk h0 h6 => hct.block k hk (fun a => by
    rcases a with a | a
    · exact h0 (by rw [a]; exact h'.cx)
    · exact h6 (h'.cs k a))
  have hcs : ∀ k, v6.ownBlock = some k → col' k = 6 := fun k hk => by
    rcases hat k hk with q | q
    · exact h'.cs k q
    · exact hhi k q
  refine ⟨col', ⟨hB6.set 6 v6, fun i hi => (h'.em i hi).keep hct (fun k hk a => ?_), h'.ec, ?_, fun g hg => ?_, h.lo, h'.cx, hcs, fun g hg k hk => ?_⟩, hlow, hB6, hct⟩
  · rcases a with a | a
    · exact h'.ne_xb hi hk a
    · have h1 := h'.cs k a
      rcases (h'.ec i hi).of hk with q | q | q <;> omega
  · refine ownsRow_same hr (fun g e => c6.block g (ownsRow_lt hr e).2 (fun q => ?_))
    have h1 := hcs g e
    rw [q] at h1
    have := h'.cx
    omega
  · refine ownsRow_same (hd g hg) (fun k e => hn k (ownsRow_lt (hd g hg) e).2 ?_ ?_)
    · rw [hlow k (ownsRow_lt (hd g hg) e).2, hcg g hg k e]; omega
    · rw [hlow k (ownsRow_lt (hd g hg) e).2, hcg g hg k e]; omega
  · exact (hlow k (ownsRow_lt (hd g hg) hk).2).trans (hcg g hg k hk)
/-- What was handed in has grown. -/
theorem LNM.setIn (h : LNM L xb S col w) {i : Nat} (hi : i < 2) {v6 : Value} {l : List Dv} (hc : Chg (fun k => (S.e i).iv.ownBlock = some k) w w6) (hr : w6.ownsRow L 41 1 v6 l.length (l.map Dv.v)) (hat : ∀ k, v6.ownBlock = some k → (S.e i).iv.ownBlock = some k ∨ w.heap.size ≤ k) (hd : ∀ d ∈ l, w.ownsRow L 5 1 d.v d.s.length (d.s.map B)) (hcg : ∀ d ∈ l, ∀ k, d.v.ownBlock = some k → col k = 5) :
    ∃ col', LNM L xb (S.inI i v6 l) col' (w6.setCell ⟨xb, 2 + i, none⟩ v6) ∧ (∀ k, k < w.heap.size → col' k = col k) ∧ Blk w6 xb (lnbox S) 60 ∧ Chg (fun k => k = xb ∨ (S.e i).iv.ownBlock = some k) w (w6.setCell ⟨xb, 2 + i, none⟩ v6) := by
  obtain ⟨col', hcol⟩ : ∃ col' : Nat → Nat, col' = fun k => if k < w.heap.size then col k else 3 + i := ⟨_, rfl⟩
  have hlow : ∀ k, k < w.heap.size → col' k = col k := fun k hk => by rw [hcol]; exact if_pos hk
  have hhi : ∀ k, w.heap.size ≤ k → col' k = 3 + i := fun k hk => by rw [hcol]; exact if_neg (by omega)
  have h' := h.recol hlow
  have hB6 : Blk w6 xb (lnbox S) 60 := hc.blk h.b (fun e => by have := (h.ec i hi).ci xb e; have := h.cx; omega)
  have c6 := setCell_chg w6 xb (2 + i) v6
  have hct : Chg (fun k => k = xb ∨ (S.e i).iv.ownBlock = some k) w (w6.setCell ⟨xb, 2 + i, none⟩ v6) := (hc.mono (fun j _ e => Or.inr e)).trans (c6.mono (fun j _ e => Or.inl e)) (fun _ _ e => e)
  have hn : ∀ k, k < w.heap.size → col' k ≠ 0 → col' k ≠ 3 + i → (w6.setCell ⟨xb, 2 + i, none⟩ v6).heap[k]? = w.heap[k]? := fun k hk h0 h6 => hct.block k hk (fun a => by
    rcases a with a | a
    · exact h0 (by rw [a]; exact h'.cx)
    · exact h6 ((h'.ec i hi).ci k a))
  have hrow : ∀ {t z n : Nat} {u : Value} {xs : List Value}, w.ownsRow L t z u n xs → (∀ k, u.ownBlock = some k → col' k ≠ 0 ∧ col' k ≠ 3 + i) → (w6.setCell ⟨xb, 2 + i, none⟩ v6).ownsRow L t z u n xs := fun hq hk => ownsRow_same hq (fun g e => hn g (ownsRow_lt hq e).2 (hk g e).1 (hk g e).2)
  have hcs : ∀ k, v6.ownBlock = some k → col' k = 3 + i := fun k hk => by
    rcases hat k hk with q | q
    · exact (h'.ec i hi).ci k q
    · exact hhi k q
  have hcd : ∀ d ∈ l, ∀ k, d.v.ownBlock = some k → col' k = 5 := fun d hd' k hk => (hlow k (ownsRow_lt (hd d hd') hk).2).trans (hcg d hd' k hk)
  have hends : ∀ j, j < 2 → ∀ k, lown (S.e j).lb (S.e j).cb (S.e j).mb (S.e j).uv (S.e j).x k → ¬ (k = xb ∨ (S.e i).iv.ownBlock = some k) := fun j hj k hk a => by
    have h1 := (h'.ec j hj).ce k hk
    rcases a with a | a
    · rw [a] at h1
      have := h'.cx
      omega
    · have := (h'.ec i hi).ci k a
      omega
  refine ⟨col', ⟨?_, fun j hj => ?_, fun j hj => ?_, hrow h'.sr (fun k e => by rw [h'.cs k e]; omega), fun g hg => hrow (h'.sd g hg) (fun k e => by rw [h'.cg g hg k e]; omega), h.lo, h'.cx, h'.cs, h'.cg⟩, hlow, hB6, hct⟩
  · have h1 := hB6.set (2 + i) v6
    rcases (by omega : i = 0 ∨ i = 1) with rfl | rfl
    · exact h1
    · exact h1
  · by_cases e : j = i
    · subst e
      rw [Ln.inI_same]
      refine ⟨(h'.em j hj).lm.keep hct (hends j hj), ?_, fun d hd' => hrow (hd d hd') (fun k e => by rw [hcd d hd' k e]; omega)⟩
      refine ownsRow_same hr (fun g e => c6.block g (ownsRow_lt hr e).2 (fun q => ?_))
      have h1 := hcs g e
      rw [q] at h1
      have := h'.cx
      omega
    · rw [Ln.inI_ne _ _ _ e]
      refine (h'.em j hj).keep hct (fun k hk a => ?_)
      rcases a with a | a
      · exact h'.ne_xb hj hk a
      · have h1 := (h'.ec i hi).ci k a
        rcases (h'.ec j hj).of hk with q | q | q <;> omega
  · by_cases e : j = i
    · subst e
      rw [Ln.inI_same]
      exact ⟨(h'.ec j hj).ce, hcs, hcd⟩
    · rw [Ln.inI_ne _ _ _ e]
      exact h'.ec j hj
end
end Go.Proofs.Ytcjgicfmfjomgaa
