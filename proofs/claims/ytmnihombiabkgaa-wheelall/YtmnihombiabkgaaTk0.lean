import Derived.Test.YtmnihombiabkgaaDfw
import Derived.Test.YtmnihombiabkgaaCn
namespace Go.Proofs.Ytmnihombiabkgaa
open Go.RowKit Go.PlainAid Go.MapKept
set_option linter.unusedVariables false
set_option linter.unusedSimpArgs false
def comes (now : Int) (l : List Tm) : List Tm := l.filter fun t => decide (t.due = now)
theorem comes_step {now : Int} {l : List Tm} {j : Nat} {x : Tm} (h : l[j]? = some x) : comes now (l.take (j + 1)) = if x.due = now then comes now (l.take j) ++ [x] else comes now (l.take j) := by
  unfold comes
  rw [List.take_add_one, h, List.filter_append]
  by_cases e : x.due = now <;> simp [e]
theorem comes_len (now : Int) (l : List Tm) : (comes now l).length ≤ l.length := List.length_filter_le _ _
/-- Of the timers those that are not among the first k of the slot that are due. -/
def gk (now : Int) (l A : List Tm) (k : Nat) : List Tm := A.filter fun t => !(decide (t.due = now) && decide (t ∈ l.take k))
theorem gk_0 (now : Int) (l A : List Tm) : gk now l A 0 = A := List.filter_eq_self.2 (fun t _ => by simp)
theorem gk_up {now : Int} {l A : List Tm} {k : Nat} (h : Up A) : Up (gk now l A k) := h.sublist List.filter_sublist
theorem gk_skip {now : Int} {l A : List Tm} {k : Nat} {x : Tm} (h : l[k]? = some x) (hd : x.due ≠ now) : gk now l A (k + 1) = gk now l A k := by
  unfold gk
  refine List.filter_congr (fun t _ => ?_)
  rw [List.take_add_one, h]
  by_cases e : t.due = now
  · have : t ≠ x := fun e2 => hd (by rw [← e2]; exact e)
    simp [e, this]
  · simp [e]
theorem gk_due {now : Int} {l A : List Tm} {k : Nat} {x : Tm} (hu : Up A) (h : l[k]? = some x) (hx : x ∈ A) (hd : x.due = now) : gk now l A (k + 1) = gone x.num (gk now l A k) := by
  unfold gk gone
  rw [List.filter_filter]
  refine List.filter_congr (fun t ht => ?_)
  rw [List.take_add_one, h]
  by_cases e : t = x
  · subst e
    simp [hd]
  · have hn : t.num ≠ x.num := fun e2 => e (up_inj hu ht hx e2)
    simp [hn, e]
theorem gk_all {u now : Int} {A : List Tm} {p k : Nat} (hp : ∀ t ∈ A, t.due = now → pl u t = p) (hk : (slotOf u A p).length ≤ k) : gk now (slotOf u A p) A k = stay now A := by
  unfold gk stay
  refine List.filter_congr (fun t ht => ?_)
  rw [List.take_of_length_le hk]
  by_cases e : t.due = now
  · have : t ∈ slotOf u A p := slot_mem.2 ⟨ht, hp t ht e⟩
    simp [e, this]
  · simp [e]
theorem slot_stay (u now : Int) (A : List Tm) (p : Nat) : slotOf u (stay now A) p = stay now (slotOf u A p) := by
  unfold slotOf stay
  rw [List.filter_filter, List.filter_filter]
  congr 1
  funext t
  exact Bool.and_comm _ _
theorem slot_comes {u now : Int} {A : List Tm} {p : Nat} (hp : ∀ t ∈ A, t.due = now → pl u t = p) : comes now (slotOf u A p) = comes now A := by
  unfold slotOf comes
  rw [List.filter_filter]
  refine List.filter_congr (fun t ht => ?_)
  by_cases e : t.due = now
  · simp [e, hp t ht e]
  · simp [e]
/-- A tick's loop under way. -/
structure TI (base whb mp : Nat) (u : Int) (vs : List Value) (now last : Int) (A l : List Tm) (w : World) (k : Nat) (vd : Value) (wr : World) : Prop where
  wl : WL base whb mp u vs now last A ((gk now l A k).map (kvT u)) wr
  row : wr.ownsRow w.heap.size 50 4 vd (comes now (l.take k)).length (flatT (comes now (l.take k)))
  chg : Chg (wown whb mp vs) w wr
section
variable {base whb mp : Nat} {u : Int} {vs : List Value} {now last : Int} {A l : List Tm} {w : World} {k : Nat} {vd : Value} {wr w' : World} {x : Tm}
theorem TI.more (h : TI base whb mp u vs now last A l w k vd wr) (hb : Below wr.heap.size wr w') : TI base whb mp u vs now last A l w k vd w' :=
  ⟨h.wl.more hb, ownsRow_same h.row (fun g e => hb.block g (ownsRow_lt h.row e).2), h.chg.trans (Chg.ofBelow _ hb) (fun _ _ e => e)⟩
theorem TI.skip (h : TI base whb mp u vs now last A l w k vd wr) (hx : l[k]? = some x) (hd : x.due ≠ now) : TI base whb mp u vs now last A l w (k + 1) vd wr := by
  have e := comes_step (now := now) hx
  rw [if_neg hd] at e
  exact ⟨by rw [gk_skip hx hd]; exact h.wl, by rw [e]; exact h.row, h.chg⟩
/-- It is appended, and its number goes. -/
theorem TI.due (h : TI base whb mp u vs now last A l w k vd wr) (hlow : ∀ k, wown whb mp vs k → k < w.heap.size) (hu : Up A) (hx : l[k]? = some x) (hxA : x ∈ A) (hd : x.due = now) {vd' : Value} {w5 w6 : World}
    (ho : w5.ownsRow w.heap.size 50 4 vd' ((comes now (l.take k)).length + 1) (flatT (comes now (l.take k)) ++ x.row)) (hg : Grew wr w5 vd vd') (hm : HMap MI w6 mp (rmK x.num ((gk now l A k).map (kvT u)))) (hc : Chg (fun k => k = mp) w5 w6) :
    TI base whb mp u vs now last A l w (k + 1) vd' w6 := by
  have e := comes_step (now := now) hx
  rw [if_pos hd] at e
  have hvd : ∀ j, vd.ownBlock = some j → w.heap.size ≤ j := fun j hj => (ownsRow_lt h.row hj).1
  have h5 : WL base whb mp u vs now last A ((gk now l A k).map (kvT u)) w5 := h.wl.keep hg.chg (fun j hj hk => by have := hlow j hj; have := hvd j hk; omega)
  have hrm : rmK x.num ((gk now l A k).map (kvT u)) = (gk now l A (k + 1)).map (kvT u) := by rw [gk_due hu hx hxA hd]; exact rm_kv u x.num (gk_up hu)
  rw [hrm] at hm
  refine ⟨h5.map hc hm, ?_, ?_⟩
  · rw [e, flatT_app, List.length_append]
    have : flatT [x] = x.row := by simp [flatT]
    rw [this]
    refine ownsRow_same ho (fun g hg2 => hc.block g (ownsRow_lt ho hg2).2 (fun e2 => ?_))
    have h1 := (ownsRow_lt ho hg2).1
    have h2 := hlow mp (Or.inr (Or.inl rfl))
    omega
  · have a1 : Chg (wown whb mp vs) w w5 := h.chg.trans hg.chg (fun j hj hk => by have := hvd j hk; omega)
    exact a1.trans (hc.mono (B := wown whb mp vs) (fun j _ e => Or.inr (Or.inl e))) (fun _ _ e => e)
end
end Go.Proofs.Ytmnihombiabkgaa
