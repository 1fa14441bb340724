import Derived.Test.YtmnihombiabkgaaIx
namespace Go.Proofs.Ytmnihombiabkgaa
open Go.RowKit Go.PlainAid Go.MapKept
set_option linter.unusedVariables false
set_option linter.unusedSimpArgs false
def stay (now : Int) (l : List Tm) : List Tm := l.filter fun t => decide (t.due ≠ now)
theorem stay_all {now : Int} {l : List Tm} (h : ∀ x ∈ l, x.due ≠ now) : stay now l = l := List.filter_eq_self.2 (fun t ht => by simpa using h t ht)
theorem stay_len (now : Int) (l : List Tm) : (stay now l).length ≤ l.length := List.length_filter_le _ _
theorem stay_step {now : Int} {l : List Tm} {j : Nat} {x : Tm} (h : l[j]? = some x) : stay now (l.take (j + 1)) = if x.due = now then stay now (l.take j) else stay now (l.take j) ++ [x] := by
  unfold stay
  rw [List.take_add_one, h, List.filter_append]
  by_cases e : x.due = now <;> simp [e]
/-- The row within the loop. -/
structure DI (base g n c : Nat) (now : Int) (l : List Tm) (w : World) (j k : Nat) (wr : World) : Prop where
  ex : ∃ R : List Tm, R.length = n ∧ R.take k = stay now (l.take j) ∧ R.drop j = l.drop j ∧ wr.ownsRow base 50 4 (.slice (some ⟨g, 0, none⟩) n c) n (flatT R)
  hk : k = (stay now (l.take j)).length
  chg : Chg (fun b => b = g) w wr
theorem DI.more {base g n c : Nat} {now : Int} {l : List Tm} {w : World} {j k : Nat} {wr w' : World} (h : DI base g n c now l w j k wr) (hb : Below wr.heap.size wr w') : DI base g n c now l w j k w' := by
  obtain ⟨R, h1, h2, h3, h4⟩ := h.ex
  exact ⟨⟨R, h1, h2, h3, ownsRow_same h4 (fun g' e => hb.block g' (ownsRow_lt h4 e).2)⟩, h.hk, h.chg.trans (Chg.ofBelow _ hb) (fun _ _ e => e)⟩
theorem DI.skip {base g n c : Nat} {now : Int} {l : List Tm} {w : World} {j k : Nat} {wr : World} {x : Tm} (h : DI base g n c now l w j k wr) (hx : l[j]? = some x) (hd : x.due = now) : DI base g n c now l w (j + 1) k wr := by
  obtain ⟨R, h1, h2, h3, h4⟩ := h.ex
  have hs := stay_step (now := now) hx
  rw [if_pos hd] at hs
  refine ⟨⟨R, h1, by rw [hs]; exact h2, ?_, h4⟩, by rw [hs]; exact h.hk, h.chg⟩
  rw [← List.drop_drop, ← List.drop_drop, h3]
theorem DI.put {base g n c : Nat} {now : Int} {l : List Tm} {w : World} {j k : Nat} {wr : World} {x : Tm} (h : DI base g n c now l w j k wr) (hx : l[j]? = some x) (hd : x.due ≠ now) (hkj : k ≤ j) (hjn : j < n) :
    DI base g n c now l w (j + 1) (k + 1) ((((wr.setCell ⟨g, k * 4, none⟩ (.int .i64 x.due)).setCell ⟨g, k * 4 + 1, none⟩ (.int .i64 x.num)).setCell ⟨g, k * 4 + 2, none⟩ (.int .i64 x.kind)).setCell ⟨g, k * 4 + 3, none⟩ (.int .i64 x.id)) := by
  obtain ⟨R, h1, h2, h3, h4⟩ := h.ex
  have hs := stay_step (now := now) hx
  rw [if_neg hd] at hs
  obtain ⟨h5, _, h6⟩ := own_set4 h4 h1 (k := k) (by omega) x
  refine ⟨⟨R.set k x, by simp [h1], ?_, ?_, h5⟩, by rw [hs, List.length_append, ← h.hk]; rfl, h.chg.trans h6 (fun _ _ e => e)⟩
  · rw [hs, ← h2, List.take_add_one, List.getElem?_set_self (by omega), List.take_set_of_le (Nat.le_refl _)]
    rfl
  · rw [List.drop_set_of_lt (by omega), ← List.drop_drop, ← List.drop_drop, h3]
theorem DI.cells {base g n c : Nat} {now : Int} {l : List Tm} {w : World} {j k : Nat} {wr : World} {x : Tm} (h : DI base g n c now l w j k wr) (hx : l[j]? = some x) :
    wr.cell? ⟨g, j * 4, none⟩ = some (.int .i64 x.due) ∧ wr.cell? ⟨g, j * 4 + 1, none⟩ = some (.int .i64 x.num) ∧ wr.cell? ⟨g, j * 4 + 2, none⟩ = some (.int .i64 x.kind) ∧ wr.cell? ⟨g, j * 4 + 3, none⟩ = some (.int .i64 x.id) := by
  obtain ⟨R, h1, h2, h3, h4⟩ := h.ex
  have : R[j]? = some x := by
    have e := congrArg (fun q => q[0]?) h3
    simpa [List.getElem?_drop, hx] using e
  exact cellT h4 this
theorem DI.room {base g n c : Nat} {now : Int} {l : List Tm} {w : World} {j k : Nat} {wr : World} (h : DI base g n c now l w j k wr) (hk : k < n) : ∃ y : Tm, (wr.cell? ⟨g, k * 4, none⟩ = some (.int .i64 y.due) ∧ wr.cell? ⟨g, k * 4 + 1, none⟩ = some (.int .i64 y.num) ∧ wr.cell? ⟨g, k * 4 + 2, none⟩ = some (.int .i64 y.kind) ∧ wr.cell? ⟨g, k * 4 + 3, none⟩ = some (.int .i64 y.id)) ∧ ∀ q, wr.frozen? ⟨g, q, none⟩ = false := by
  obtain ⟨R, h1, h2, h3, h4⟩ := h.ex
  obtain ⟨y, hy⟩ : ∃ y, R[k]? = some y := ⟨R[k]'(by omega), List.getElem?_eq_getElem _⟩
  exact ⟨y, cellT h4 hy, (own_set4 h4 h1 hk y).2.1⟩
end Go.Proofs.Ytmnihombiabkgaa
