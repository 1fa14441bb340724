import Derived.Test.YtgnkkpcklljffaaDoorSound0
namespace Go.Proofs.YtgnkkpcklljffaaDoor
open Go.RowKit Go.PlainAid
set_option linter.unusedVariables false
set_option linter.unusedSimpArgs false
/-- A sum over the ledgers. -/
def fsum (f : LS → Int) : List LS → Int
  | [] => 0
  | s :: r => f s + fsum f r
theorem fsum_set (f : LS → Int) : ∀ (ls : List LS) (i : Nat) (s s' : LS), ls[i]? = some s → fsum f (ls.set i s') = fsum f ls - f s + f s'
  | [], i, s, s', h => by simp at h
  | x :: r, 0, s, s', h => by
    simp at h; subst h
    simp only [List.set_cons_zero, fsum]; omega
  | x :: r, i + 1, s, s', h => by
    simp only [List.getElem?_cons_succ] at h
    simp only [List.set_cons_succ, fsum, fsum_set f r i s s' h]; omega
theorem fsum_nonneg (f : LS → Int) : ∀ (ls : List LS), (∀ s ∈ ls, 0 ≤ f s) → 0 ≤ fsum f ls
  | [], _ => by simp [fsum]
  | x :: r, h => by
    have h1 := h x (by simp)
    have h2 := fsum_nonneg f r fun s hs => h s (by simp [hs])
    simp only [fsum]; omega
theorem fsum_mem (f : LS → Int) : ∀ (ls : List LS), (∀ s ∈ ls, 0 ≤ f s) → ∀ s ∈ ls, f s ≤ fsum f ls
  | [], _, s, hs => by cases hs
  | x :: r, h, s, hs => by
    have h2 := fsum_nonneg f r fun s hs => h s (by simp [hs])
    have h1 := h x (by simp)
    rcases List.mem_cons.1 hs with rfl | hs
    · simp only [fsum]; omega
    · have := fsum_mem f r (fun s hs => h s (by simp [hs])) s hs
      simp only [fsum]; omega
theorem fsum_take (f : LS → Int) : ∀ (ls : List LS) (k : Nat) (s : LS), ls[k]? = some s → fsum f (ls.take (k + 1)) = fsum f (ls.take k) + f s
  | [], k, s, h => by simp at h
  | x :: r, 0, s, h => by
    simp at h; subst h
    simp [fsum]
  | x :: r, k + 1, s, h => by
    simp only [List.getElem?_cons_succ] at h
    simp only [List.take_succ_cons, fsum, fsum_take f r k s h]; omega
theorem fsum_le (f : LS → Int) (M : Int) (hM : 0 ≤ M) : ∀ (ls : List LS) (n : Nat), ls.length ≤ n → (∀ s ∈ ls, 0 ≤ f s ∧ f s ≤ M) → fsum f ls ≤ n * M
  | [], n, _, _ => by simp only [fsum]; exact Int.mul_nonneg (by omega) hM
  | x :: r, 0, h, _ => by simp at h
  | x :: r, n + 1, h, hm => by
    have h1 := (hm x (by simp)).2
    have h2 := fsum_le f M hM r n (by simpa using h) fun s hs => hm s (by simp [hs])
    simp only [fsum]
    rw [show ((n + 1 : Nat) : Int) * M = n * M + M from by rw [Int.natCast_add, Int.add_mul]; simp]
    omega
def ptrs (hs : List Nat) : List Value := hs.map fun h => Value.pointer (some ⟨h, 0, none⟩)
/-- The ledgers in memory. -/
structure CM (L g : Nat) (hs : List Nat) (ls : List LS) (lim : Int) (W0 w : World) : Prop where
  len : ls.length = hs.length
  at_ : ∀ (i h : Nat) (s : LS), hs[i]? = some h → ls[i]? = some s → Blk w h s.cs 62 ∧ s.Ok ∧ s.c = lim
  nodup : ∀ (i j h : Nat), hs[i]? = some h → hs[j]? = some h → i = j
  row : ∃ cur : Array Value, Blk w g cur 24 ∧ ∀ (i h : Nat), hs[i]? = some h → cur[i]? = some (Value.pointer (some ⟨h, 0, none⟩))
  lo : ∀ (i h : Nat), hs[i]? = some h → L ≤ h
  q : Below L W0 w
  sz : L ≤ W0.heap.size
section
variable {L g : Nat} {hs : List Nat} {ls : List LS} {lim : Int} {W0 w w' : World}
theorem CM.cell (h : CM L g hs ls lim W0 w) {i hh : Nat} (hi : hs[i]? = some hh) : w.cell? ⟨g, i, none⟩ = some (.pointer (some ⟨hh, 0, none⟩)) := by
  obtain ⟨cur, hB, hc⟩ := h.row
  exact (hB.cell i).trans (hc i hh hi)
theorem CM.get (h : CM L g hs ls lim W0 w) {i : Nat} (hi : i < hs.length) : ∃ hh s, hs[i]? = some hh ∧ ls[i]? = some s ∧ Blk w hh s.cs 62 ∧ s.Ok ∧ s.c = lim ∧ L ≤ hh := by
  have e1 : hs[i]? = some hs[i] := List.getElem?_eq_getElem hi
  have e2 : ls[i]? = some (ls[i]'(by rw [h.len]; exact hi)) := List.getElem?_eq_getElem _
  obtain ⟨a, b, c⟩ := h.at_ i _ _ e1 e2
  exact ⟨_, _, e1, e2, a, b, c, h.lo i _ e1⟩
theorem CM.step (h : CM L g hs ls lim W0 w) {i hh : Nat} {s s' : LS} (hi : hs[i]? = some hh) (hsi : ls[i]? = some s) (hB : Blk w' hh s'.cs 62) (ok : s'.Ok) (hc : s'.c = lim) (hq : Stq hh w w') : CM L g hs (ls.set i s') lim W0 w' := by
  obtain ⟨hBi, _, _⟩ := h.at_ i hh s hi hsi
  have hb : Below L w w' := hq.below (Nat.le_trans h.sz h.q.size) (h.lo i hh hi)
  refine ⟨by rw [List.length_set]; exact h.len, fun j hj t e1 e2 => ?_, h.nodup, ?_, h.lo, h.q.trans hb, h.sz⟩
  · by_cases e : i = j
    · subst e
      rw [List.getElem?_set_self (by rw [h.len]; exact (List.getElem?_eq_some_iff.1 hi).1)] at e2
      cases e2
      rw [hi] at e1; cases e1
      exact ⟨hB, ok, hc⟩
    · rw [List.getElem?_set_ne e] at e2
      obtain ⟨hBj, o, c⟩ := h.at_ j hj t e1 e2
      exact ⟨hq.blk hBj (fun e3 => e (h.nodup i j hh hi (e3 ▸ e1))), o, c⟩
  · obtain ⟨cur, hR, hcs⟩ := h.row
    exact ⟨cur, hq.blk hR (blk_ne hR hBi (by decide)), hcs⟩
theorem CM.more (h : CM L g hs ls lim W0 w) (k : Below w.heap.size w w') : CM L g hs ls lim W0 w' := by
  refine ⟨h.len, fun i hh s e1 e2 => ?_, h.nodup, ?_, h.lo, h.q.trans (k.mono (Nat.le_trans h.sz h.q.size)), h.sz⟩
  · obtain ⟨a, b, c⟩ := h.at_ i hh s e1 e2
    exact ⟨a.below k a.lt, b, c⟩
  · obtain ⟨cur, hR, hcs⟩ := h.row
    exact ⟨cur, hR.below k hR.lt, hcs⟩
theorem CM.oks (h : CM L g hs ls lim W0 w) : ∀ s ∈ ls, s.Ok ∧ s.c = lim := fun s hs' => by
  obtain ⟨i, hi⟩ := List.getElem?_of_mem hs'
  have hl : i < hs.length := by rw [← h.len]; exact (List.getElem?_eq_some_iff.1 hi).1
  exact (h.at_ i _ s (List.getElem?_eq_getElem hl) hi).2
end
theorem LS.all_nonneg {s : LS} (h : s.Ok) : 0 ≤ s.all := by obtain ⟨h1, h2, h3, _, _, _⟩ := h; unfold LS.all; omega
/-- What the law says of the ledgers. -/
structure CS (ls : List LS) (lim val : Int) : Prop where
  tot : fsum LS.all ls = lim
  dn : fsum LS.d ls = val
/-- What is taken out of one goes into another one. -/
theorem into {ls : List LS} {lim tot a b : Int} {j : Nat} {s : LS} (hok : ∀ s ∈ ls, s.Ok ∧ s.c = lim) (ht : fsum LS.all ls = tot) (hroom : tot + (a + b) = lim) (ha : 0 ≤ a) (hb : 0 ≤ b) (hj : ls[j]? = some s) :
    s.icode a b = 0 ∧ s.inext a b = { s with d := s.d + a, u := s.u + b } ∧ fsum LS.all (ls.set j (s.inext a b)) = lim ∧ fsum LS.d (ls.set j (s.inext a b)) = fsum LS.d ls + a := by
  have hm := List.mem_of_getElem? hj
  have hle := fsum_mem LS.all ls (fun s hs => LS.all_nonneg (hok s hs).1) s hm
  have hc := (hok s hm).2
  have e0 : s.icode a b = 0 := by
    unfold LS.icode
    rw [if_neg (by omega), if_neg (by omega)]
  have e1 : s.inext a b = { s with d := s.d + a, u := s.u + b } := by unfold LS.inext; rw [if_pos e0]
  refine ⟨e0, e1, ?_, ?_⟩
  · rw [fsum_set _ _ _ _ _ hj, e1]; simp only [LS.all] at *; omega
  · rw [fsum_set _ _ _ _ _ hj, e1]; simp only; omega
/-- A turn of one ledger. -/
theorem turned_sums {ls : List LS} {i : Nat} {s : LS} (kind k : Int) (hk : 1 ≤ kind ∧ kind ≤ 5) (hi : ls[i]? = some s) (h0 : s.tcode (fromOf kind) k = 0) :
    fsum LS.all (ls.set i (s.tnext (fromOf kind) (toOf kind) k)) = fsum LS.all ls ∧
    fsum LS.d (ls.set i (s.tnext (fromOf kind) (toOf kind) k)) = fsum LS.d ls + (if kind = 1 ∨ kind = 3 then -k else if kind = 2 ∨ kind = 4 then k else 0) := by
  have e : s.tnext (fromOf kind) (toOf kind) k = s.mv (fromOf kind) (toOf kind) k := by unfold LS.tnext; rw [if_pos h0]
  rw [fsum_set _ _ _ _ _ hi, fsum_set _ _ _ _ _ hi, e]
  have h1 := (s.mv_all _ _ (from_lt kind) (to_lt kind) (fromto kind) k).1
  refine ⟨by omega, ?_⟩
  have hc : kind = 1 ∨ kind = 2 ∨ kind = 3 ∨ kind = 4 ∨ kind = 5 := by omega
  rcases hc with rfl | rfl | rfl | rfl | rfl
  · show _ - s.d + (s.d - k) = _ + -k; omega
  · show _ - s.d + (s.d + k) = _ + k; omega
  · show _ - s.d + (s.d - k) = _ + -k; omega
  · show _ - s.d + (s.d + k) = _ + k; omega
  · show _ - s.d + s.d = _ + 0; omega
end Go.Proofs.YtgnkkpcklljffaaDoor
