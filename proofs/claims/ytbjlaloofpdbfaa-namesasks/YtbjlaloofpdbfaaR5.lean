import Derived.Test.YtbjlaloofpdbfaaJoinR
import Derived.Test.YtbjlaloofpdbfaaR4
import Derived.Laws.MakeOwn
namespace Go.Proofs.Ytbjlaloofpdbfaa
open Go.RowKit Go.PlainAid
set_option linter.unusedVariables false
set_option linter.unusedSimpArgs false
section
variable {α : Type} (lt : α → α → Bool)
/-- How many stand ahead of x. -/
def rankOf (L : List α) (x : α) : Nat := L.countP fun y => lt y x
variable {lt}
theorem rank_at (hirr : ∀ a, lt a a = false) (hasy : ∀ a b, lt a b = true → lt b a = false) : ∀ {S : List α} {k : Nat} {x : α}, S.Pairwise (fun a b => lt a b = true) → S[k]? = some x → rankOf lt S x = k
  | [], _, _, _, h => by simp at h
  | a :: t, 0, x, hp, h => by
    simp at h
    subst h
    rw [List.pairwise_cons] at hp
    unfold rankOf
    rw [List.countP_cons, List.countP_eq_zero.2 (fun y hy => by rw [hasy _ _ (hp.1 y hy)]; simp), hirr]
    rfl
  | a :: t, k + 1, x, hp, h => by
    rw [List.pairwise_cons] at hp
    have hx : t[k]? = some x := by simpa using h
    have ih := rank_at hirr hasy hp.2 hx
    unfold rankOf at ih ⊢
    rw [List.countP_cons, ih, hp.1 x (List.mem_of_getElem? hx)]
    simp
theorem rank_perm {L S : List α} (h : S.Perm L) (x : α) : rankOf lt L x = rankOf lt S x := (h.countP_eq _).symm
theorem rank_get (hirr : ∀ a, lt a a = false) (hasy : ∀ a b, lt a b = true → lt b a = false) {L S : List α} (hp : S.Perm L) (hs : S.Pairwise (fun a b => lt a b = true)) {x : α} (hx : x ∈ L) : S[rankOf lt L x]? = some x := by
  obtain ⟨k, hk, he⟩ := List.getElem_of_mem (hp.mem_iff.2 hx)
  have h1 : S[k]? = some x := by rw [List.getElem?_eq_getElem hk, he]
  rw [rank_perm hp, rank_at hirr hasy hs h1]
  exact h1
/-- Each of the first i stands at its rank. -/
def Placed (lt : α → α → Bool) (L : List α) (i : Nat) (out : List α) : Prop := out.length = L.length ∧ ∀ j x, j < i → L[j]? = some x → out[rankOf lt L x]? = some x
theorem Placed.step (hirr : ∀ a, lt a a = false) (hasy : ∀ a b, lt a b = true → lt b a = false) {L S : List α} (hp : S.Perm L) (hs : S.Pairwise (fun a b => lt a b = true)) {i : Nat} {out : List α} {x : α} (h : Placed lt L i out) (hx : L[i]? = some x) : Placed lt L (i + 1) (out.set (rankOf lt L x) x) := by
  refine ⟨by simpa using h.1, fun j y hj hy => ?_⟩
  have hxr := rank_get hirr hasy hp hs (List.mem_of_getElem? hx)
  have hyr := rank_get hirr hasy hp hs (List.mem_of_getElem? hy)
  by_cases e : rankOf lt L y = rankOf lt L x
  · rw [e] at hyr ⊢
    rw [hxr] at hyr
    cases hyr
    have hlt : rankOf lt L x < out.length := by
      have := (List.getElem?_eq_some_iff.1 hxr).1
      rw [hp.length_eq] at this
      rw [h.1]
      exact this
    simp [hlt]
  · rw [List.getElem?_set_ne (fun q => e q.symm)]
    by_cases hji : j = i
    · subst hji
      rw [hx] at hy
      cases hy
      exact absurd rfl e
    · exact h.2 j y (by omega) hy
theorem Placed.done (hirr : ∀ a, lt a a = false) (hasy : ∀ a b, lt a b = true → lt b a = false) {L S : List α} (hp : S.Perm L) (hs : S.Pairwise (fun a b => lt a b = true)) {out : List α} (h : Placed lt L L.length out) : out = S := by
  apply List.ext_getElem?
  intro k
  by_cases hk : k < S.length
  · have hkx : S[k]? = some S[k] := List.getElem?_eq_getElem hk
    have hm : S[k] ∈ L := hp.mem_iff.1 (List.getElem_mem hk)
    obtain ⟨j, hj, he⟩ := List.getElem_of_mem hm
    have := h.2 j S[k] hj (by rw [List.getElem?_eq_getElem hj, he])
    rw [rank_perm hp, rank_at hirr hasy hs hkx] at this
    rw [this, hkx]
  · rw [List.getElem?_eq_none (by rw [h.1, ← hp.length_eq]; omega), List.getElem?_eq_none (by omega)]
end
theorem rank_lt {α : Type} {lt : α → α → Bool} (hirr : ∀ a, lt a a = false) (hasy : ∀ a b, lt a b = true → lt b a = false) {L S : List α} (hp : S.Perm L) (hs : S.Pairwise (fun a b => lt a b = true)) {x : α} (hx : x ∈ L) : rankOf lt L x < L.length := by
  have := (List.getElem?_eq_some_iff.1 (rank_get hirr hasy hp hs hx)).1
  rw [hp.length_eq] at this
  exact this
def sl (a b : List UInt8) : Bool := Op.bytesLess a b
theorem sl_lt : ∀ a b : List UInt8, sl a b = decide (a < b)
  | [], [] => rfl
  | [], _ :: _ => by simp [sl, Op.bytesLess]
  | _ :: _, [] => by simp [sl, Op.bytesLess]
  | x :: xs, y :: ys => by
    have ih := sl_lt xs ys
    unfold sl at *
    simp only [Op.bytesLess, ih, List.cons_lt_cons_iff]
    by_cases h1 : x < y
    · simp [h1]
    · by_cases h2 : x = y
      · simp [h2]
      · simp [h1, h2]
theorem sl_irr (a : List UInt8) : sl a a = false := by rw [sl_lt]; simp
theorem sl_asy (a b : List UInt8) (h : sl a b = true) : sl b a = false := by
  rw [sl_lt] at *
  simp at *
  exact List.le_of_lt h
theorem ltC_irr (a : Int × Int) : ltC a a = false := by rw [ltC_no]; omega
theorem ltC_asy (a b : Int × Int) (h : ltC a b = true) : ltC b a = false := by rw [ltC_iff] at h; rw [ltC_no]; omega
theorem makeS_run (n : Nat) (hn : n ≤ 100000) (w : World) : (Instr.makeSlice 51 (.int .i64 (n : Int)) (.int .i64 (n : Int))).run Try.prog w = .ok (.slice (some ⟨w.heap.size, 0, none⟩) n n) (w.alloc (.cells (flatS (List.replicate n [])).toArray 9)) := by
  obtain ⟨i0, hi, hz0, hz1, hz2⟩ := info_parts info9
  have hr := run_make (P := Try.prog) w 51 9 i0 _ Try.underlying51 hi hz0 .i64 .i64 n n (by omega) (Int.le_refl _) (by rw [hz2]; omega) (by omega)
  simp only [Int.toNat_natCast] at hr
  rw [hz1] at hr
  rw [hr]
  have e : madeCells (Value.string ⟨#[]⟩).cells (n * 1) = (flatS (List.replicate n [])).toArray := by
    apply Array.ext_getElem?
    intro j
    simp only [madeCells, Value.cells, flatS]
    by_cases hj : j < n
    · have hm : j % 1 = 0 := Nat.mod_one j
      simp [hj, Str, hm, Nat.mod_one]
    · simp [hj]
  rw [e]
theorem sl_raw (y x : List UInt8) : Op.bytesLess (ByteArray.toList ⟨y.toArray⟩) (ByteArray.toList ⟨x.toArray⟩) = sl y x := by
  unfold sl
  first | rfl | simp | simp [go_sem]
theorem own_setS {w : World} {L n g cap k : Nat} {zs : List (List UInt8)} (h : w.ownsRow L 9 1 (.slice (some ⟨g, 0, none⟩) n cap) n (flatS zs)) (hk : k < n) (z : List UInt8) :
    (w.setCell ⟨g, k, none⟩ (.string ⟨z.toArray⟩)).ownsRow L 9 1 (.slice (some ⟨g, 0, none⟩) n cap) n (flatS (zs.set k z)) ∧ w.frozen? ⟨g, k, none⟩ = false ∧ ∃ u, w.cell? ⟨g, k, none⟩ = some (.string u) := by
  have hl : zs.length = n := by simpa [flatS] using h.1
  rcases h.2 with ⟨h1, _⟩ | ⟨g2, c, cur, h1, h2, h3, h4, h5, h6, h7⟩
  · cases h1
  · cases h1
    have hB : Blk w g cur 9 := h3
    refine ⟨⟨by simpa [flatS] using h.1, Or.inr ⟨g, cap, cur.setIfInBounds k (.string ⟨z.toArray⟩), rfl, h2, hB.set k _, h4, h5, by simpa using h6, ?_⟩⟩, hB.frozen k, ?_⟩
    · rw [Array.toList_setIfInBounds, List.take_set, h7]
      simp only [flatS, List.map_set]
      rfl
    · obtain ⟨x, hx⟩ : ∃ x, zs[k]? = some x := ⟨zs[k], List.getElem?_eq_getElem (by omega)⟩
      have := h.cells (g := g) rfl k (Str x) (by unfold flatS; rw [List.getElem?_map, hx]; rfl)
      rw [addr_add, Nat.zero_add] at this
      exact ⟨_, this⟩
end Go.Proofs.Ytbjlaloofpdbfaa
