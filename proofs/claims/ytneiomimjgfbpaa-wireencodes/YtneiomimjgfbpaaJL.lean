import Derived.Test.YtneiomimjgfbpaaJA
import Derived.Test.YtneiomimjgfbpaaJE
import Derived.Test.YtneiomimjgfbpaaJD
import Derived.Test.YtneiomimjgfbpaaJC
import Derived.Test.YtneiomimjgfbpaaJF
import Derived.Test.YtneiomimjgfbpaaJP
namespace Go.Proofs.Ytneiomimjgfbpaa
open Go.RowKit Go.PlainAid
set_option linter.unusedSimpArgs false
set_option linter.unusedVariables false
def two (a b : Int) : Array Value := #[.int .i64 a, .int .i64 b]
end Go.Proofs.Ytneiomimjgfbpaa
namespace Go.Proofs.Ytneiomimjgfbpaa
open Go.RowKit Go.PlainAid
set_option linter.unusedSimpArgs false
set_option linter.unusedVariables false
def rowV (l : List View) : List Value := l.flatMap viewCells
theorem rowV_len (l : List View) : (rowV l).length = l.length * 7 := by
  induction l with
  | nil => rfl
  | cons a t ih => simp only [rowV, List.flatMap_cons, List.length_append] at *; rw [ih]; simp [viewCells]; omega
theorem rowV_snoc (l : List View) (v : View) : rowV (l ++ [v]) = rowV l ++ viewCells v := by simp [rowV]
theorem own_stableG {w w' : World} {base e size : Nat} {v : Value} {n : Nat} {xs : List Value} (h : w.ownsRow base e size v n xs) (hk : ∀ k, base ≤ k → k < w.heap.size → w'.heap[k]? = w.heap[k]?) : w'.ownsRow base e size v n xs := by
  refine ⟨h.1, h.2.imp id ?_⟩
  rintro ⟨g, c', cur, e1, e2, e3, e4⟩
  exact ⟨g, c', cur, e1, e2, (hk g e2 (Array.getElem?_eq_some_iff.1 e3).1).trans e3, e4⟩
section
variable {w W W' : World} {hb bx : Nat} {ao : Option Addr} {n cap : Nat} {bs : List UInt8} {st st' : Nat × Bool} {C : Array Value} {lv : Value} {l : List View}
end
end Go.Proofs.Ytneiomimjgfbpaa
namespace Go.Proofs.Ytneiomimjgfbpaa
open Go.RowKit Go.PlainAid
set_option linter.unusedSimpArgs false
set_option linter.unusedVariables false
def markV : View := ⟨[109, 97, 114, 107], 0, 0, 0, 0, 0, 0⟩
theorem VFrom.cells {w : World} {b o : Nat} {l : List View} (h : VFrom w (some ⟨b, o, none⟩) l) : ∀ j u, (rowV l)[j]? = some u → w.cell? ((⟨b, o, none⟩ : Addr).add j) = some u := by
  induction l generalizing o with
  | nil => intro j u hj; simp [rowV] at hj
  | cons x l ih =>
    intro j u hj
    have e : rowV (x :: l) = viewCells x ++ rowV l := by simp [rowV]
    have hk : (viewCells x).length = 7 := rfl
    rw [e] at hj
    by_cases hj7 : j < 7
    · rw [List.getElem?_append_left (by omega)] at hj
      obtain ⟨vb, vo, e1, hc⟩ := h 0 x rfl
      cases e1
      have h2 := hc j u hj
      rw [addr_add]
      simpa using h2
    · rw [List.getElem?_append_right (by omega), hk] at hj
      have h' : VFrom w (some ⟨b, o + 7, none⟩) l := by
        intro i y hy
        obtain ⟨vb, vo, e1, hc⟩ := h (i + 1) y (by simpa using hy)
        cases e1
        exact ⟨_, _, rfl, fun j c hj => by have := hc j c hj; rwa [show o + (i + 1) * 7 + j = o + 7 + i * 7 + j by omega] at this⟩
      have h2 := ih h' (j - 7) u hj
      rw [addr_add] at h2 ⊢
      rwa [show o + 7 + (j - 7) = o + j by omega] at h2
theorem rowV_one (l : List View) : ∀ u ∈ rowV l, u.oneCell' = true := by
  intro u hu
  simp only [rowV, List.mem_flatMap] at hu
  obtain ⟨x, _, hx⟩ := hu
  simp only [viewCells, List.mem_cons, List.not_mem_nil, or_false] at hx
  rcases hx with rfl | rfl | rfl | rfl | rfl | rfl | rfl <;> rfl
set_option maxHeartbeats 1600000 in
theorem views_any (ao : Option Addr) (cv : Nat) (l : List View) (w : World) (hsrc : VFrom w ao l) (hnil : ao = none → l = [] ∧ cv = 0) (hao : ∀ a, ao = some a → a = ⟨a.block, a.off, none⟩) (hl : l.length < 2199023255552) :
    Calls Try.prog 61 #[.slice ao l.length cv] w (fun e w' => ∃ v, e = .returned v ∧ w'.ownsRow w.heap.size 106 7 v (l.length + 1) (rowV (l ++ [markV])) ∧ Below w.heap.size w w') := by
  obtain ⟨i0, hi, hz0, hz1, hz2⟩ := info_parts Try.info106
  have hnews : ∀ W : World, ∀ j u, (viewCells markV)[j]? = some u → (W.alloc (.cells #[.string ⟨#[109, 97, 114, 107]⟩, .int .i64 0, .int .i64 0, .int .i64 0, .int .i64 0, .int .i64 0, .int .i64 0] 106)).cell? ((⟨W.heap.size, 0, none⟩ : Addr).add j) = some u := by
    intro W j u hu
    rw [addr_add, Nat.zero_add, cell_of_row _ _ _ _ _ _ (heap_alloc_new _ _), ← Array.getElem?_toList]
    exact hu
  cases ao with
  | none =>
    obtain ⟨rfl, rfl⟩ := hnil rfl
    have HN : Hid _ := hnews
    clear hnews hsrc hnil hao
    go_enter Try.func61, Try.ntmps61
    go_wp2_with (first | (refine wpList_append_own_none rfl _ _ 33 rfl w.heap.size 106 i0 7 Try.underlying33 hi (.slice none 0 0) 0 [] rfl (World.ownsRow_nil _ _ _ _) rfl ?_) | (at_builtin; go_must (refine wpList_append_own _ rfl _ _ 33 rfl w.heap.size 106 i0 _ 7 64 Try.underlying33 hi hz0 hz1 hz2 rfl (by decide) _ 0 [] rfl (World.ownsRow_nil _ _ _ _) _ 1 1 (viewCells markV) rfl rfl (HN.out _) (by simp [viewCells, markV, Str, Value.oneCell']) (by unfold maxLen; omega) (by omega) (by rw [World.size_alloc]; omega) ?_)) | fail)
    intro v' w' hO' hG' _
    go_wp2
    go_ret
    refine ⟨v', rfl, by simpa [rowV] using hO', ?_⟩
    exact ((Below.refl w.heap.size w).alloc (Nat.le_refl _) _).grown hG' (by rw [World.size_alloc]; omega) (fun j h => by cases h)
  | some a =>
    obtain ⟨b, o, t⟩ := a
    have e := hao _ rfl
    cases e
    have hc := hsrc.cells
    have HN : Hid _ := And.intro hnews hc
    clear hnews hc hsrc hnil hao
    go_enter Try.func61, Try.ntmps61
    go_wp2_with (first | (at_builtin; go_must (refine wpList_append_own _ rfl _ _ 33 rfl w.heap.size 106 i0 _ 7 64 Try.underlying33 hi hz0 hz1 hz2 rfl (by decide) (.slice none 0 0) 0 [] rfl (World.ownsRow_nil _ _ _ _) _ l.length cv (rowV l) rfl (rowV_len l) HN.out.2 (rowV_one l) (by unfold maxLen; omega) (by omega) (Nat.le_refl _) ?_)) | fail)
    intro v1 w1 hO1 hG1 _
    have hO2 : (w1.alloc (.cells #[.string ⟨#[109, 97, 114, 107]⟩, .int .i64 0, .int .i64 0, .int .i64 0, .int .i64 0, .int .i64 0, .int .i64 0] 106)).ownsRow w.heap.size 106 7 v1 l.length (rowV l) := by
      refine own_stableG (by simpa using hO1) fun k h1 h2 => ?_
      exact heap_alloc_old _ _ h2
    have HO : Hid _ := hO2
    clear hO2
    go_wp2_with (first | (at_builtin; go_must (refine wpList_append_own _ rfl _ _ 33 rfl w.heap.size 106 i0 _ 7 64 Try.underlying33 hi hz0 hz1 hz2 rfl (by decide) v1 l.length (rowV l) rfl HO.out _ 1 1 (viewCells markV) rfl rfl (HN.out.1 _) (by simp [viewCells, markV, Str, Value.oneCell']) (by unfold maxLen; omega) (by omega) (by rw [World.size_alloc]; have := hG1.size; omega) ?_)) | fail)
    intro v' w' hO' hG' _
    go_wp2
    go_ret
    refine ⟨v', rfl, by rw [rowV_snoc]; exact hO', ?_⟩
    have hb1 : Below w.heap.size w w1 := (Below.refl _ _).grown hG1 (Nat.le_refl _) (fun j h => by cases h)
    have hv1 : ∀ j, v1.ownBlock = some j → w.heap.size ≤ j := fun j hj => (hO1.lt j hj).1
    exact (hb1.alloc hb1.size _).grown hG' (by rw [World.size_alloc]; have := hb1.size; omega) (fun j h => hv1 j h)
end Go.Proofs.Ytneiomimjgfbpaa
namespace Go.Proofs.Ytneiomimjgfbpaa
open Go.RowKit Go.PlainAid
set_option linter.unusedSimpArgs false
set_option linter.unusedVariables false
theorem BelowRW {base g : Nat} {w W W' : World} (h : Below base w W) (hw : RW g W W') (hg : base ≤ g) : Below base w W' := h.trans ⟨hw.os, hw.tape, hw.output, by rw [hw.size]; exact Nat.le_refl _, fun k hk => hw.block k (by omega)⟩
theorem encV {r : Option (List UInt8)} {w : World} {e : Ending} {w' : World} (h : EncPost r w e w') : ∃ ao' c', e = .returned (.tuple #[.slice ao' (r.getD []).length c', .int .i64 (if r.isSome then 0 else 21)]) ∧ From w' ao' (r.getD []) ∧ (∀ b o, ao' = some ⟨b, o, none⟩ → w.heap.size ≤ b ∧ b < w'.heap.size) ∧ Below w.heap.size w w' := by
  obtain ⟨hb, h⟩ := h
  cases r with
  | none => exact ⟨none, 0, h, fun h => absurd h (by simp), fun b o e => (by cases e), hb⟩
  | some bs =>
    obtain ⟨v, rfl, hv⟩ := h
    obtain ⟨ao, c, rfl, _, _, hf, _⟩ := own_from hv
    exact ⟨ao, c, rfl, hf, fun b o e => by subst e; exact hv.lt b rfl, hb⟩
theorem box_set (w : World) (Z D : Array Value) (ty : TypeId) : Blk ((w.alloc (.cells Z ty)).setRow w.heap.size D) w.heap.size D ty ∧ Below w.heap.size w ((w.alloc (.cells Z ty)).setRow w.heap.size D) ∧ ((w.alloc (.cells Z ty)).setRow w.heap.size D).heap.size = w.heap.size + 1 :=
  ⟨setRow_blk (heap_alloc_new w _), (show Below w.heap.size w (w.alloc _) from by go_grown).trans ⟨rfl, rfl, rfl, by simp [World.setRow], fun k hk => setRow_other _ _ _ _ (by omega)⟩, by simp [World.setRow]⟩
end Go.Proofs.Ytneiomimjgfbpaa
