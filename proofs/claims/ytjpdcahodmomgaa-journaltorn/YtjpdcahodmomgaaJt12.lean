import Derived.Test.YtjpdcahodmomgaaJt10
import Derived.Test.YtjpdcahodmomgaaArgs
import Derived.Test.YtjpdcahodmomgaaJn19
namespace Go.Proofs.Ytjpdcahodmomgaa
open Go.RowKit Go.PlainAid
set_option linter.unusedVariables false
set_option linter.unusedSimpArgs false
theorem itR_sum (b : Nat → UInt8) (k : Nat) : (itR b k).2 = ((itR b k).1.map fun r => kS r.length).sum := by
  induction k with
  | zero => rfl
  | succ k ih =>
    rw [itR_next]
    simp only [List.map_append, List.sum_append, List.map_cons, List.map_nil, List.sum_cons, List.sum_nil, recB_len]
    omega
theorem kS_sum (ls : List (List UInt8)) (h : ∀ r ∈ ls, r.length ≤ 1000) : (ls.map fun r => kS r.length).sum ≤ 3 * ls.length := by
  induction ls with
  | nil => exact Nat.le_refl _
  | cons a t ih =>
    have h1 := ih (fun r hr => h r (List.mem_cons_of_mem _ hr))
    have h2 := h a (List.mem_cons_self ..)
    have h3 : kS a.length ≤ 3 := by unfold kS; omega
    simp only [List.map_cons, List.sum_cons, List.length_cons]
    omega
theorem Inv.few {b : Nat → UInt8} {n : Nat} {must : List (List UInt8)} (h : Inv b n must) (hm : ∀ r ∈ must, r.length ≤ 1000) : (itR b must.length).2 ≤ 3 * must.length := by
  rw [itR_sum, h.it]
  exact kS_sum must hm
/-- Arm(-1, 0), whether the disk is on or off. -/
theorem arm_end {L p s : Nat} {x : DV} (w : World) (h : DM L p s x w) : Calls Try.prog 22 #[.pointer (some ⟨p, 0, none⟩), .int .i64 (-1), .int .i64 0] w fun e w' => e = .returned (.tuple #[]) ∧ ∃ x', x'.b = x.b ∧ x'.n = x.n ∧ x'.writes = x.writes ∧ DM L p s x' w' ∧ Chg (fun k => k = p) w w' := by
  by_cases ho : x.off = true
  · refine (arm_off (-1) 0 w h ho).mono ?_
    rintro e w' ⟨h1, h2⟩
    subst h2
    exact ⟨h1, x, rfl, rfl, rfl, h, Chg.refl _ _⟩
  · refine (arm_on (-1) 0 w h (by simpa using ho) (by decide)).mono ?_
    rintro e w' ⟨h1, h2, h3⟩
    have hf := arm_facts x (-1) 0 (by decide)
    exact ⟨h1, _, hf.2.1, hf.1, hf.2.2.2.1, h2, h3⟩
/-- The first bytes of a slice. -/
theorem By.take {w : World} {ao : Option Addr} {n c m : Nat} {bs : List UInt8} (h : By w (.slice ao n c) bs) (hm : m ≤ n) (h0 : ao = none → m = 0) : By w (.slice ao m c) (bs.take m) := by
  obtain ⟨ao', k, c', e, e2, h3, h4⟩ := h
  cases e
  refine ⟨ao, m, c, rfl, by rw [List.length_take]; omega, fun hn => ⟨h0 hn, (h3 hn).2⟩, fun ad e j u hu => h4 ad e j u ?_⟩
  rw [List.map_take, List.getElem?_take] at hu
  split at hu
  · exact hu
  · cases hu
theorem By.spot {w : World} {ao : Option Addr} {n c : Nat} {bs : List UInt8} (h : By w (.slice ao n c) bs) (hn : 0 < n) : ∃ g o, ao = some ⟨g, o, none⟩ := by
  obtain ⟨ao', k, c', e, e2, h3, h4⟩ := h
  cases e
  cases ao with
  | none => have := (h3 rfl).1; omega
  | some ad =>
    have h5 := h4 ad rfl 0 (B (bs[0]'(by omega))) (by rw [List.getElem?_map, List.getElem?_eq_getElem (by omega)]; rfl)
    obtain ⟨g, o, e⟩ := spot_none (a := ad.add 0) h5
    rw [show ad.add 0 = ad from by cases ad; rfl] at e
    exact ⟨g, o, by rw [e]⟩
/-- Bytes that came in, or the first of them. -/
structure Rb (L : Nat) (w : World) (m : Nat) (v : Value) (bs : List UInt8) : Prop where
  form : ∃ uo n uc, v = .slice uo n uc ∧ n ≤ uc ∧ bs.length = n ∧ n ≤ m
  by' : ∀ W, Below L w W → By W v bs
end Go.Proofs.Ytjpdcahodmomgaa
