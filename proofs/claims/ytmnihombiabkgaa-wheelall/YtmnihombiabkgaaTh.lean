import Derived.Test.YtmnihombiabkgaaDel
import Derived.Test.YtmnihombiabkgaaArm
namespace Go.Proofs.Ytmnihombiabkgaa
open Go.RowKit Go.PlainAid Go.MapKept
set_option linter.unusedVariables false
set_option linter.unusedSimpArgs false
abbrev Up (l : List Tm) : Prop := l.Pairwise fun a b => a.num < b.num
def gone (n : Int) (A : List Tm) : List Tm := A.filter fun t => decide (t.num ≠ n)
theorem gone_none {n : Int} {A : List Tm} (h : ∀ t ∈ A, t.num ≠ n) : gone n A = A := List.filter_eq_self.2 (fun t ht => by simpa using h t ht)
theorem gone_at : ∀ {l : List Tm} {i : Nat} {t : Tm}, Up l → l[i]? = some t → gone t.num l = l.eraseIdx i
  | [], i, t, _, h => by simp at h
  | x :: l, 0, t, hu, h => by
    simp at h
    subst h
    have := List.pairwise_cons.1 hu
    show (x :: l).filter _ = l
    rw [List.filter_cons_of_neg (by simp)]
    exact gone_none (fun t ht => by have := this.1 t ht; omega)
  | x :: l, i + 1, t, hu, h => by
    have hp := List.pairwise_cons.1 hu
    have ht : t ∈ l := List.mem_of_getElem? (by simpa using h)
    have hx := hp.1 t ht
    show (x :: l).filter _ = x :: l.eraseIdx i
    rw [List.filter_cons_of_pos (by simp; omega)]
    exact congrArg _ (gone_at hp.2 (by simpa using h))
theorem slot_gone (u n : Int) (A : List Tm) (p : Nat) : slotOf u (gone n A) p = gone n (slotOf u A p) := by
  unfold slotOf gone
  rw [List.filter_filter, List.filter_filter]
  congr 1
  funext t
  exact Bool.and_comm _ _
theorem slot_mem {u : Int} {A : List Tm} {p : Nat} {t : Tm} : t ∈ slotOf u A p ↔ t ∈ A ∧ pl u t = p := by
  unfold slotOf
  rw [List.mem_filter]
  simp
theorem slot_up {u : Int} {A : List Tm} (h : Up A) (p : Nat) : Up (slotOf u A p) := h.sublist List.filter_sublist
theorem up_inj {A : List Tm} (h : Up A) {s t : Tm} (hs : s ∈ A) (ht : t ∈ A) (e : s.num = t.num) : s = t := by
  obtain ⟨i, hi⟩ := List.getElem?_of_mem hs
  obtain ⟨j, hj⟩ := List.getElem?_of_mem ht
  have h1 := pw_lt h hi hj
  have h2 := pw_lt h hj hi
  have : i = j := by omega
  subst this
  rw [hi] at hj
  exact Option.some.inj hj
theorem look_kv (u n : Int) : ∀ A : List Tm, look n (A.map (kvT u)) = (A.find? fun t => decide (t.num = n)).map fun t => ((pl u t : Nat) : Int)
  | [] => rfl
  | x :: A => by
    have ih := look_kv u n A
    by_cases e : x.num = n
    · simp [look, kvT, e]
    · have e' : ¬ n = x.num := fun h => e h.symm
      simp only [look, List.map_cons, List.find?_cons, kvT, e, e', decide_false] at ih ⊢
      exact ih
theorem rm_kv (u n : Int) : ∀ {A : List Tm}, Up A → rmK n (A.map (kvT u)) = (gone n A).map (kvT u)
  | [], _ => rfl
  | x :: A, hu => by
    have hp := List.pairwise_cons.1 hu
    by_cases e : x.num = n
    · subst e
      have : gone x.num (x :: A) = A := gone_at (i := 0) hu rfl
      rw [this]
      simp [rmK, kvT]
    · have e' : ¬ n = x.num := fun h => e h.symm
      have ih := rm_kv u n hp.2
      have hg : gone n (x :: A) = x :: gone n A := List.filter_cons_of_pos (by simpa using e)
      rw [hg]
      simp only [rmK, List.map_cons, List.eraseP_cons] at ih ⊢
      simp only [kvT, e', decide_false, cond_false]
      exact congrArg _ ih
theorem WB.gone {u now last : Int} {A : List Tm} (h : WB u now last A) (n : Int) : WB u now last (gone n A) :=
  ⟨h.hu, h.hw, h.hl, fun t ht => h.num t (List.mem_filter.1 ht).1, fun t ht => h.due t (List.mem_filter.1 ht).1, h.up.sublist List.filter_sublist, by have := h.len; have : (Proofs.Ytmnihombiabkgaa.gone n A).length ≤ A.length := List.length_filter_le _ _; omega⟩
theorem WB.push {u now last : Int} {A : List Tm} (h : WB u now last A) (hl : last < 1000000) (d k i : Int) : WB u now (last + 1) (A ++ [(⟨now + dl d, last + 1, k, i⟩ : Tm)]) := by
  have hd := dl_bd d
  refine ⟨h.hu, h.hw, ⟨by have := h.hl; omega, by omega⟩, fun t ht => ?_, fun t ht => ?_, ?_, by have := h.len; simp; omega⟩
  · rcases List.mem_append.1 ht with ht | ht
    · have := h.num t ht; omega
    · simp at ht; subst ht; have := h.hl; simp; omega
  · rcases List.mem_append.1 ht with ht | ht
    · exact h.due t ht
    · simp at ht; subst ht; simp; omega
  · refine List.pairwise_append.2 ⟨h.up, List.pairwise_singleton _ _, fun a ha b hb => ?_⟩
    simp at hb
    subst hb
    have := h.num a ha
    simp
    omega
end Go.Proofs.Ytmnihombiabkgaa
