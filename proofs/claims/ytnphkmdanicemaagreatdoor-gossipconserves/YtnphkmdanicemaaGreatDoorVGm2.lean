import Derived.Test.YtnphkmdanicemaaGreatDoorVGm
import Derived.Test.YtnphkmdanicemaaGreatDoorVVm
namespace Go.Proofs.YtnphkmdanicemaaGreatDoor.Gm
open Go.RowKit Go.PlainAid Go.MapKept
open Go.ChangeMaps (setBlock)
set_option linter.unusedVariables false
set_option linter.unusedSimpArgs false
section
variable {K V : Type} [DecidableEq K] {M : ML K V}
def putM (k : K) (v : V) : List (K × V) → List (K × V)
  | [] => [(k, v)]
  | x :: t => if k = x.1 then (k, v) :: t else x :: putM k v t
theorem fnd_put (k : K) (v : V) : ∀ (L : List (K × V)) (i : Nat), match fnd k L i with
    | none => putM k v L = L ++ [(k, v)]
    | some p => i ≤ p.1 ∧ p.1 - i < L.length ∧ putM k v L = L.set (p.1 - i) (k, v) ∧ k = p.2.1 ∧ L[p.1 - i]? = some p.2
  | [], i => by simp [fnd, putM]
  | x :: t, i => by
    have ih := fnd_put k v t (i + 1)
    by_cases hk : k = x.1
    · simp [fnd, putM, hk]
    · simp only [fnd, hk, if_false, putM]
      cases hq : fnd k t (i + 1) with
      | none =>
        rw [hq] at ih
        simp only at ih ⊢
        rw [ih]
        rfl
      | some p =>
        rw [hq] at ih
        simp only at ih ⊢
        obtain ⟨h1, h2, h3, h4, h6⟩ := ih
        have e1 : p.1 - i = (p.1 - (i + 1)) + 1 := by omega
        refine ⟨by omega, by simp; omega, ?_, h4, ?_⟩
        · rw [e1, h3]; rfl
        · rw [e1]; simpa using h6
theorem HMap.putM {w : World} {mb : Nat} {L : List (K × V)} (h : HMap M w mb L) (k : K) (v : V) :
    ∃ w', (Instr.mapUpdate M.tm (.map (some mb)) (M.kE k) (M.vE v)).run Tryz.prog w = .ok () w' ∧ HMap M w' mb (Gm.putM k v L) ∧ Chg (fun k => k = mb) w w' ∧ w'.heap.size = w.heap.size := by
  have h0 := h
  have hlt := h.lt
  obtain ⟨es, c, hb, hs, he⟩ := h
  have hf := M.find k w es.toList L he
  have hp := fnd_put k v L 0
  have hsz : es.size = L.length := by simpa using congrArg List.length he
  cases hq : fnd k L 0 with
  | none =>
    rw [hq] at hp
    simp only at hp
    rw [hp]
    exact h0.put k v (fnd_none hq)
  | some p =>
    rw [hq] at hf hp
    simp only [Nat.sub_zero] at hp
    obtain ⟨_, h2, h3, h4, h6⟩ := hp
    obtain ⟨x, hx⟩ : ∃ x, es[p.1]? = some x := ⟨es[p.1]'(by omega), Array.getElem?_eq_getElem _⟩
    have hkx : kv x = encP M.kE M.vE p.2 := by
      have e1 : (es.toList.map kv)[p.1]? = some (kv x) := by rw [List.getElem?_map, Array.getElem?_toList, hx]; rfl
      rw [he, List.getElem?_map, h6] at e1
      exact (Option.some.inj e1).symm
    have ek : x.key = M.kE k := by rw [h4]; exact congrArg Prod.fst hkx
    have hst := M.stays k w
    refine ⟨ChangeMaps.setBlock w mb (.map (es.modify p.1 fun q => { q with key := M.kE k, val := M.vE v }) c), ?_, ⟨_, _, setBlock_at hlt, stamped_modify hs p.1 _ (fun _ _ => rfl) (fun q _ hq => ?_), ?_⟩, Chg.setBlock, by simp [ChangeMaps.setBlock]⟩
    · simp [Instr.mapUpdate, run_underlying M.under, MapKept.run_getObj_map hb, M.check, hf, hx, ek, hst, MapKept.run_setObj_map _ hb, Result.andThen, ChangeMaps.setBlock]
    · rw [hx] at hq
      cases hq
      exact ek.symm
    · rw [h3, List.map_set]
      rw [← he]
      apply List.ext_getElem?
      intro j
      simp only [List.getElem?_map, Array.getElem?_toList, Array.getElem?_modify, List.getElem?_set, List.length_map, Array.length_toList]
      by_cases hj : p.1 = j
      · subst hj
        simp [hx, hsz, h2, kv, encP]
      · simp [hj]
def KD (L : List (K × V)) : Prop := L.Pairwise fun a b => a.1 ≠ b.1
theorem look_cons (k : K) (x : K × V) (t : List (K × V)) : look k (x :: t) = if k = x.1 then some x.2 else look k t := by
  unfold look
  by_cases h : k = x.1
  · rw [List.find?_cons_of_pos (by simpa using h), if_pos h]; rfl
  · rw [List.find?_cons_of_neg (by simpa using h), if_neg h]
theorem look_putM (k n : K) (v : V) : ∀ L : List (K × V), look n (putM k v L) = if n = k then some v else look n L
  | [] => by
    rw [putM, look_cons]
  | x :: t => by
    unfold putM
    by_cases h : k = x.1
    · rw [if_pos h, look_cons, look_cons]
      by_cases hn : n = k
      · rw [if_pos hn, if_pos hn]
      · rw [if_neg hn, if_neg hn, if_neg (fun e => hn (e.trans h.symm))]
    · rw [if_neg h, look_cons, look_cons, look_putM k n v t]
      by_cases hx : n = x.1
      · rw [if_pos hx, if_pos hx, if_neg (fun e => h (e.symm.trans hx))]
      · rw [if_neg hx, if_neg hx]
theorem mem_putM {k : K} {v : V} {y : K × V} : ∀ {L : List (K × V)}, y ∈ putM k v L → y = (k, v) ∨ y ∈ L
  | [], h => by simp [putM] at h; exact Or.inl h
  | x :: t, h => by
    simp only [putM] at h
    split at h
    · rcases List.mem_cons.1 h with h | h
      · exact Or.inl h
      · exact Or.inr (List.mem_cons_of_mem _ h)
    · rcases List.mem_cons.1 h with h | h
      · exact Or.inr (h ▸ List.mem_cons_self ..)
      · rcases mem_putM h with h | h
        · exact Or.inl h
        · exact Or.inr (List.mem_cons_of_mem _ h)
theorem KD.putM {k : K} {v : V} : ∀ {L : List (K × V)}, KD L → KD (Gm.putM k v L)
  | [], h => by simp [KD, Gm.putM]
  | x :: t, h => by
    obtain ⟨h1, h2⟩ := List.pairwise_cons.1 h
    unfold KD Gm.putM
    split
    · rename_i e
      exact List.pairwise_cons.2 ⟨fun y hy => by rw [e]; exact h1 y hy, h2⟩
    · rename_i e
      refine List.pairwise_cons.2 ⟨fun y hy => ?_, KD.putM h2⟩
      rcases mem_putM hy with rfl | hy
      · exact fun e2 => e e2.symm
      · exact h1 y hy
theorem look_rmK (k n : K) : ∀ L : List (K × V), KD L → look n (rmK k L) = if n = k then none else look n L
  | [], _ => by
    unfold rmK look
    simp
  | x :: t, h => by
    obtain ⟨h1, h2⟩ := List.pairwise_cons.1 h
    by_cases hx : k = x.1
    · have e1 : rmK k (x :: t) = t := by unfold rmK; rw [List.eraseP_cons_of_pos (by simpa using hx)]
      rw [e1, look_cons]
      by_cases hn : n = k
      · rw [if_pos hn]
        unfold look
        rw [List.find?_eq_none.2 (fun y hy => by simp only [decide_eq_true_eq]; rw [hn, hx]; exact h1 y hy)]
        rfl
      · rw [if_neg hn, if_neg (fun e => hn (e.trans hx.symm))]
    · have e1 : rmK k (x :: t) = x :: rmK k t := by unfold rmK; rw [List.eraseP_cons_of_neg (by simpa using hx)]
      rw [e1, look_cons, look_cons, look_rmK k n t h2]
      by_cases hn : n = x.1
      · rw [if_pos hn, if_pos hn, if_neg (fun e => hx (e.symm.trans hn))]
      · rw [if_neg hn, if_neg hn]
theorem KD.rmK {k : K} {L : List (K × V)} (h : KD L) : KD (Gm.rmK k L) := h.sublist (List.eraseP_sublist)
end
end Go.Proofs.YtnphkmdanicemaaGreatDoor.Gm
