import Derived.Test.YtgajmiibkakobaaSo3
import Derived.Test.YtgajmiibkakobaaAw
import Derived.Test.YtgajmiibkakobaaMc
namespace Go.Proofs.Ytgajmiibkakobaa
open Go.RowKit Go.PlainAid Go.MapKept
set_option linter.unusedVariables false
set_option linter.unusedSimpArgs false
/-- A counter, whatever block its holds lie in. -/
def Ct.dat (c : Ct) : List UInt8 × Int × Int × Int × List (Int × Int) := (c.nm, c.lim, c.val, c.held, c.H)
/-- Two maps that tell the same. -/
def Eqv (L M : List (List UInt8 × Ct)) : Prop := ∀ n, (Gm.look n L).map Ct.dat = (Gm.look n M).map Ct.dat
theorem Eqv.symm {L M : List (List UInt8 × Ct)} (h : Eqv L M) : Eqv M L := fun n => (h n).symm
theorem Eqv.trans {L M N : List (List UInt8 × Ct)} (h : Eqv L M) (k : Eqv M N) : Eqv L N := fun n => (h n).trans (k n)
theorem ctO_dat {c d : Ct} (h : c.dat = d.dat) (k A B q : Int) : ctO k A B q c = ctO k A B q d := by
  obtain ⟨n1, l1, v1, h1, b1, H1⟩ := c
  obtain ⟨n2, l2, v2, h2, b2, H2⟩ := d
  simp only [Ct.dat, Prod.mk.injEq] at h
  obtain ⟨rfl, rfl, rfl, rfl, rfl⟩ := h
  rfl
theorem Eqv.mapO {L M : List (List UInt8 × Ct)} (h : Eqv L M) (k A B q : Int) (n : List UInt8) : mapO k A B q n L = mapO k A B q n M := by
  have hn := h n
  unfold Go.Proofs.Ytgajmiibkakobaa.mapO
  cases h1 : Gm.look n L with
  | none =>
    rw [h1] at hn
    cases h2 : Gm.look n M with
    | none => rfl
    | some d => rw [h2] at hn; cases hn
  | some c =>
    rw [h1] at hn
    cases h2 : Gm.look n M with
    | none => rw [h2] at hn; cases hn
    | some d =>
      rw [h2] at hn
      have hd : c.dat = d.dat := Option.some.inj hn
      simp only [ctO_dat hd]
theorem Eqv.doL {L M : List (List UInt8 × Ct)} (h : Eqv L M) (R : Out) (n : List UInt8) (x y : Nat) : Eqv (doL R n x L) (doL R n y M) := by
  unfold Go.Proofs.Ytgajmiibkakobaa.doL
  by_cases hr : R.1.2 = 0
  · rw [if_pos hr, if_pos hr]
    intro m
    rw [look_put, look_put]
    by_cases hm : m = n
    · rw [if_pos hm, if_pos hm]; rfl
    · rw [if_neg hm, if_neg hm]; exact h m
  · rw [if_neg hr, if_neg hr]; exact h
theorem Eqv.lk {L M : List (List UInt8 × Ct)} (h : Eqv L M) (n : List UInt8) : lkOf L n = lkOf M n := by
  have hn := h n
  cases h1 : Gm.look n L with
  | none =>
    rw [h1] at hn
    cases h2 : Gm.look n M with
    | none => rw [lk_none h1, lk_none h2]
    | some d => rw [h2] at hn; cases hn
  | some c =>
    rw [h1] at hn
    cases h2 : Gm.look n M with
    | none => rw [h2] at hn; cases hn
    | some d =>
      rw [h2] at hn
      have hd : c.dat = d.dat := Option.some.inj hn
      rw [lk_some h1, lk_some h2]
      obtain ⟨n1, l1, v1, h1, b1, H1⟩ := c
      obtain ⟨n2, l2, v2, h2, b2, H2⟩ := d
      simp only [Ct.dat, Prod.mk.injEq] at hd
      obtain ⟨rfl, rfl, rfl, rfl, rfl⟩ := hd
      rfl
theorem look_iff {K V : Type} [DecidableEq K] {k : K} {v : V} : ∀ {L : List (K × V)}, L.Pairwise (fun p q => p.1 ≠ q.1) → (Gm.look k L = some v ↔ (k, v) ∈ L)
  | [], _ => by simp [Gm.look]
  | x :: t, h => by
    obtain ⟨h1, h2⟩ := List.pairwise_cons.1 h
    rw [Gm.look_cons]
    by_cases e : k = x.1
    · rw [if_pos e]
      constructor
      · intro h
        have : x.2 = v := Option.some.inj h
        rw [e, ← this]
        exact List.mem_cons_self ..
      · intro h
        rcases List.mem_cons.1 h with h | h
        · rw [← h]
        · exact absurd e.symm (h1 _ h)
    · rw [if_neg e, look_iff h2]
      constructor
      · exact fun h => List.mem_cons_of_mem _ h
      · intro h
        rcases List.mem_cons.1 h with h | h
        · exact absurd (by rw [← h]) e
        · exact h
theorem look_perm {K V : Type} [DecidableEq K] {L M : List (K × V)} (hp : L.Perm M) (hk : L.Pairwise (fun p q => p.1 ≠ q.1)) (k : K) : Gm.look k L = Gm.look k M := by
  have hk2 : M.Pairwise (fun p q => p.1 ≠ q.1) := hp.pairwise hk (fun h => h.symm)
  apply Option.ext
  intro v
  rw [look_iff hk, look_iff hk2]
  exact hp.mem_iff
/-- One list of counters is another one but for where their holds lie. -/
def Cps (D E : List (List UInt8 × Ct)) : Prop := E.map (fun p => (p.1, p.2.dat)) = D.map (fun p => (p.1, p.2.dat))
theorem Cps.look : ∀ {D E : List (List UInt8 × Ct)}, Cps D E → Eqv D E
  | [], [], _ => fun n => rfl
  | [], _ :: _, h => by simp [Cps] at h
  | _ :: _, [], h => by simp [Cps] at h
  | x :: D, y :: E, h => fun n => by
    simp only [Cps, List.map_cons, List.cons.injEq, Prod.mk.injEq] at h
    obtain ⟨⟨h1, h2⟩, h3⟩ := h
    have ih := Cps.look (D := D) (E := E) h3 n
    rw [Gm.look_cons, Gm.look_cons, h1]
    by_cases e : n = x.1
    · rw [if_pos e, if_pos e, Option.map_some, Option.map_some, h2]
    · rw [if_neg e, if_neg e]; exact ih
theorem Cps.app {D E : List (List UInt8 × Ct)} (h : Cps D E) {n : List UInt8} {c d : Ct} (hd : c.dat = d.dat) : Cps (D ++ [(n, c)]) (E ++ [(n, d)]) := by
  unfold Cps at h ⊢
  rw [List.map_append, List.map_append, h]
  simp [hd]
theorem Cps.keys {D E : List (List UInt8 × Ct)} (h : Cps D E) : E.map (·.1) = D.map (·.1) := by
  have := congrArg (List.map Prod.fst) h
  simpa [List.map_map, Function.comp_def] using this
theorem putM_new {K V : Type} [DecidableEq K] {k : K} {v : V} : ∀ {L : List (K × V)}, (∀ p ∈ L, k ≠ p.1) → Gm.putM k v L = L ++ [(k, v)]
  | [], _ => rfl
  | x :: t, h => by
    rw [Gm.putM, if_neg (h x (List.mem_cons_self ..)), putM_new (fun p hp => h p (List.mem_cons_of_mem _ hp))]
    rfl
/-- An op asked again with its answer as its number comes to the same. -/
theorem ctO_again (k A B q : Int) (c : Ct) : ctO k A B (ctO k A B q c).1.1 c = ctO k A B q c := by
  unfold ctO
  by_cases c4 : k = 4
  · subst c4
    simp only [show ¬ (4 : Int) = 2 from by decide, show ¬ (4 : Int) = 3 from by decide, if_false, if_true]
    unfold holdO
    by_cases h1 : c.val < A
    · simp only [if_pos h1]
    · simp only [if_neg h1]
      by_cases h2 : q < 1 ∨ (Gm.look q c.H).isSome = true
      · simp only [if_pos h2, if_pos (show ((0 : Int) < 1 ∨ (Gm.look 0 c.H).isSome = true) from Or.inl (by decide))]
      · simp only [if_neg h2]
  · simp only [if_neg c4]
theorem mapO_again (k A B q : Int) (n : List UInt8) (L : List (List UInt8 × Ct)) : mapO k A B (mapO k A B q n L).1.1 n L = mapO k A B q n L := by
  unfold Go.Proofs.Ytgajmiibkakobaa.mapO
  by_cases hr : (nameB n && opB k A B) = false
  · rw [if_pos hr, if_pos hr]
  · rw [if_neg hr, if_neg hr]
    cases hl : Gm.look n L with
    | none => rfl
    | some c =>
      simp only
      by_cases hk : k = 1
      · rw [if_pos hk, if_pos hk]
      · rw [if_neg hk, if_neg hk]
        exact ctO_again k A B q c
theorem mapO_num {k : Int} (h : k ≠ 4) (A B q q2 : Int) (n : List UInt8) (L : List (List UInt8 × Ct)) : mapO k A B q n L = mapO k A B q2 n L := by
  unfold mapO ctO
  simp only [if_neg h]
end Go.Proofs.Ytgajmiibkakobaa
