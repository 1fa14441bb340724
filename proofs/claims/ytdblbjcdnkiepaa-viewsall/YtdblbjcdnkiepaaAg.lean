import Derived.Test.YtdblbjcdnkiepaaRg
import Derived.Test.YtdblbjcdnkiepaaTlo
namespace Go.Proofs.Ytdblbjcdnkiepaa
open Go.RowKit Go.PlainAid Go.MapKept
set_option linter.unusedVariables false
set_option linter.unusedSimpArgs false
/-- The last one of a replica and a name, if there is one. -/
def lastO (r : Int) (n : List UInt8) (A : List Ent) : Option Ent := A.foldl (fun x e => if isK r n e = true then some e else x) none
theorem lastO_app (r : Int) (n : List UInt8) (A : List Ent) (e : Ent) : lastO r n (A ++ [e]) = if isK r n e = true then some e else lastO r n A := by simp [lastO]
theorem lastD_is (r : Int) (n : List UInt8) (A : List Ent) : lastD r n A = (lastO r n A).getD zed := by
  suffices h : ∀ (A : List Ent) (x : Ent) (y : Option Ent), x = y.getD zed → A.foldl (fun x e => if isK r n e = true then e else x) x = (A.foldl (fun x e => if isK r n e = true then some e else x) y).getD zed from h A zed none rfl
  intro A
  induction A with
  | nil => intro x y h; exact h
  | cons e t ih =>
    intro x y h
    simp only [List.foldl_cons]
    apply ih
    split
    · rfl
    · exact h
theorem lastO_mem (r : Int) (n : List UInt8) (A : List Ent) : (lastO r n A).isSome = true ↔ ∃ e ∈ A, e.r = r ∧ e.n = n := by
  suffices h : ∀ (A : List Ent) (y : Option Ent), (A.foldl (fun x e => if isK r n e = true then some e else x) y).isSome = true ↔ (y.isSome = true ∨ ∃ e ∈ A, e.r = r ∧ e.n = n) from by
    have := h A none
    simpa [lastO] using this
  intro A
  induction A with
  | nil => intro y; simp
  | cons e t ih =>
    intro y
    simp only [List.foldl_cons]
    rw [ih]
    by_cases hk : isK r n e = true
    · rw [if_pos hk]
      have := isK_iff.1 hk
      constructor
      · intro _; exact Or.inr ⟨e, List.mem_cons_self .., this.1.symm, this.2.symm⟩
      · intro _; exact Or.inl rfl
    · rw [if_neg hk]
      constructor
      · rintro (h | ⟨x, hx, h⟩)
        · exact Or.inl h
        · exact Or.inr ⟨x, List.mem_cons_of_mem _ hx, h⟩
      · rintro (h | ⟨x, hx, h⟩)
        · exact Or.inl h
        · rcases List.mem_cons.1 hx with rfl | hx
          · exact absurd (isK_iff.2 ⟨h.1.symm, h.2.symm⟩) hk
          · exact Or.inr ⟨x, hx, h⟩
def KN (L : List Ent) : Prop := L.Pairwise fun a b => ¬ (a.r = b.r ∧ a.n = b.n)
theorem mem_put {e y : Ent} : ∀ {L : List Ent}, y ∈ putE e L → y = e ∨ y ∈ L
  | [], h => by simp [putE] at h; exact Or.inl h
  | x :: t, h => by
    simp only [putE] at h
    split at h
    · rcases List.mem_cons.1 h with h | h
      · exact Or.inl h
      · exact Or.inr (List.mem_cons_of_mem _ h)
    · rcases List.mem_cons.1 h with h | h
      · exact Or.inr (by rw [h]; exact List.mem_cons_self ..)
      · exact (mem_put h).imp id (List.mem_cons_of_mem _)
theorem put_len (e : Ent) : ∀ L : List Ent, (putE e L).length ≤ L.length + 1
  | [] => by simp [putE]
  | x :: t => by
    have := put_len e t
    simp only [putE]
    split <;> simp <;> omega
theorem KN.put {e : Ent} : ∀ {L : List Ent}, KN L → KN (putE e L)
  | [], h => List.pairwise_cons.2 ⟨fun _ h => (by cases h), List.Pairwise.nil⟩
  | x :: t, h => by
    obtain ⟨h1, h2⟩ := List.pairwise_cons.1 h
    simp only [putE]
    by_cases hk : isK e.r e.n x = true
    · rw [if_pos hk]
      have he := isK_iff.1 hk
      exact List.pairwise_cons.2 ⟨fun b hb hh => h1 b hb ⟨he.1.symm.trans hh.1, he.2.symm.trans hh.2⟩, h2⟩
    · rw [if_neg hk]
      refine List.pairwise_cons.2 ⟨fun b hb hh => ?_, KN.put (L := t) h2⟩
      rcases mem_put hb with rfl | hb
      · exact hk (isK_iff.2 ⟨hh.1.symm, hh.2.symm⟩)
      · exact h1 b hb hh
theorem look_put (e : Ent) (r : Int) (n : List UInt8) : ∀ L : List Ent, look r n (putE e L) = if isK r n e = true then some e else look r n L
  | [] => by
    simp only [putE, look, List.find?_cons, List.find?_nil]
    cases isK r n e <;> rfl
  | x :: t => by
    have ih := look_put e r n t
    simp only [putE]
    by_cases hk : isK e.r e.n x = true
    · rw [if_pos hk]
      have he := isK_iff.1 hk
      have hx : isK r n x = isK r n e := by simp [isK, he.1, he.2]
      simp only [look, List.find?_cons, hx]
      cases isK r n e <;> rfl
    · rw [if_neg hk]
      unfold look at ih ⊢
      simp only [List.find?_cons]
      rw [ih]
      cases h1 : isK r n x <;> cases h2 : isK r n e
      · rfl
      · rfl
      · rfl
      · have a := isK_iff.1 h1
        have b := isK_iff.1 h2
        exact absurd (isK_iff.2 ⟨b.1.symm.trans a.1, b.2.symm.trans a.2⟩) hk
theorem KN.look {L : List Ent} (h : KN L) {e : Ent} (he : e ∈ L) : look e.r e.n L = some e := by
  induction L with
  | nil => cases he
  | cons x t ih =>
    obtain ⟨h1, h2⟩ := List.pairwise_cons.1 h
    unfold Go.Proofs.Ytdblbjcdnkiepaa.look
    rw [List.find?_cons]
    rcases List.mem_cons.1 he with rfl | ht
    · rw [show isK e.r e.n e = true from isK_iff.2 ⟨rfl, rfl⟩]
    · have : isK e.r e.n x = false := by
        cases hk : isK e.r e.n x
        · rfl
        · have := isK_iff.1 hk
          exact absurd ⟨this.1.symm, this.2.symm⟩ (h1 e ht)
      rw [this]
      exact ih h2 ht
theorem look_key {r : Int} {n : List UInt8} {L : List Ent} {e : Ent} (h : look r n L = some e) : e ∈ L ∧ e.r = r ∧ e.n = n := by
  have h1 := List.mem_of_find?_eq_some h
  have h2 := isK_iff.1 (List.find?_some h)
  exact ⟨h1, h2.1.symm, h2.2.symm⟩
theorem mem_ins {nm x : List UInt8} : ∀ {l : List (List UInt8)}, x ∈ insN nm l ↔ x = nm ∨ x ∈ l
  | [] => by simp [insN]
  | y :: t => by
    have ih := mem_ins (nm := nm) (x := x) (l := t)
    simp only [insN]
    split
    · simp only [List.mem_cons, ih]
      constructor
      · rintro (h | h | h) <;> simp [h]
      · rintro (h | h | h) <;> simp [h]
    · split
      · rename_i hy
        subst hy
        simp
      · simp
theorem nlt_or {a b : List UInt8} (h : nlt a b = false) : a = b ∨ nlt b a = true := by
  have := nlt_tri a b
  rw [h] at this
  cases h2 : nlt b a
  · rw [h2] at this
    cases h3 : (b == a)
    · rw [h3] at this; cases this
    · have h4 : b = a := by simpa using h3
      exact Or.inl h4.symm
  · exact Or.inr rfl
def Ups (l : List (List UInt8)) : Prop := l.Pairwise fun a b => nlt a b = true
theorem Ups.ins {nm : List UInt8} : ∀ {l : List (List UInt8)}, Ups l → Ups (insN nm l)
  | [], h => List.pairwise_cons.2 ⟨fun _ h => (by cases h), List.Pairwise.nil⟩
  | y :: t, h => by
    obtain ⟨h1, h2⟩ := List.pairwise_cons.1 h
    simp only [insN]
    by_cases c1 : nlt y nm = true
    · rw [if_pos c1]
      refine List.pairwise_cons.2 ⟨fun b hb => ?_, Ups.ins h2⟩
      rcases mem_ins.1 hb with rfl | hb
      · exact c1
      · exact h1 b hb
    · rw [if_neg c1]
      by_cases c2 : y = nm
      · rw [if_pos c2]
        subst c2
        exact h
      · rw [if_neg c2]
        have c3 : nlt nm y = true := (nlt_or (by simpa using c1)).resolve_left c2
        refine List.pairwise_cons.2 ⟨fun b hb => ?_, h⟩
        rcases List.mem_cons.1 hb with rfl | hb
        · exact c3
        · exact nlt_trans _ _ _ c3 (h1 b hb)
theorem nms_ups (r : Int) (A : List Ent) : Ups (nmsL r A) := by
  suffices h : ∀ (A : List Ent) (o : List (List UInt8)), Ups o → Ups (A.foldl (fun o e => if e.r = r then insN e.n o else o) o) from h A [] List.Pairwise.nil
  intro A
  induction A with
  | nil => intro o h; exact h
  | cons e t ih =>
    intro o h
    simp only [List.foldl_cons]
    apply ih
    split
    · exact h.ins
    · exact h
theorem mem_nms (r : Int) (n : List UInt8) (A : List Ent) : n ∈ nmsL r A ↔ ∃ e ∈ A, e.r = r ∧ e.n = n := by
  suffices h : ∀ (A : List Ent) (o : List (List UInt8)), n ∈ A.foldl (fun o e => if e.r = r then insN e.n o else o) o ↔ (n ∈ o ∨ ∃ e ∈ A, e.r = r ∧ e.n = n) from by simpa [nmsL] using h A []
  intro A
  induction A with
  | nil => intro o; simp
  | cons e t ih =>
    intro o
    simp only [List.foldl_cons]
    rw [ih]
    by_cases hr : e.r = r
    · rw [if_pos hr, mem_ins]
      constructor
      · rintro ((h | h) | ⟨x, hx, h⟩)
        · exact Or.inr ⟨e, List.mem_cons_self .., hr, h.symm⟩
        · exact Or.inl h
        · exact Or.inr ⟨x, List.mem_cons_of_mem _ hx, h⟩
      · rintro (h | ⟨x, hx, h⟩)
        · exact Or.inl (Or.inr h)
        · rcases List.mem_cons.1 hx with rfl | hx
          · exact Or.inl (Or.inl h.2.symm)
          · exact Or.inr ⟨x, hx, h⟩
    · rw [if_neg hr]
      constructor
      · rintro (h | ⟨x, hx, h⟩)
        · exact Or.inl h
        · exact Or.inr ⟨x, List.mem_cons_of_mem _ hx, h⟩
      · rintro (h | ⟨x, hx, h⟩)
        · exact Or.inl h
        · rcases List.mem_cons.1 hx with rfl | hx
          · exact absurd h.1 hr
          · exact Or.inr ⟨x, hx, h⟩
theorem ups_ext : ∀ {l m : List (List UInt8)}, Ups l → Ups m → (∀ x, x ∈ l ↔ x ∈ m) → l = m
  | [], [], _, _, _ => rfl
  | [], b :: m, _, _, h => by have := (h b).2 (List.mem_cons_self ..); cases this
  | a :: l, [], _, _, h => by have := (h a).1 (List.mem_cons_self ..); cases this
  | a :: l, b :: m, h1, h2, h => by
    obtain ⟨a1, a2⟩ := List.pairwise_cons.1 h1
    obtain ⟨b1, b2⟩ := List.pairwise_cons.1 h2
    have hab : a = b := by
      rcases List.mem_cons.1 ((h a).1 (List.mem_cons_self ..)) with h3 | h3
      · exact h3
      · rcases List.mem_cons.1 ((h b).2 (List.mem_cons_self ..)) with h4 | h4
        · exact h4.symm
        · have h5 := nlt_trans _ _ _ (b1 a h3) (a1 b h4)
          rw [nlt_irrefl] at h5
          cases h5
    subst hab
    congr 1
    refine ups_ext a2 b2 fun x => ?_
    constructor
    · intro hx
      rcases List.mem_cons.1 ((h x).1 (List.mem_cons_of_mem _ hx)) with h3 | h3
      · subst h3
        have := a1 x hx
        rw [nlt_irrefl] at this
        cases this
      · exact h3
    · intro hx
      rcases List.mem_cons.1 ((h x).2 (List.mem_cons_of_mem _ hx)) with h3 | h3
      · subst h3
        have := b1 x hx
        rw [nlt_irrefl] at this
        cases this
      · exact h3
theorem len_le_sub {α : Type} [DecidableEq α] : ∀ {l m : List α}, l.Nodup → (∀ x ∈ l, x ∈ m) → l.length ≤ m.length
  | [], m, _, _ => Nat.zero_le _
  | a :: t, m, hn, hs => by
    obtain ⟨h1, h2⟩ := List.nodup_cons.1 hn
    have ha := hs a (List.mem_cons_self ..)
    have ih := len_le_sub (l := t) (m := m.erase a) h2 (fun x hx => (List.mem_erase_of_ne (fun e => h1 (by rw [← e]; exact hx))).2 (hs x (List.mem_cons_of_mem _ hx)))
    rw [List.length_erase_of_mem ha] at ih
    have := List.length_pos_of_mem ha
    simp
    omega
end Go.Proofs.Ytdblbjcdnkiepaa
