import Derived.Test.YtadfmnlkfcigoaaBase
namespace Go.Proofs.Ytadfmnlkfcigoaa
set_option linter.unusedVariables false
set_option linter.unusedSimpArgs false
/-- A reply. -/
structure Rp where
  s : Int
  i : Int
  e : Int
  v : Int
  deriving DecidableEq
def rfind (i : Int) (R : List Rp) : Option Rp := R.find? fun x => decide (x.i = i)
def isCall (s i : Int) (x : Rp) : Bool := decide (x.s = s ∧ x.i = i)
def above (s i : Int) (P : List Rp) : Nat := P.countP fun x => decide (x.s = s ∧ i < x.i)
def lastOf (s i : Int) (P : List Rp) : Option Rp := (P.filter (isCall s i)).getLast?
def keptF (m : Nat) (s i : Int) (P : List Rp) : Option Rp := if above s i P < m then lastOf s i P else none
theorem above_app (s i : Int) (P : List Rp) (x : Rp) : above s i (P ++ [x]) = above s i P + if x.s = s ∧ i < x.i then 1 else 0 := by
  simp [above, List.countP_append, List.countP_cons]
theorem lastOf_app (s i : Int) (P : List Rp) (x : Rp) : lastOf s i (P ++ [x]) = if x.s = s ∧ x.i = i then some x else lastOf s i P := by
  unfold lastOf
  rw [List.filter_append]
  by_cases h : x.s = s ∧ x.i = i
  · rw [if_pos h]
    have : isCall s i x = true := by simp [isCall, h]
    simp [List.filter_cons, this]
  · rw [if_neg h]
    have : isCall s i x = false := by simp only [isCall, decide_eq_false_iff_not]; exact h
    simp [List.filter_cons, this]
/-- What comes of a reply in a sorted list. -/
def Ins (r : Rp) (R R' : List Rp) : Prop := ∃ k, k ≤ R.length ∧ R' = R.take k ++ r :: R.drop k ∧ (∀ x ∈ R.drop k, r.i < x.i) ∧ (k = 0 ∨ ∃ x, R[k - 1]? = some x ∧ x.i ≤ r.i)
def RPut (m : Nat) (r : Rp) (R R' : List Rp) : Prop :=
  (R.length = m ∧ (∃ x, R[0]? = some x ∧ r.i < x.i) ∧ R' = R) ∨ (R.length = m ∧ (∃ x, R[0]? = some x ∧ x.i ≤ r.i) ∧ Ins r R.tail R') ∨ (R.length < m ∧ Ins r R R')
theorem Ins.len {r : Rp} {R R' : List Rp} (h : Ins r R R') : R'.length = R.length + 1 := by
  obtain ⟨k, hk, rfl, _⟩ := h
  simp
  omega
theorem Ins.mem {r : Rp} {R R' : List Rp} (h : Ins r R R') (x : Rp) : x ∈ R' ↔ x = r ∨ x ∈ R := by
  obtain ⟨k, hk, rfl, _⟩ := h
  constructor
  · intro hx
    rcases List.mem_append.1 hx with h1 | h1
    · exact Or.inr (List.mem_of_mem_take h1)
    · rcases List.mem_cons.1 h1 with h2 | h2
      · exact Or.inl h2
      · exact Or.inr (List.mem_of_mem_drop h2)
  · intro hx
    rcases hx with rfl | hx
    · simp
    · rw [← List.take_append_drop k R] at hx
      rcases List.mem_append.1 hx with h1 | h1
      · exact List.mem_append.2 (Or.inl h1)
      · exact List.mem_append.2 (Or.inr (List.mem_cons_of_mem _ h1))
theorem Ins.sorted {r : Rp} {R R' : List Rp} (h : Ins r R R') (hs : R.Pairwise fun a b => a.i < b.i) (hn : ∀ x ∈ R, x.i ≠ r.i) : R'.Pairwise fun a b => a.i < b.i := by
  obtain ⟨k, hk, rfl, h1, h2⟩ := h
  have hs2 := hs
  rw [← List.take_append_drop k R] at hs2
  obtain ⟨a1, a2, a3⟩ := List.pairwise_append.1 hs2
  refine List.pairwise_append.2 ⟨a1, List.pairwise_cons.2 ⟨h1, a2⟩, ?_⟩
  intro x hx y hy
  rcases List.mem_cons.1 hy with rfl | hy
  · rcases h2 with rfl | ⟨z, hz, hzl⟩
    · simp at hx
    · have hzm : z ∈ R := List.mem_of_getElem? hz
      have hzr : z.i < y.i := by have := hn z hzm; omega
      obtain ⟨j, hj, rfl⟩ := List.getElem_of_mem hx
      have hj' : j < k := by simp at hj; omega
      rw [List.getElem_take]
      by_cases e : j = k - 1
      · subst e
        have : R[k - 1] = z := by rw [List.getElem?_eq_getElem (by omega)] at hz; exact Option.some.inj hz
        rw [this]
        exact hzr
      · have := (List.pairwise_iff_getElem.1 hs) j (k - 1) (by omega) (by omega) (by omega)
        have e2 : R[k - 1] = z := by rw [List.getElem?_eq_getElem (by omega)] at hz; exact Option.some.inj hz
        rw [e2] at this
        omega
  · exact a3 x hx y hy
/-- The replies of a session that are kept, of all that it had. -/
structure Kp (m : Nat) (s : Int) (P R : List Rp) : Prop where
  srt : R.Pairwise fun a b => a.i < b.i
  sub : ∀ x ∈ R, x ∈ P ∧ x.s = s
  out : ∀ x ∈ P, x.s = s → x ∈ R ∨ (R.length = m ∧ ∀ y ∈ R, x.i < y.i)
  len : R.length ≤ m
theorem Kp.nil (m : Nat) (s : Int) : Kp m s [] [] := ⟨List.Pairwise.nil, (fun x h => by cases h), (fun x h => by cases h), Nat.zero_le _⟩
theorem Kp.other {m : Nat} {s : Int} {P R : List Rp} (h : Kp m s P R) (r : Rp) (hr : r.s ≠ s) : Kp m s (P ++ [r]) R := by
  refine ⟨h.srt, fun x hx => ⟨List.mem_append.2 (Or.inl (h.sub x hx).1), (h.sub x hx).2⟩, fun x hx hs => ?_, h.len⟩
  rcases List.mem_append.1 hx with h1 | h1
  · exact h.out x h1 hs
  · simp at h1
    subst h1
    exact absurd hs hr
theorem Kp.put {m : Nat} {s : Int} {P R R' : List Rp} (h : Kp m s P R) (hm : 0 < m) (r : Rp) (hr : r.s = s) (hn : ∀ x ∈ P, x.s = s → x.i ≠ r.i) (hp : RPut m r R R') : Kp m s (P ++ [r]) R' := by
  have hnR : ∀ x ∈ R, x.i ≠ r.i := fun x hx => hn x (h.sub x hx).1 (h.sub x hx).2
  rcases hp with ⟨h1, ⟨x0, hx0, hl⟩, rfl⟩ | ⟨h1, ⟨x0, hx0, hl⟩, hi⟩ | ⟨h1, hi⟩
  · refine ⟨h.srt, fun x hx => ⟨List.mem_append.2 (Or.inl (h.sub x hx).1), (h.sub x hx).2⟩, fun x hx hs => ?_, h.len⟩
    rcases List.mem_append.1 hx with h2 | h2
    · exact h.out x h2 hs
    · simp at h2
      subst h2
      refine Or.inr ⟨h1, fun y hy => ?_⟩
      obtain ⟨j, hj, rfl⟩ := List.getElem_of_mem hy
      have e0 : R'[0] = x0 := by rw [List.getElem?_eq_getElem (by omega)] at hx0; exact Option.some.inj hx0
      by_cases e : j = 0
      · subst e; rw [e0]; exact hl
      · have := (List.pairwise_iff_getElem.1 h.srt) 0 j (by omega) hj (by omega)
        rw [e0] at this
        omega
  · cases R with
    | nil => simp at hx0
    | cons a t =>
      simp at hx0
      subst hx0
      simp only [List.tail_cons] at hi
      obtain ⟨hat, hts⟩ := List.pairwise_cons.1 h.srt
      have har : a.i < r.i := by have := hnR a (List.mem_cons_self ..); omega
      refine ⟨hi.sorted hts (fun x hx => hnR x (List.mem_cons_of_mem _ hx)), fun x hx => ?_, fun x hx hs => ?_, by have := hi.len; simp at h1; omega⟩
      · rcases (hi.mem x).1 hx with rfl | h2
        · exact ⟨by simp, hr⟩
        · have := h.sub x (List.mem_cons_of_mem _ h2)
          exact ⟨List.mem_append.2 (Or.inl this.1), this.2⟩
      · have hlen : R'.length = m := by have := hi.len; simp at h1; omega
        have low : ∀ x : Rp, x.i ≤ a.i → ∀ y ∈ R', x.i < y.i := fun x hxa y hy => by
          rcases (hi.mem y).1 hy with rfl | h3
          · omega
          · have := hat y h3; omega
        rcases List.mem_append.1 hx with h2 | h2
        · rcases h.out x h2 hs with h3 | ⟨_, h3⟩
          · rcases List.mem_cons.1 h3 with rfl | h4
            · exact Or.inr ⟨hlen, low x (by omega)⟩
            · exact Or.inl ((hi.mem x).2 (Or.inr h4))
          · exact Or.inr ⟨hlen, low x (by have := h3 a (List.mem_cons_self ..); omega)⟩
        · simp at h2
          subst h2
          exact Or.inl ((hi.mem x).2 (Or.inl rfl))
  · refine ⟨hi.sorted h.srt hnR, fun x hx => ?_, fun x hx hs => ?_, by have := hi.len; omega⟩
    · rcases (hi.mem x).1 hx with rfl | h2
      · exact ⟨by simp, hr⟩
      · exact ⟨List.mem_append.2 (Or.inl (h.sub x h2).1), (h.sub x h2).2⟩
    · rcases List.mem_append.1 hx with h2 | h2
      · rcases h.out x h2 hs with h3 | ⟨h3, _⟩
        · exact Or.inl ((hi.mem x).2 (Or.inr h3))
        · omega
      · simp at h2
        subst h2
        exact Or.inl ((hi.mem x).2 (Or.inl rfl))
/-- No call was answered twice. -/
def Once (P : List Rp) : Prop := P.Pairwise fun a b => ¬ (a.s = b.s ∧ a.i = b.i)
theorem Once.eq {P : List Rp} (h : Once P) {x y : Rp} (hx : x ∈ P) (hy : y ∈ P) (hs : x.s = y.s) (hi : x.i = y.i) : x = y := by
  induction P with
  | nil => cases hx
  | cons a t ih =>
    obtain ⟨h1, h2⟩ := List.pairwise_cons.1 h
    rcases List.mem_cons.1 hx with rfl | hx' <;> rcases List.mem_cons.1 hy with rfl | hy'
    · rfl
    · exact absurd ⟨hs, hi⟩ (h1 y hy')
    · exact absurd ⟨hs.symm, hi.symm⟩ (h1 x hx')
    · exact ih h2 hx' hy'
theorem lastOf_mem {s i : Int} {P : List Rp} {x : Rp} (h : lastOf s i P = some x) : x ∈ P ∧ x.s = s ∧ x.i = i := by
  unfold lastOf at h
  have := List.mem_of_getLast? h
  simp [isCall] at this
  exact this
theorem lastOf_none {s i : Int} {P : List Rp} (h : lastOf s i P = none) : ∀ x ∈ P, ¬ (x.s = s ∧ x.i = i) := by
  unfold lastOf at h
  rw [List.getLast?_eq_none_iff] at h
  intro x hx e
  have : x ∈ P.filter (isCall s i) := List.mem_filter.2 ⟨hx, by simp [isCall, e]⟩
  rw [h] at this
  cases this
theorem count_le (f : Rp → Bool) : ∀ (Q P : List Rp), Q.Nodup → (∀ x ∈ Q, x ∈ P) → Q.countP f ≤ P.countP f
  | [], P, _, _ => by simp
  | a :: t, P, hn, hs => by
    obtain ⟨h1, h2⟩ := List.nodup_cons.1 hn
    have hp := List.perm_cons_erase (hs a (List.mem_cons_self ..))
    rw [hp.countP_eq, List.countP_cons, List.countP_cons]
    have := count_le f t (P.erase a) h2 (fun x hx => (List.mem_erase_of_ne (fun e => by subst e; exact h1 hx)).2 (hs x (List.mem_cons_of_mem _ hx)))
    omega
theorem Kp.finds {m : Nat} {s : Int} {P R : List Rp} (h : Kp m s P R) (ho : Once P) (hm : 0 < m) (i : Int) : rfind i R = keptF m s i P := by
  have hnd : R.Nodup := h.srt.imp (fun {a b} hab e => by subst e; omega)
  cases hl : lastOf s i P with
  | none =>
    have h0 := lastOf_none hl
    have e1 : rfind i R = none := by
      unfold rfind
      rw [List.find?_eq_none]
      intro x hx
      have := h.sub x hx
      have := h0 x this.1
      simp
      intro e
      exact this ⟨(h.sub x hx).2, e⟩
    rw [e1]
    unfold keptF
    rw [hl]
    simp
  | some x =>
    obtain ⟨hx, hs, hi⟩ := lastOf_mem hl
    unfold keptF
    rw [hl]
    rcases h.out x hx hs with h1 | ⟨h1, h2⟩
    · have e1 : rfind i R = some x := by
        unfold rfind
        cases hf : R.find? (fun x => decide (x.i = i)) with
        | none =>
          rw [List.find?_eq_none] at hf
          have := hf x h1
          simp [hi] at this
        | some y =>
          have hy := List.mem_of_find?_eq_some hf
          have hyi : y.i = i := by simpa using List.find?_some hf
          rw [ho.eq (h.sub y hy).1 hx ((h.sub y hy).2.trans hs.symm) (hyi.trans hi.symm)]
      rw [e1, if_pos]
      have key : above s i P ≤ (R.filter fun y => decide (i < y.i)).length := by
        have hndP : (P.filter fun x => decide (x.s = s ∧ i < x.i)).Nodup := List.Pairwise.filter _ (ho.imp (fun {a b} hab e => by subst e; exact hab ⟨rfl, rfl⟩))
        have hc := count_le (fun _ => true) (P.filter fun x => decide (x.s = s ∧ i < x.i)) (R.filter fun y => decide (i < y.i)) hndP (fun y hy => by
          simp at hy
          obtain ⟨hyP, hys, hyi⟩ := hy
          rcases h.out y hyP hys with h3 | ⟨_, h3⟩
          · exact List.mem_filter.2 ⟨h3, by simpa using hyi⟩
          · have := h3 x h1
            omega)
        rw [List.countP_true, ← List.countP_eq_length_filter] at hc
        exact hc
      have lt : (R.filter fun y => decide (i < y.i)).length < R.length := by
        have : R.filter (fun y => decide (i < y.i)) ≠ R := fun e => by
          have := List.filter_eq_self.1 e x h1
          simp at this
          omega
        have hle := List.length_filter_le (fun y : Rp => decide (i < y.i)) R
        rcases Nat.lt_or_eq_of_le hle with h4 | h4
        · exact h4
        · exact absurd (List.filter_eq_self.2 (List.length_filter_eq_length_iff.1 h4)) this
      have := h.len
      omega
    · have e1 : rfind i R = none := by
        unfold rfind
        rw [List.find?_eq_none]
        intro y hy
        have := h2 y hy
        simp
        omega
      rw [e1, if_neg]
      have : R.length ≤ above s i P := by
        have hc := count_le (fun y => decide (y.s = s ∧ i < y.i)) R P hnd (fun y hy => (h.sub y hy).1)
        have e2 : R.countP (fun y => decide (y.s = s ∧ i < y.i)) = R.length := by
          rw [List.countP_eq_length]
          intro y hy
          have := h2 y hy
          simp
          exact ⟨(h.sub y hy).2, by omega⟩
        unfold above
        omega
      omega
end Go.Proofs.Ytadfmnlkfcigoaa
