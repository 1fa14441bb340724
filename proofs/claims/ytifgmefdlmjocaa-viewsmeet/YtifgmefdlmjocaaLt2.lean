import Derived.Test.YtifgmefdlmjocaaLth
namespace Go.Proofs.Ytifgmefdlmjocaa
set_option linter.unusedVariables false
set_option linter.unusedSimpArgs false
theorem look_none {r : Int} {n : List UInt8} {L : List Ent} (h : ∀ x ∈ L, x.n ≠ n ∨ x.r ≠ r) : look r n L = none := by
  unfold look
  rw [List.find?_eq_none]
  intro x hx hk
  have := isK_iff.1 hk
  rcases h x hx with h | h
  · exact h this.2.symm
  · exact h this.1.symm
theorem putE_end {e : Ent} : ∀ {L : List Ent}, look e.r e.n L = none → putE e L = L ++ [e]
  | [], _ => rfl
  | y :: t, h => by
    unfold look at h
    rw [List.find?_cons] at h
    cases hk : isK e.r e.n y with
    | true => rw [hk] at h; cases h
    | false =>
      rw [hk] at h
      unfold putE
      rw [if_neg (by rw [hk]; simp), putE_end (L := t) h]
      rfl
theorem takeF_new : ∀ (rest A : List Ent) (m : Nat), NDn (A ++ rest) → (∀ e ∈ A ++ rest, e.r = 0 ∧ 1 ≤ e.v) → rest.foldl (takeStep 0) (A, m) = (A ++ rest, m + rest.length)
  | [], A, m, _, _ => by simp
  | e :: t, A, m, hd, hr => by
    have he := hr e (by simp)
    have hno : look 0 e.n A = none := look_none (fun x hx => Or.inl (by
      have := (List.pairwise_append.1 hd).2.2 x hx e (by simp)
      exact this))
    have hst : takeStep 0 (A, m) e = (A ++ [e], m + 1) := by
      unfold takeStep
      have hz : (lookD 0 e.n A).v = 0 := by unfold lookD; rw [hno]; rfl
      simp only
      rw [if_pos (by rw [hz]; omega)]
      have e0 : ({ e with r := 0 } : Ent) = e := by
        obtain ⟨er, en, ec, erc, ev, ed, eu, eh⟩ := e
        have := he.1
        simp only at this
        rw [this]
      rw [e0, putE_end (by rw [he.1]; exact hno)]
    rw [List.foldl_cons, hst, takeF_new t (A ++ [e]) (m + 1) (by simpa using hd) (by simpa using hr)]
    simp
    omega
theorem takeF_old {M : List Ent} (hM : NDn M) (hr : ∀ e ∈ M, e.r = 0) (m : Nat) : ∀ (ds : List Ent), (∀ e ∈ ds, ∃ e' ∈ M, e'.n = e.n ∧ e.v ≤ e'.v) → ds.foldl (takeStep 0) (M, m) = (M, m)
  | [], _ => rfl
  | e :: t, h => by
    obtain ⟨e', h1, h2, h3⟩ := h e List.mem_cons_self
    have hl := look_of hM h1
    rw [hr e' h1, h2] at hl
    have hst : takeStep 0 (M, m) e = (M, m) := by
      unfold takeStep
      have hz : lookD 0 e.n M = e' := by unfold lookD; rw [hl]; rfl
      simp only
      rw [if_neg (by rw [hz]; omega)]
    rw [List.foldl_cons, hst]
    exact takeF_old hM hr m t (fun x hx => h x (List.mem_cons_of_mem _ hx))
/-- What a digest of replica 0 is. -/
structure Dg0 (k : Nat) (L ds : List Ent) : Prop where
  mem : ∀ e, e ∈ ds ↔ e ∈ L
  nd : NDn ds
  len : ds.length ≤ 4
  dig : dgB ds = true
  r : ∀ e ∈ ds, e.r = 0 ∧ 1 ≤ e.v ∧ e.v ≤ k
theorem told_dg {k : Nat} {L ds : List Ent} (h : LI k L) (ht : Told 0 L ds) : Dg0 k L ds := by
  have ho : own 0 L = L := by
    unfold own
    rw [List.filter_eq_self]
    intro e he
    simp [h.r e he]
  obtain ⟨hp, hs⟩ := ht
  rw [ho] at hp
  have nd : NDn ds := (hp.pairwise_iff (fun {x y} hxy e => hxy e.symm)).2 h.nd
  refine ⟨fun e => hp.mem_iff, nd, by rw [hp.length_eq]; exact h.len, dgB_iff.2 ⟨fun e he => h.ok e (hp.mem_iff.1 he), fun i a b ha hb => ?_⟩, fun e he => ⟨h.r e (hp.mem_iff.1 he), h.v e (hp.mem_iff.1 he)⟩⟩
  obtain ⟨hi, ha'⟩ := List.getElem?_eq_some_iff.1 ha
  obtain ⟨hj, hb'⟩ := List.getElem?_eq_some_iff.1 hb
  have h1 := List.pairwise_iff_getElem.1 hs i (i + 1) hi hj (by omega)
  have h2 := List.pairwise_iff_getElem.1 nd i (i + 1) hi hj (by omega)
  rw [ha', hb'] at h1 h2
  cases hn : nlt a.n b.n with
  | true => rfl
  | false => exact absurd (nlt_ne hn h1) h2
theorem take_code {n : Nat} (hn : 2 ≤ n) {M ds : List Ent} (hM : M.length ≤ 4) (hl : ds.length ≤ 4) (hd : dgB ds = true) : takeCode 1 n 0 M ds = 0 := by
  have a := cntR_le 0 M
  have b := strangeC_le 0 M ds
  unfold takeCode
  rw [if_neg (by omega), if_neg (by omega), if_neg (by rw [hd]; simp), if_neg (by omega)]
theorem take_first {n k : Nat} (hn : 2 ≤ n) {L dl : List Ent} (h : Dg0 k L dl) : takeCode 1 n 0 [] dl = 0 ∧ takeNext 1 n 0 [] dl = (dl, dl.length) := by
  have hc := take_code (n := n) hn (M := []) (by simp) h.len h.dig
  refine ⟨hc, ?_⟩
  unfold takeNext
  rw [if_pos hc]
  have := takeF_new dl [] 0 (by simpa using h.nd) (by simpa using fun e he => ⟨(h.r e he).1, (h.r e he).2.1⟩)
  simpa [takeF] using this
theorem take_again {n k k' : Nat} (hn : 2 ≤ n) {L L' dl ds : List Ent} (h : Dg0 k L dl) (hs : Dg0 k' L' ds) (hmon : ∀ e ∈ L', ∃ e' ∈ L, e'.n = e.n ∧ e.v ≤ e'.v) : takeCode 1 n 0 dl ds = 0 ∧ takeNext 1 n 0 dl ds = (dl, 0) := by
  have hc := take_code (n := n) hn (M := dl) h.len hs.len hs.dig
  refine ⟨hc, ?_⟩
  unfold takeNext
  rw [if_pos hc]
  exact takeF_old h.nd (fun e he => (h.r e he).1) 0 ds (fun e he => by
    obtain ⟨e', h1, h2⟩ := hmon e ((hs.mem e).1 he)
    exact ⟨e', (h.mem e').2 h1, h2⟩)
theorem about_is {k : Nat} {L dl : List Ent} (h : Dg0 k L dl) {e : Ent} (he : e ∈ dl) : ∀ n : Nat, aboutS e.n dl (n + 1) = e.d ∧ aboutK e.n dl (n + 1) = true
  | 0 => by
    have hl := look_of h.nd he
    rw [(h.r e he).1] at hl
    have h0 : ((0 : Nat) : Int) = 0 := rfl
    constructor
    · simp only [aboutS, lookD, h0, hl]
      simp
    · simp only [aboutK, h0, hl]
      rfl
  | n + 1 => by
    obtain ⟨h1, h2⟩ := about_is h he n
    have hno : look ((n + 1 : Nat) : Int) e.n dl = none := look_none (fun x hx => Or.inr (by rw [(h.r x hx).1]; omega))
    constructor
    · rw [aboutS, h1]
      simp only [lookD, hno]
      simp [zed]
    · rw [aboutK, h2]
      rfl
end Go.Proofs.Ytifgmefdlmjocaa
