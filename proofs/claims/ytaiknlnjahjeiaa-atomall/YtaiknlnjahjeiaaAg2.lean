import Derived.Test.YtaiknlnjahjeiaaAg1
namespace Go.Proofs.Ytaiknlnjahjeiaa
open Go.RowKit Go.PlainAid Go.MapKept
set_option linter.unusedVariables false
set_option linter.unusedSimpArgs false
/-- How the program's map and the document's agree. -/
structure AgM (K : Nat) (L : List (List UInt8 × Ct)) (M : List RC) : Prop where
  lk : ∀ n, (Gm.look n L = none ∧ rlook n M = none) ∨ ∃ c r, Gm.look n L = some c ∧ rlook n M = some r ∧ AgC K c r
  st : (keysR M).Pairwise (· < ·)
  ln : M.length ≤ K
theorem AgM.nil : AgM 0 [] [] := ⟨fun n => Or.inl ⟨rfl, rfl⟩, List.Pairwise.nil, Nat.le_refl _⟩
theorem AgM.mono {K K' : Nat} {L : List (List UInt8 × Ct)} {M : List RC} (h : AgM K L M) (hk : K ≤ K') : AgM K' L M := ⟨fun n => (h.lk n).imp id (fun ⟨c, r, a, b, d⟩ => ⟨c, r, a, b, d.mono hk⟩), h.st, Nat.le_trans h.ln hk⟩
theorem AgM.eqv {K : Nat} {L L2 : List (List UInt8 × Ct)} {M : List RC} (h : AgM K L M) (he : Eqv L L2) : AgM K L2 M := ⟨fun n => by
  have hn := he n
  rcases h.lk n with ⟨h1, h2⟩ | ⟨c, r, h1, h2, h3⟩
  · rw [h1] at hn
    cases h4 : Gm.look n L2 with
    | none => exact Or.inl ⟨rfl, h2⟩
    | some d => rw [h4] at hn; cases hn
  · rw [h1] at hn
    cases h4 : Gm.look n L2 with
    | none => rw [h4] at hn; cases hn
    | some d =>
      rw [h4] at hn
      exact Or.inr ⟨d, r, rfl, h2, h3.dat (Option.some.inj hn)⟩, h.st, h.ln⟩
theorem lt_ne {a b : List UInt8} (h : a < b) : a ≠ b := fun e => List.lt_irrefl b (e ▸ h)
theorem AgM.kd {K : Nat} {L : List (List UInt8 × Ct)} {M : List RC} (h : AgM K L M) : M.Pairwise (fun a b => a.nm ≠ b.nm) := by
  have := h.st
  unfold keysR at this
  rw [List.pairwise_map] at this
  exact this.imp (fun h => lt_ne h)
theorem rlook_of_mem {r : RC} : ∀ {M : List RC}, M.Pairwise (fun a b => a.nm ≠ b.nm) → r ∈ M → rlook r.nm M = some r
  | [], _, h => by cases h
  | y :: t, hk, h => by
    obtain ⟨h1, h2⟩ := List.pairwise_cons.1 hk
    rcases List.mem_cons.1 h with rfl | h
    · simp [rlook]
    · have hne := h1 r h
      have : rlook r.nm (y :: t) = rlook r.nm t := by simp [rlook, hne]
      rw [this]
      exact rlook_of_mem h2 h
theorem AgM.oks {K : Nat} {L : List (List UInt8 × Ct)} {M : List RC} (h : AgM K L M) (hL : ∀ p ∈ L, p.2.Ok) : ∀ r ∈ M, r.Ok K := fun r hr => by
  have h1 := rlook_of_mem h.kd hr
  rcases h.lk r.nm with ⟨_, h2⟩ | ⟨c, r2, h2, h3, h4⟩
  · rw [h1] at h2; cases h2
  · rw [h1] at h3
    cases h3
    exact h4.ok (hL _ (look_mem h2))
theorem AgM.all {B K : Nat} {L : List (List UInt8 × Ct)} {M : List RC} {w : World} (h : AgM K L M) (hL : ∀ p ∈ L, p.2.Ok) (hr : ∀ r ∈ M, r.Rd B w) : RAll B K M w := ⟨hr, h.oks hL, h.ln, h.kd⟩
theorem rlook_ins {c : RC} {m : List UInt8} : ∀ {M : List RC}, (∀ r ∈ M, r.nm ≠ c.nm) → rlook m (insR c M) = if m = c.nm then some c else rlook m M
  | [], _ => by
    by_cases e : m = c.nm
    · simp [insR, rlook, e]
    · have : ¬ c.nm = m := fun h => e h.symm
      simp [insR, rlook, e, this]
  | x :: t, h => by
    have ih := rlook_ins (m := m) (M := t) (fun r hr => h r (List.mem_cons_of_mem _ hr))
    have hx := h x (List.mem_cons_self ..)
    unfold insR
    have cons : ∀ (y : RC) (l : List RC), rlook m (y :: l) = if y.nm = m then some y else rlook m l := fun y l => by
      by_cases e : y.nm = m <;> simp [rlook, e]
    split
    · rw [cons]
      by_cases e : m = c.nm
      · rw [if_pos e.symm, if_pos e]
      · rw [if_neg (fun h => e h.symm), if_neg e]
    · rw [cons, cons, ih]
      by_cases e : m = c.nm
      · rw [if_pos e]
        rw [if_neg (fun h => hx (h.trans e)), if_pos e]
      · rw [if_neg e]
        by_cases e2 : x.nm = m
        · rw [if_pos e2, if_neg e]
        · rw [if_neg e2, if_neg e]
theorem ins_keys {c : RC} : ∀ {M : List RC}, (keysR M).Pairwise (· < ·) → (∀ r ∈ M, r.nm ≠ c.nm) → (keysR (insR c M)).Pairwise (· < ·)
  | [], _, _ => by simp [keysR, insR]
  | x :: t, h, hn => by
    have h' : (x.nm :: keysR t).Pairwise (· < ·) := h
    obtain ⟨h1, h2⟩ := List.pairwise_cons.1 h'
    unfold insR
    by_cases hg : gtB x.nm c.nm = true
    · rw [if_pos hg]
      have hl := lt_of_gt hg
      show (c.nm :: x.nm :: keysR t).Pairwise (· < ·)
      refine List.pairwise_cons.2 ⟨fun y hy => ?_, h'⟩
      rcases List.mem_cons.1 hy with rfl | hy
      · exact hl
      · exact List.lt_trans hl (h1 y hy)
    · rw [if_neg hg]
      have hl := lt_of_ngt (by simpa using hg) (hn x (List.mem_cons_self ..))
      show (x.nm :: keysR (insR c t)).Pairwise (· < ·)
      refine List.pairwise_cons.2 ⟨fun y hy => ?_, ins_keys h2 (fun r hr => hn r (List.mem_cons_of_mem _ hr))⟩
      obtain ⟨r, hr, rfl⟩ := List.mem_map.1 hy
      rcases insR_mem.1 hr with rfl | hr
      · exact hl
      · exact h1 r.nm (List.mem_map.2 ⟨r, hr, rfl⟩)
theorem set_keys {c' c : RC} {i : Nat} {M : List RC} (hi : M[i]? = some c) (hn : c'.nm = c.nm) : keysR (M.set i c') = keysR M := by
  unfold keysR
  rw [List.map_set]
  apply List.ext_getElem?
  intro j
  rw [List.getElem?_set]
  by_cases e : i = j
  · subst e
    rw [if_pos rfl]
    have hlt := (List.getElem?_eq_some_iff.1 hi).1
    rw [if_pos (by simpa using hlt), List.getElem?_map, hi, hn]
    rfl
  · rw [if_neg e]
theorem rlook_set {c' c : RC} {n m : List UInt8} : ∀ {M : List RC} {i : Nat}, M.Pairwise (fun a b => a.nm ≠ b.nm) → M[i]? = some c → c.nm = n → c'.nm = n → rlook m (M.set i c') = if m = n then some c' else rlook m M
  | [], i, _, h, _, _ => by simp at h
  | x :: t, 0, hk, h, h1, h2 => by
    simp at h
    subst h
    simp only [List.set_cons_zero]
    by_cases e : m = n
    · rw [if_pos e]; simp [rlook, h2, e]
    · rw [if_neg e]
      have e1 : ¬ x.nm = m := fun h => e (by rw [← h, h1])
      have e2 : ¬ c'.nm = m := fun h => e (by rw [← h, h2])
      simp [rlook, e1, e2]
  | x :: t, i + 1, hk, h, h1, h2 => by
    obtain ⟨k1, k2⟩ := List.pairwise_cons.1 hk
    have ht : t[i]? = some c := by simpa using h
    have ih := rlook_set (m := m) k2 ht h1 h2
    have hx : ¬ x.nm = n := by rw [← h1]; exact k1 c (List.mem_of_getElem? ht)
    have cons : ∀ (y : RC) (l : List RC), rlook m (y :: l) = if y.nm = m then some y else rlook m l := fun y l => by
      by_cases e : y.nm = m <;> simp [rlook, e]
    simp only [List.set_cons_succ]
    rw [cons, cons, ih]
    by_cases e : m = n
    · rw [if_pos e, if_neg (fun h => hx (h.trans e)), if_pos e]
    · rw [if_neg e]
      by_cases e2 : x.nm = m
      · rw [if_pos e2, if_neg e]
      · rw [if_neg e2, if_neg e]
/-- One op, on both sides. -/
theorem AgM.step {K : Nat} {L : List (List UInt8 × Ct)} {M M' : List RC} {k A B q a er : Int} {n : List UInt8} (h : AgM K L M) (hL : ∀ p ∈ L, p.2.nm = p.1 ∧ p.2.Ok) (hr : RRes k A B q n M a er M') :
    (a = (mapO k A B q n L).1.1 ∧ er = (mapO k A B q n L).1.2) ∧ ∀ hb, AgM (K + 1) (doL (mapO k A B q n L) n hb L) M' := by
  cases hr with
  | arg hq =>
    have e : mapO k A B q n L = ((0, 1), (0, 0, 0, [])) := by unfold mapO; rw [if_pos hq]
    rw [e]
    exact ⟨⟨rfl, rfl⟩, fun hb => h.mono (Nat.le_succ _)⟩
  | there hq hk c hl =>
    obtain ⟨c2, r2, h1, h2, h3⟩ := (h.lk n).resolve_left (fun e => by rw [hl] at e; cases e.2)
    have e : mapO k A B q n L = ((0, 101), (0, 0, 0, [])) := by unfold mapO; rw [if_neg (by rw [hq]; decide), h1]; simp only [if_pos hk]
    rw [e]
    exact ⟨⟨rfl, rfl⟩, fun hb => h.mono (Nat.le_succ _)⟩
  | cap hq hk hl hAB =>
    have h1 : Gm.look n L = none := by
      rcases h.lk n with ⟨h1, _⟩ | ⟨c2, r2, h1, h2, h3⟩
      · exact h1
      · rw [hl] at h2; cases h2
    have e : mapO k A B q n L = ((0, 61), (0, 0, 0, [])) := by unfold mapO; rw [if_neg (by rw [hq]; decide), h1]; simp only [if_pos hk]; unfold createO; rw [if_pos hAB]
    rw [e]
    exact ⟨⟨rfl, rfl⟩, fun hb => h.mono (Nat.le_succ _)⟩
  | made hq hk hl hAB =>
    have h1 : Gm.look n L = none := by
      rcases h.lk n with ⟨h1, _⟩ | ⟨c2, r2, h1, h2, h3⟩
      · exact h1
      · rw [hl] at h2; cases h2
    have e : mapO k A B q n L = ((0, 0), (A, B, 0, [])) := by unfold mapO; rw [if_neg (by rw [hq]; decide), h1]; simp only [if_pos hk]; unfold createO; rw [if_neg hAB]
    rw [e]
    have hno := rlook_none hl
    refine ⟨⟨rfl, rfl⟩, fun hb => ⟨fun m => ?_, ins_keys h.st hno, by rw [insR_len]; have := h.ln; omega⟩⟩
    have e2 : doL ((0, 0), (A, B, 0, [])) n hb L = Gm.putM n ⟨n, A, B, 0, some hb, []⟩ L := rfl
    rw [e2, look_put, rlook_ins hno]
    by_cases hm : m = n
    · rw [if_pos hm, if_pos (show m = (newRC n A B).nm from hm)]
      refine Or.inr ⟨_, _, rfl, rfl, ⟨rfl, rfl, rfl, rfl, fun _ => rfl, fun j => ?_, (fun p hp => by cases hp), (fun p hp => by cases hp), List.Pairwise.nil, Nat.zero_le _, Nat.zero_le _⟩⟩
      simp [Gm.look, newRC]
    · rw [if_neg hm, if_neg (show ¬ m = (newRC n A B).nm from hm)]
      exact (h.lk m).imp id (fun ⟨c, r, a, b, d⟩ => ⟨c, r, a, b, d.mono (Nat.le_succ _)⟩)
  | none hq hk hl =>
    have h1 : Gm.look n L = none := by
      rcases h.lk n with ⟨h1, _⟩ | ⟨c2, r2, h1, h2, h3⟩
      · exact h1
      · rw [hl] at h2; cases h2
    have e : mapO k A B q n L = ((0, 100), (0, 0, 0, [])) := by unfold mapO; rw [if_neg (by rw [hq]; decide), h1]; simp only [if_neg hk]
    rw [e]
    exact ⟨⟨rfl, rfl⟩, fun hb => h.mono (Nat.le_succ _)⟩
  | err hq hk c hl he =>
    obtain ⟨c2, r2, h1, h2, h3⟩ := (h.lk n).resolve_left (fun e => by rw [hl] at e; cases e.2)
    rw [hl] at h2
    cases h2
    have hop : opB k A B = true := by rw [Bool.and_eq_true] at hq; exact hq.2
    have hs := (h3.step (hL _ (look_mem h1)).2 k A B q hop).1
    have e : mapO k A B q n L = ctO k A B q c2 := by unfold mapO; rw [if_neg (by rw [hq]; decide), h1]; simp only [if_neg hk]
    have hne : (mapO k A B q n L).1.2 ≠ 0 := by rw [e, hs]; exact he
    refine ⟨⟨(mapO_err0 hne).symm, by rw [e, hs]⟩, fun hb => ?_⟩
    have : doL (mapO k A B q n L) n hb L = L := by unfold doL; rw [if_neg hne]
    rw [this]
    exact h.mono (Nat.le_succ _)
  | ok hq hk c c' i hl hi he hd =>
    obtain ⟨c2, r2, h1, h2, h3⟩ := (h.lk n).resolve_left (fun e => by rw [hl] at e; cases e.2)
    rw [hl] at h2
    cases h2
    have hop : opB k A B = true := by rw [Bool.and_eq_true] at hq; exact hq.2
    obtain ⟨hs, hs2⟩ := h3.step (hL _ (look_mem h1)).2 k A B q hop
    have e : mapO k A B q n L = ctO k A B q c2 := by unfold mapO; rw [if_neg (by rw [hq]; decide), h1]; simp only [if_neg hk]
    have h0 : (ctO k A B q c2).1.2 = 0 := by rw [hs]; exact he
    have hcn : c.nm = n := (rlook_mem hl).2
    have hc2n : c2.nm = n := (hL _ (look_mem h1)).1
    rw [e]
    refine ⟨⟨by rw [hs], by rw [h0]⟩, fun hb => ⟨fun m => ?_, by rw [set_keys hi hd.1]; exact h.st, by rw [List.length_set]; have := h.ln; omega⟩⟩
    unfold doL
    rw [if_pos h0, look_put, rlook_set h.kd hi hcn (hd.1.trans hcn)]
    by_cases hm : m = n
    · rw [if_pos hm, if_pos hm]
      have := hs2 c' hb he hd
      rw [hc2n] at this
      exact Or.inr ⟨_, _, rfl, rfl, this⟩
    · rw [if_neg hm, if_neg hm]
      exact (h.lk m).imp id (fun ⟨c, r, a, b, d⟩ => ⟨c, r, a, b, d.mono (Nat.le_succ _)⟩)
theorem AgM.peek {K : Nat} {L : List (List UInt8 × Ct)} {M : List RC} (h : AgM K L M) (n : List UInt8) : rpk n M = (((ctOf n L).val, (ctOf n L).held, (ctOf n L).lim), isOf n L) := by
  unfold rpk ctOf isOf
  rcases h.lk n with ⟨h1, h2⟩ | ⟨c, r, h1, h2, h3⟩
  · rw [h1, h2]; rfl
  · rw [h1, h2]
    simp only [Option.getD_some, Option.isSome_some]
    rw [h3.val, h3.held, h3.cap]
theorem sorted_eq {α : Type} {R : α → α → Prop} (ha : ∀ a b, R a b → R b a → a = b) : ∀ {xs ys : List α}, xs.Pairwise R → ys.Pairwise R → xs.Perm ys → xs = ys
  | [], ys, _, _, hp => (List.Perm.nil_eq hp)
  | x :: xs, [], _, _, hp => absurd hp.length_eq (by simp)
  | x :: xs, y :: ys, h1, h2, hp => by
    obtain ⟨a1, a2⟩ := List.pairwise_cons.1 h1
    obtain ⟨b1, b2⟩ := List.pairwise_cons.1 h2
    have e : x = y := by
      have hx : x ∈ y :: ys := hp.mem_iff.1 (List.mem_cons_self ..)
      have hy : y ∈ x :: xs := hp.mem_iff.2 (List.mem_cons_self ..)
      rcases List.mem_cons.1 hx with h | h
      · exact h
      · rcases List.mem_cons.1 hy with h' | h'
        · exact h'.symm
        · exact ha x y (a1 y h') (b1 x h)
    subst e
    rw [sorted_eq ha a2 b2 ((List.perm_cons x).1 hp)]
theorem AgM.names {K : Nat} {L : List (List UInt8 × Ct)} {M : List RC} (h : AgM K L M) (hk : L.Pairwise (fun p q => p.1 ≠ q.1)) {ys : List (List UInt8)} (hp : ys.Perm (L.map (·.1))) (hs : ys.Pairwise (fun a b => a ≤ b)) : ys = keysR M := by
  refine sorted_eq (R := fun a b : List UInt8 => a ≤ b) (fun a b h1 h2 => List.le_antisymm h1 h2) hs (h.st.imp (fun h => List.le_of_lt h)) (hp.trans ?_)
  have n1 : (L.map (·.1)).Nodup := by rw [List.nodup_iff_pairwise_ne, List.pairwise_map]; exact hk
  have n2 : (keysR M).Nodup := by rw [List.nodup_iff_pairwise_ne]; exact h.st.imp (fun h => lt_ne h)
  refine (List.perm_ext_iff_of_nodup n1 n2).2 (fun m => ?_)
  constructor
  · intro hm
    obtain ⟨p, hp, rfl⟩ := List.mem_map.1 hm
    rcases h.lk p.1 with ⟨h1, _⟩ | ⟨c, r, h1, h2, _⟩
    · have := (look_iff hk).2 (show (p.1, p.2) ∈ L from hp)
      rw [h1] at this
      cases this
    · obtain ⟨a1, a2⟩ := rlook_mem h2
      exact List.mem_map.2 ⟨r, a1, a2⟩
  · intro hm
    obtain ⟨r, hr, rfl⟩ := List.mem_map.1 hm
    rcases h.lk r.nm with ⟨_, h1⟩ | ⟨c, r2, h1, h2, _⟩
    · rw [rlook_of_mem h.kd hr] at h1
      cases h1
    · exact List.mem_map.2 ⟨_, look_mem h1, rfl⟩
end Go.Proofs.Ytaiknlnjahjeiaa
