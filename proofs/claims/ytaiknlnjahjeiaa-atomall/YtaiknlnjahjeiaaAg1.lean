import Derived.Test.YtaiknlnjahjeiaaRf9
import Derived.Test.YtaiknlnjahjeiaaJoinF
namespace Go.Proofs.Ytaiknlnjahjeiaa
open Go.RowKit Go.PlainAid Go.MapKept
set_option linter.unusedVariables false
set_option linter.unusedSimpArgs false
theorem bl_lt : ∀ a b : List UInt8, Op.bytesLess a b = decide (a < b)
  | [], [] => rfl
  | [], _ :: _ => by simp [Op.bytesLess]
  | _ :: _, [] => by simp [Op.bytesLess]
  | x :: xs, y :: ys => by
    have ih := bl_lt xs ys
    simp only [Op.bytesLess, ih, List.cons_lt_cons_iff]
    by_cases h1 : x < y
    · simp [h1]
    · by_cases h2 : x = y
      · simp [h2]
      · simp [h1, h2]
theorem lt_of_gt {p n : List UInt8} (h : gtB p n = true) : n < p := by
  unfold gtB at h
  rw [bl_lt] at h
  simp only [Bool.not_eq_true', Bool.or_eq_false_iff, decide_eq_false_iff_not, beq_eq_false_iff_ne] at h
  have hle : n ≤ p := h.1
  by_cases h2 : n < p
  · exact h2
  · exact absurd (List.le_antisymm hle h2).symm h.2
theorem lt_of_ngt {p n : List UInt8} (h : gtB p n = false) (hne : p ≠ n) : p < n := by
  unfold gtB at h
  rw [bl_lt] at h
  simp only [Bool.not_eq_false', Bool.or_eq_true, decide_eq_true_eq, beq_iff_eq] at h
  exact h.resolve_right hne
def keysR (M : List RC) : List (List UInt8) := M.map RC.nm
/-- How a counter of the program and one of the document agree. -/
structure AgC (K : Nat) (c : Ct) (r : RC) : Prop where
  nm : c.nm = r.nm
  cap : c.lim = r.cap
  val : c.val = r.val
  held : c.held = sumH r.H
  amt : ∀ q, (Gm.look q c.H).getD 0 = amtR q r.H
  used : ∀ q, (Gm.look q c.H).isSome = true ↔ q ∈ r.U
  hu : ∀ p ∈ r.H, p.1 ∈ r.U
  pos : ∀ p ∈ r.H, 1 ≤ p.2
  kd : r.H.Pairwise (fun a b => a.1 ≠ b.1)
  hl : r.H.length ≤ K
  ul : r.U.length ≤ K
theorem AgC.ok {K : Nat} {c : Ct} {r : RC} (h : AgC K c r) (hc : c.Ok) : r.Ok K := ⟨by rw [← h.cap]; exact hc.lim, by rw [← h.val]; exact hc.val, by rw [← h.val, ← h.held, ← h.cap]; exact hc.sum, h.pos, h.kd, h.hl, h.ul⟩
theorem AgC.mono {K K' : Nat} {c : Ct} {r : RC} (h : AgC K c r) (hk : K ≤ K') : AgC K' c r := ⟨h.nm, h.cap, h.val, h.held, h.amt, h.used, h.hu, h.pos, h.kd, Nat.le_trans h.hl hk, Nat.le_trans h.ul hk⟩
/-- Whatever the lists' blocks. -/
theorem AgC.dat {K : Nat} {c d : Ct} {r : RC} (h : AgC K c r) (hd : c.dat = d.dat) : AgC K d r := by
  obtain ⟨n1, l1, v1, h1, b1, H1⟩ := c
  obtain ⟨n2, l2, v2, h2, b2, H2⟩ := d
  simp only [Ct.dat, Prod.mk.injEq] at hd
  obtain ⟨rfl, rfl, rfl, rfl, rfl⟩ := hd
  exact ⟨h.nm, h.cap, h.val, h.held, h.amt, h.used, h.hu, h.pos, h.kd, h.hl, h.ul⟩
theorem amtR_app (q : Int) (p : Int × Int) : ∀ H : List (Int × Int), (∀ x ∈ H, x.1 ≠ p.1) → amtR q (H ++ [p]) = if q = p.1 then p.2 else amtR q H
  | [], _ => by
    simp only [List.nil_append, amtR]
    by_cases e : p.1 = q
    · rw [if_pos e, if_pos e.symm]
    · rw [if_neg e, if_neg (fun h => e h.symm)]
  | x :: t, h => by
    have ih := amtR_app q p t (fun y hy => h y (List.mem_cons_of_mem _ hy))
    have hx := h x (List.mem_cons_self ..)
    simp only [List.cons_append, amtR, ih]
    by_cases e : x.1 = q
    · rw [if_pos e, if_pos e]
      rw [if_neg (fun e2 => hx (e.trans e2))]
    · rw [if_neg e, if_neg e]
theorem amtR_wo (q A : Int) : ∀ H : List (Int × Int), amtR q (wo A H) = if q = A then 0 else amtR q H
  | [] => by simp [wo, amtR]
  | x :: t => by
    have ih := amtR_wo q A t
    by_cases e : x.1 = A
    · have e1 : wo A (x :: t) = wo A t := by unfold wo; rw [List.filter_cons_of_neg (by simp [e])]
      rw [e1, ih, amtR]
      by_cases h : q = A
      · rw [if_pos h, if_pos h]
      · rw [if_neg h, if_neg h, if_neg (fun e2 => h (by rw [← e2, e]))]
    · have e1 : wo A (x :: t) = x :: wo A t := by unfold wo; rw [List.filter_cons_of_pos (by simpa using e)]
      rw [e1, amtR, amtR, ih]
      by_cases h : q = A
      · rw [if_pos h, if_pos h, if_neg (fun e2 => e (e2.trans h))]
      · rw [if_neg h, if_neg h]
theorem wo_same {q : Int} {H : List (Int × Int)} (h : ∀ p ∈ H, p.1 ≠ q) : wo q H = H := by
  unfold wo
  rw [List.filter_eq_self]
  intro p hp
  simpa using h p hp
/-- One op at a counter, on both sides. -/
theorem AgC.step {K : Nat} {c : Ct} {r : RC} (h : AgC K c r) (hc : c.Ok) (k A B q : Int) (hop : opB k A B = true) : (ctO k A B q c).1 = (rcO k A B q r).1 ∧
    ∀ (r' : RC) (hb : Nat), (rcO k A B q r).1.2 = 0 → (r'.nm = r.nm ∧ r'.cap = (rcO k A B q r).2.1 ∧ r'.val = (rcO k A B q r).2.2.1 ∧ r'.H = (rcO k A B q r).2.2.2.1 ∧ r'.U = (rcO k A B q r).2.2.2.2) → AgC (K + 1) ⟨c.nm, (ctO k A B q c).2.1, (ctO k A B q c).2.2.1, (ctO k A B q c).2.2.2.1, some hb, (ctO k A B q c).2.2.2.2⟩ r' := by
  obtain ⟨n1, l1, v1, h1, b1, H1⟩ := c
  obtain ⟨n2, l2, v2, hv2, H2, uv2, U2⟩ := r
  obtain ⟨rfl, rfl, rfl, e4, hamt, hused, hhu, hpos, hkd, hhl, hul⟩ := h
  simp only at e4 hamt hused hhu hpos hkd hhl hul ⊢
  have same : ∀ (r' : RC) (hb : Nat) (cap val : Int), (r'.nm = n1 ∧ r'.cap = cap ∧ r'.val = val ∧ r'.H = H2 ∧ r'.U = U2) → AgC (K + 1) ⟨n1, cap, val, h1, some hb, H1⟩ r' := fun r' hb cap val ⟨a1, a2, a3, a4, a5⟩ => ⟨a1.symm, a2.symm, a3.symm, by simp only; rw [a4]; exact e4, by rw [a4]; exact hamt, by rw [a5]; exact hused, by rw [a4, a5]; exact hhu, by rw [a4]; exact hpos, by rw [a4]; exact hkd, by rw [a4]; omega, by rw [a5]; omega⟩
  unfold ctO rcO
  by_cases c2 : k = 2
  · simp only [if_pos c2]
    unfold incO rincO
    simp only [← e4]
    by_cases hq : l1 < v1 + h1 + A
    · simp only [if_pos hq, RC.no]
      exact ⟨trivial, fun r' hb h0 => absurd h0 (by decide)⟩
    · simp only [if_neg hq]
      exact ⟨trivial, fun r' hb _ hd => same r' hb _ _ hd⟩
  simp only [if_neg c2]
  by_cases c3 : k = 3
  · simp only [if_pos c3]
    unfold decO rdecO
    simp only
    by_cases hq : v1 < A
    · simp only [if_pos hq, RC.no]
      exact ⟨trivial, fun r' hb h0 => absurd h0 (by decide)⟩
    · simp only [if_neg hq]
      exact ⟨trivial, fun r' hb _ hd => same r' hb _ _ hd⟩
  simp only [if_neg c3]
  by_cases c4 : k = 4
  · simp only [if_pos c4]
    subst c4
    simp [opB] at hop
    have bA := amtB_yes hop.1
    unfold holdO rholdO
    simp only
    by_cases hq : v1 < A
    · simp only [if_pos hq, RC.no]
      exact ⟨trivial, fun r' hb h0 => absurd h0 (by decide)⟩
    · simp only [if_neg hq]
      by_cases hu : q < 1 ∨ q ∈ U2
      · have hu2 : q < 1 ∨ (Gm.look q H1).isSome = true := hu.imp id (fun e => (hused q).2 e)
        simp only [if_pos hu, if_pos hu2, RC.no]
        exact ⟨trivial, fun r' hb h0 => absurd h0 (by decide)⟩
      · have hu2 : ¬ (q < 1 ∨ (Gm.look q H1).isSome = true) := fun e => hu (e.imp id (fun e => (hused q).1 e))
        simp only [if_neg hu, if_neg hu2]
        have hnq : ∀ p ∈ H2, p.1 ≠ q := fun p hp e => hu (Or.inr (e ▸ hhu p hp))
        refine ⟨trivial, fun r' hb _ ⟨a1, a2, a3, a4, a5⟩ => ⟨a1.symm, a2.symm, a3.symm, ?_, fun j => ?_, fun j => ?_, fun p hp => ?_, fun p hp => ?_, ?_, ?_, ?_⟩⟩
        · simp only
          rw [a4, wo_same hnq, sumH_app, e4]
          simp [sumH]
        · simp only
          rw [a4, wo_same hnq, look_put, amtR_app j (q, A) H2 hnq]
          by_cases e : j = q
          · rw [if_pos e, if_pos e]; rfl
          · rw [if_neg e, if_neg e]; exact hamt j
        · simp only
          rw [a5, look_put]
          by_cases e : j = q
          · rw [if_pos e]; simp [e]
          · rw [if_neg e, hused j]; simp [e]
        · rw [a4, wo_same hnq] at hp
          rw [a5]
          rcases List.mem_append.1 hp with hp | hp
          · exact List.mem_append_left _ (hhu p hp)
          · rw [List.mem_singleton] at hp
            rw [hp]
            exact List.mem_append_right _ (List.mem_singleton.2 rfl)
        · rw [a4, wo_same hnq] at hp
          rcases List.mem_append.1 hp with hp | hp
          · exact hpos p hp
          · rw [List.mem_singleton] at hp
            rw [hp]
            exact bA.1
        · rw [a4, wo_same hnq]
          exact List.pairwise_append.2 ⟨hkd, List.pairwise_singleton _ _, fun a ha b hb => by rw [List.mem_singleton] at hb; rw [hb]; exact hnq a ha⟩
        · rw [a4, wo_same hnq, List.length_append]; simp; omega
        · rw [a5, List.length_append]; simp; omega
  simp only [if_neg c4]
  by_cases c5 : k = 5 ∨ k = 6 ∨ k = 12
  · simp only [if_pos c5]
    unfold endO rendO Ytaiknlnjahjeiaa.amt
    simp only [hamt A]
    by_cases hq : amtR A H2 = 0
    · simp only [if_pos hq, RC.no]
      exact ⟨trivial, fun r' hb h0 => absurd h0 (by decide)⟩
    · simp only [if_neg hq]
      have hAU : A ∈ U2 := by
        rw [← hused A]
        cases hl : Gm.look A H1 with
        | none => have := hamt A; rw [hl] at this; exact absurd this.symm hq
        | some x => rfl
      refine ⟨trivial, fun r' hb _ ⟨a1, a2, a3, a4, a5⟩ => ⟨a1.symm, a2.symm, a3.symm, ?_, fun j => ?_, fun j => ?_, fun p hp => ?_, fun p hp => ?_, ?_, ?_, ?_⟩⟩
      · simp only
        rw [a4, wo_sum hkd, e4]
      · simp only
        rw [a4, look_put, amtR_wo]
        by_cases e : j = A
        · rw [if_pos e, if_pos e]; rfl
        · rw [if_neg e, if_neg e]; exact hamt j
      · simp only
        rw [a5, look_put]
        by_cases e : j = A
        · rw [if_pos e, e]; simp [hAU]
        · rw [if_neg e]; exact hused j
      · rw [a4] at hp
        rw [a5]
        exact hhu p (wo_sub hp)
      · rw [a4] at hp
        exact hpos p (wo_sub hp)
      · rw [a4]; exact wo_kd hkd
      · rw [a4]; have := wo_len A H2; omega
      · rw [a5]; omega
  simp only [if_neg c5]
  by_cases c8 : k = 8
  · simp only [if_pos c8]
    unfold takeO rtakeO
    simp only
    by_cases hv : v1 ≠ A
    · simp only [if_pos hv, RC.no]
      exact ⟨trivial, fun r' hb h0 => absurd h0 (by decide)⟩
    · simp only [if_neg hv]
      by_cases hq : v1 < B
      · simp only [if_pos hq, RC.no]
        exact ⟨trivial, fun r' hb h0 => absurd h0 (by decide)⟩
      · simp only [if_neg hq]
        exact ⟨trivial, fun r' hb _ hd => same r' hb _ _ hd⟩
  simp only [if_neg c8]
  by_cases c9 : k = 9
  · simp only [if_pos c9]
    unfold resetO rresetO
    simp only [← e4]
    by_cases hq : l1 < A + h1
    · simp only [if_pos hq, RC.no]
      exact ⟨trivial, fun r' hb h0 => absurd h0 (by decide)⟩
    · simp only [if_neg hq]
      exact ⟨trivial, fun r' hb _ hd => same r' hb _ _ hd⟩
  simp only [if_neg c9]
  by_cases c10 : k = 10
  · simp only [if_pos c10]
    unfold recapO rrecapO
    simp only [← e4]
    by_cases hq : A < v1 + h1
    · simp only [if_pos hq, RC.no]
      exact ⟨trivial, fun r' hb h0 => absurd h0 (by decide)⟩
    · simp only [if_neg hq]
      exact ⟨trivial, fun r' hb _ hd => same r' hb _ _ hd⟩
  simp only [if_neg c10]
  unfold readO rreadO
  exact ⟨rfl, fun r' hb _ hd => same r' hb _ _ hd⟩
end Go.Proofs.Ytaiknlnjahjeiaa
