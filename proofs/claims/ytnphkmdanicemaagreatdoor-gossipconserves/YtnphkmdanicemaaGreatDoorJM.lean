import Derived.Deep.Quiet
import Derived.Test.YtnphkmdanicemaaGreatDoorVBase
namespace Go.Proofs.YtnphkmdanicemaaGreatDoor
/- A region that draws its order: reads that yield the same in every world of a class, beside a chain of operations with an effect, each of which waits for the one ahead of it. Behind the operation z, ahead of which all others must have come up, the world need not be of the class (z: beyond the operations, if there is none). -/
section
variable {P : Program} {ops : Array Oper} {md : Region.Mode} {C : World → Prop} {eff : Nat → Bool} {Q : Act → World → Prop} {z : Nat}

def Yld (P : Program) (ops : Array Oper) (C : World → Prop) (o : Oper) (v : Value) (a : Act) : Prop :=
  (Region.wanted o (yielded ops a.tmps) = true ∧ ∀ w, C w → (execOp a.eval o).run P w = .ok (.value v) w) ∨ (Region.wanted o (yielded ops a.tmps) = false ∧ v = undef)
def Eff (P : Program) (ops : Array Oper) (o : Oper) (K : Act → World → Prop) (a : Act) (w : World) : Prop :=
  (Region.wanted o (yielded ops a.tmps) = true ∧ ((∃ v w1, ((execOp a.eval o).run P w = .ok (.value v) w1 ∨ ((execOp a.eval o).run P w = .ok .skip w1 ∧ v = undef)) ∧ K (a.put o.dst v) w1) ∨ (∃ f args, (execOp a.eval o).run P w = .ok (.enter f args) w ∧ Calls P f args w fun e w' => ∃ v, e = .returned v ∧ K (a.put o.dst v) w')))
  ∨ (Region.wanted o (yielded ops a.tmps) = false ∧ K (a.put o.dst undef) w)
def mOp (P : Program) (ops : Array Oper) (C : World → Prop) (eff : Nat → Bool) (i : Nat) (K : Act → World → Prop) (a : Act) (w : World) : Prop :=
  ∀ o, ops[i]? = some o → if eff i then Eff P ops o K a w else ∃ v, Yld P ops C o v a ∧ K (a.put o.dst v) w
def wpMix (P : Program) (md : Region.Mode) (ops : Array Oper) (C : World → Prop) (eff : Nat → Bool) (z : Nat) (Q : Act → World → Prop) : Nat → Array Bool → Act → World → Prop
  | 0, listed, a, w => (listed.getD z false = false → C w) ∧ Region.ready md ops listed = [] ∧ Q a w
  | fuel + 1, listed, a, w => (listed.getD z false = false → C w) ∧ (Region.ready md ops listed = [] → Q a w) ∧ ∀ i ∈ Region.ready md ops listed, mOp P ops C eff i (wpMix P md ops C eff z Q fuel (listed.setIfInBounds i true)) a w

theorem Eff.some {o : Oper} {K : Act → World → Prop} {a : Act} {w : World} (h : Eff P ops o K a w) : ∃ v w1, K (a.put o.dst v) w1 := by
  rcases h with ⟨_, ⟨v, w1, _, hk⟩ | ⟨f, args, _, hc⟩⟩ | ⟨_, hk⟩
  · exact ⟨v, w1, hk⟩
  · obtain ⟨e, w', _, ⟨v, _, hk⟩, _⟩ := hc []
    exact ⟨v, w', hk⟩
  · exact ⟨undef, w, hk⟩
theorem Eff.turn {o : Oper} {K K' : Act → World → Prop} {a a' : Act} {w : World} (he : execOp a'.eval o = execOp a.eval o) (hw : Region.wanted o (yielded ops a'.tmps) = Region.wanted o (yielded ops a.tmps))
    (hK : ∀ v w1, K (a.put o.dst v) w1 → K' (a'.put o.dst v) w1) (h : Eff P ops o K a w) : Eff P ops o K' a' w := by
  unfold Eff at *
  rw [he, hw]
  rcases h with ⟨h0, ⟨v, w1, h1, hk⟩ | ⟨f, args, h1, hc⟩⟩ | ⟨h0, hk⟩
  · exact Or.inl ⟨h0, Or.inl ⟨v, w1, h1, hK _ _ hk⟩⟩
  · exact Or.inl ⟨h0, Or.inr ⟨f, args, h1, hc.mono fun e w' ⟨v, he, hk⟩ => ⟨v, he, hK _ _ hk⟩⟩⟩
  · exact Or.inr ⟨h0, hK _ _ hk⟩
theorem Yld.turn {o : Oper} {v : Value} {a a' : Act} (he : execOp a'.eval o = execOp a.eval o) (hw : Region.wanted o (yielded ops a'.tmps) = Region.wanted o (yielded ops a.tmps)) (h : Yld P ops C o v a) : Yld P ops C o v a' := by
  unfold Yld at *
  rw [he, hw]
  exact h
theorem Yld.one {o : Oper} {v v' : Value} {a : Act} {w : World} (hC : C w) (h : Yld P ops C o v a) (h' : Yld P ops C o v' a) : v' = v := by
  rcases h with ⟨h0, h1⟩ | ⟨h0, h1⟩ <;> rcases h' with ⟨k0, k1⟩ | ⟨k0, k1⟩
  · have := (h1 w hC).symm.trans (k1 w hC)
    cases this
    rfl
  · rw [h0] at k0; cases k0
  · rw [h0] at k0; cases k0
  · rw [h1, k1]

theorem notOn {i : Nat} {oj : Oper} {listed : Array Bool} (hr : i ∈ Region.ready md ops listed) (hall : ∀ e ∈ oj.after, Region.binds md e = true → listed.getD e.on false = true) : ∀ e ∈ oj.after, Region.binds md e = true → e.on ≠ i := fun e he hb heq => by
  have h1 := hall e he hb
  have h0 := (mem_ready.1 hr).1
  rw [heq] at h1
  rcases Nat.lt_or_ge i listed.size with h' | h'
  · simp [h'] at h0 h1; rw [h0] at h1; cases h1
  · simp [Array.getElem?_eq_none h'] at h1
/-- What has come up is closed under what it waits for. -/
def Closed (md : Region.Mode) (ops : Array Oper) (listed : Array Bool) : Prop := listed.size = ops.size ∧ ∀ j oj, ops[j]? = some oj → listed.getD j false = true → ∀ e ∈ oj.after, Region.binds md e = true → listed.getD e.on false = true
theorem getD_false_of_true {listed : Array Bool} {j : Nat} (h : listed.getD j true = false) : listed.getD j false = false := by
  rcases Nat.lt_or_ge j listed.size with h' | h'
  · simp [h'] at h ⊢; exact h
  · simp [Array.getElem?_eq_none h'] at h
theorem Closed.set {listed : Array Bool} {i : Nat} (h : Closed md ops listed) (hi : i ∈ Region.ready md ops listed) : Closed md ops (listed.setIfInBounds i true) := by
  obtain ⟨_, oi, hoi, hall⟩ := mem_ready.1 hi
  have mono : ∀ k, listed.getD k false = true → (listed.setIfInBounds i true).getD k false = true := fun k hk => by
    by_cases hik : i = k
    · subst hik
      rcases Nat.lt_or_ge i listed.size with h' | h'
      · simp [h']
      · simp [Array.getElem?_eq_none h'] at hk
    · rw [getD_set_ne false hik]; exact hk
  refine ⟨by simp [h.1], fun j oj hj hl e he hb => ?_⟩
  by_cases hij : i = j
  · subst hij
    rw [hoi] at hj
    cases hj
    exact mono _ (hall e he hb)
  · rw [getD_set_ne false hij] at hl
    exact mono _ (h.2 j oj hj hl e he hb)
def reach (md : Region.Mode) (ops : Array Oper) : Nat → List Nat → List Nat
  | 0, l => l
  | n + 1, l => reach md ops n ((List.range ops.size).filter fun i => l.contains i || l.any fun j => match ops[j]? with | some o => o.after.any (fun e => Region.binds md e && e.on == i) | none => false)
theorem reach_listed {listed : Array Bool} {z : Nat} (hc : Closed md ops listed) (hz : listed.getD z false = true ∨ z ∈ Region.ready md ops listed) (n : Nat) : ∀ j ∈ reach md ops n [z], j = z ∨ listed.getD j false = true := by
  have hon : ∀ oz, ops[z]? = some oz → ∀ e ∈ oz.after, Region.binds md e = true → listed.getD e.on false = true := fun oz hoz e he hb => by
    rcases hz with hz | hz
    · exact hc.2 z oz hoz hz e he hb
    · obtain ⟨_, o, ho, hall⟩ := mem_ready.1 hz
      rw [ho] at hoz
      cases hoz
      exact hall e he hb
  have step : ∀ (n : Nat) (l : List Nat), (∀ j ∈ l, j = z ∨ listed.getD j false = true) → ∀ j ∈ reach md ops n l, j = z ∨ listed.getD j false = true := by
    intro n
    induction n with
    | zero => exact fun l hl => hl
    | succ n ih =>
      intro l hl
      refine ih _ fun j hj => ?_
      obtain ⟨_, hj⟩ := List.mem_filter.1 hj
      rw [Bool.or_eq_true] at hj
      rcases hj with hj | hj
      · exact hl j (by simpa using hj)
      · obtain ⟨k, hk, hk2⟩ := List.any_eq_true.1 hj
        cases hok : ops[k]? with
        | none => rw [hok] at hk2; cases hk2
        | some ok =>
          rw [hok] at hk2
          simp only at hk2
          rw [← Array.any_toList, List.any_eq_true] at hk2
          obtain ⟨e, he, hb⟩ := hk2
          simp only [Bool.and_eq_true, beq_iff_eq] at hb
          rcases hl k hk with rfl | hlk
          · exact Or.inr (hb.2 ▸ hon ok hok e (by simpa using he) hb.1)
          · exact Or.inr (hb.2 ▸ hc.2 k ok hok hlk e (by simpa using he) hb.1)
  exact step n [z] (by simp)
def Lasts (md : Region.Mode) (ops : Array Oper) (z : Nat) : Prop := ∀ listed, Closed md ops listed → (listed.getD z false = true ∨ z ∈ Region.ready md ops listed) → ∀ j, j ≠ z → listed.getD j true = true
def lasts (md : Region.Mode) (ops : Array Oper) (z : Nat) : Bool := decide (ops.size ≤ z) || (List.range ops.size).all fun j => (reach md ops ops.size [z]).contains j
theorem lasts_spec (h : lasts md ops z = true) : Lasts md ops z := by
  intro listed hc hz
  simp only [lasts, Bool.or_eq_true, decide_eq_true_eq] at h
  rcases h with h | h
  · rcases hz with hz | hz
    · simp [Array.getElem?_eq_none (show listed.size ≤ z by rw [hc.1]; exact h)] at hz
    · obtain ⟨_, o, ho, _⟩ := mem_ready.1 hz
      rw [Array.getElem?_eq_none h] at ho
      cases ho
  · intro j hj
    rcases Nat.lt_or_ge j ops.size with hlt | hlt
    · have h1 := List.all_eq_true.1 h j (List.mem_range.2 hlt)
      rcases reach_listed hc hz _ j (by simpa using h1) with h2 | h2
      · exact absurd h2 hj
      · have hlt' : j < listed.size := by rw [hc.1]; exact hlt
        simp [hlt'] at h2 ⊢
        exact h2
    · simp [Array.getElem?_eq_none (show listed.size ≤ j by rw [hc.1]; exact hlt)]
theorem mix_read {i : Nat} {oi : Oper} {v : Value} (hi : ops[i]? = some oi) (he : eff i = false) (hzi : z ≠ i) (hz : Lasts md ops z) (hsel : ∀ (j : Nat) (o : Oper) cs b, ops[j]? = some o → o.op ≠ .select cs b) :
    ∀ (n : Nat) (listed : Array Bool) (a : Act) (w : World), C w → Closed md ops listed →
      (∀ j oj, ops[j]? = some oj → j ≠ i → listed.getD j true = false → (∀ e ∈ oj.after, Region.binds md e = true → e.on ≠ i) → oi.apart ops oj = true) →
      i ∈ Region.ready md ops listed → Yld P ops C oi v a → wpMix P md ops C eff z Q n (listed.setIfInBounds i true) (a.put oi.dst v) w → wpMix P md ops C eff z Q (n + 1) listed a w := by
  intro n
  induction n with
  | zero =>
    intro listed a w hC _ _ hr hy H
    refine ⟨fun _ => hC, fun h => (by rw [h] at hr; cases hr), fun j hj => ?_⟩
    by_cases hji : j = i
    · subst hji
      intro o ho
      rw [hi] at ho
      cases ho
      rw [if_neg (by rw [he]; simp)]
      exact ⟨v, hy, H⟩
    · have := ready_mono hj hji
      rw [H.2.1] at this
      cases this
  | succ n ih =>
    intro listed a w hC hcl hfree hr hy H
    refine ⟨fun _ => hC, fun h => (by rw [h] at hr; cases hr), fun j hj => ?_⟩
    by_cases hji : j = i
    · subst hji
      intro o ho
      rw [hi] at ho
      cases ho
      rw [if_neg (by rw [he]; simp)]
      exact ⟨v, hy, H⟩
    · obtain ⟨hjun, oj, hoj, hall⟩ := mem_ready.1 hj
      have h1 := H.2.2 j (ready_mono hj hji) oj hoj
      obtain ⟨p1, p2, p3⟩ := Oper.apart_spec (hfree j oj hoj hji hjun (notOn hr hall))
      have hfree' : ∀ k ok, ops[k]? = some ok → k ≠ i → (listed.setIfInBounds j true).getD k true = false → (∀ e ∈ ok.after, Region.binds md e = true → e.on ≠ i) → oi.apart ops ok = true := fun k ok hk hki hun hno => by
        refine hfree k ok hk hki ?_ hno
        by_cases hjk : j = k
        · subst hjk; exact hjun
        · rw [getD_set_ne true hjk] at hun; exact hun
      have hjz : j ≠ z := fun e => by
        subst e
        have := hz listed hcl (Or.inr hj) i (Ne.symm hzi)
        rw [(mem_ready.1 hr).1] at this
        cases this
      have hzl : listed.getD z false = false := by
        cases hq : listed.getD z false with
        | false => rfl
        | true =>
          have := hz listed hcl (Or.inl hq) i (Ne.symm hzi)
          rw [(mem_ready.1 hr).1] at this
          cases this
      have go : ∀ u w1, wpMix P md ops C eff z Q n ((listed.setIfInBounds i true).setIfInBounds j true) ((a.put oi.dst v).put oj.dst u) w1 → wpMix P md ops C eff z Q (n + 1) (listed.setIfInBounds j true) (a.put oj.dst u) w1 := fun u w1 hk => by
        have hC1 : C w1 := by
          cases n with
          | zero => exact hk.1 (by rw [getD_set_ne false hjz, getD_set_ne false (Ne.symm hzi)]; exact hzl)
          | succ n => exact hk.1 (by rw [getD_set_ne false hjz, getD_set_ne false (Ne.symm hzi)]; exact hzl)
        refine ih (listed.setIfInBounds j true) (a.put oj.dst u) w1 hC1 (hcl.set hj) hfree' (ready_mono hr (Ne.symm hji)) (hy.turn (execOp_put oi (fun cs b => hsel i oi cs b hi) a oj.dst u p3) (wanted_put oi a oj.dst u p3)) ?_
        rw [Array.setIfInBounds_comm _ _ hji, ← Act.put_comm a v u p2]
        exact hk
      intro o ho
      rw [hoj] at ho
      cases ho
      have e1 := execOp_put oj (fun cs b => hsel j oj cs b hoj) a oi.dst v p1
      have e2 := wanted_put oj a oi.dst v p1
      by_cases hej : eff j = true
      · rw [if_pos hej] at h1 ⊢
        exact Eff.turn e1.symm e2.symm go h1
      · rw [if_neg hej] at h1 ⊢
        obtain ⟨u, hu, hk⟩ := h1
        exact ⟨u, hu.turn e1.symm e2.symm, go u w hk⟩
theorem mix_eff {i : Nat} {oi : Oper} (hi : ops[i]? = some oi) (he : eff i = true) (hz : Lasts md ops z) (hsel : ∀ (j : Nat) (o : Oper) cs b, ops[j]? = some o → o.op ≠ .select cs b) :
    ∀ (n : Nat) (listed : Array Bool) (a : Act) (w : World), C w → Closed md ops listed →
      (∀ j oj, ops[j]? = some oj → j ≠ i → listed.getD j true = false → (∀ e ∈ oj.after, Region.binds md e = true → e.on ≠ i) → oi.apart ops oj = true) →
      (∀ j oj, ops[j]? = some oj → j ≠ i → eff j = true → listed.getD j true = false → i ∈ reach md ops ops.size [j]) →
      i ∈ Region.ready md ops listed → Eff P ops oi (wpMix P md ops C eff z Q n (listed.setIfInBounds i true)) a w → wpMix P md ops C eff z Q (n + 1) listed a w := by
  intro n
  induction n with
  | zero =>
    intro listed a w hC _ _ _ hr H
    refine ⟨fun _ => hC, fun h => (by rw [h] at hr; cases hr), fun j hj => ?_⟩
    by_cases hji : j = i
    · subst hji
      intro o ho
      rw [hi] at ho
      cases ho
      rw [if_pos he]
      exact H
    · obtain ⟨v, w1, hk⟩ := H.some
      have := ready_mono hj hji
      rw [hk.2.1] at this
      cases this
  | succ n ih =>
    intro listed a w hC hcl hfree hdep hr H
    refine ⟨fun _ => hC, fun h => (by rw [h] at hr; cases hr), fun j hj => ?_⟩
    by_cases hji : j = i
    · subst hji
      intro o ho
      rw [hi] at ho
      cases ho
      rw [if_pos he]
      exact H
    · obtain ⟨hjun, oj, hoj, hall⟩ := mem_ready.1 hj
      obtain ⟨p1, p2, p3⟩ := Oper.apart_spec (hfree j oj hoj hji hjun (notOn hr hall))
      have hej : eff j = false := by
        cases hej : eff j with
        | false => rfl
        | true =>
          rcases reach_listed hcl (Or.inr hj) _ i (hdep j oj hoj hji hej hjun) with h | h
          · exact absurd h.symm hji
          · rw [getD_false_of_true (mem_ready.1 hr).1] at h
            cases h
      intro o ho
      rw [hoj] at ho
      cases ho
      rw [if_neg (by rw [hej]; simp)]
      obtain ⟨u, w1, hk⟩ := H.some
      have h1 := hk.2.2 j (ready_mono hj hji) oj hoj
      rw [if_neg (by rw [hej]; simp)] at h1
      obtain ⟨v, hy, _⟩ := h1
      have f1 := fun u => execOp_put oj (fun cs b => hsel j oj cs b hoj) a oi.dst u p1
      have f2 := fun u => wanted_put oj a oi.dst u p1
      have hiz : z ≠ i := fun e => by
        subst e
        have := hz listed hcl (Or.inr hr) j hji
        rw [hjun] at this
        cases this
      have hzl : listed.getD z false = false := by
        cases hq : listed.getD z false with
        | false => rfl
        | true =>
          by_cases hjz : j = z
          · subst hjz
            rw [getD_false_of_true hjun] at hq
            cases hq
          · have := hz listed hcl (Or.inl hq) j hjz
            rw [hjun] at this
            cases this
      have hya : Yld P ops C oj v a := hy.turn (f1 u).symm (f2 u).symm
      refine ⟨v, hya, ?_⟩
      refine ih (listed.setIfInBounds j true) (a.put oj.dst v) w hC (hcl.set hj) ?_ ?_ (ready_mono hr (Ne.symm hji)) ?_
      · intro k ok hk hki hun hno
        refine hfree k ok hk hki ?_ hno
        by_cases hjk : j = k
        · subst hjk; exact hjun
        · rw [getD_set_ne true hjk] at hun; exact hun
      · intro k ok hk hki hek hun
        have hjk : j ≠ k := by intro e; subst e; rw [hej] at hek; cases hek
        rw [getD_set_ne true hjk] at hun
        exact hdep k ok hk hki hek hun
      · refine Eff.turn (execOp_put oi (fun cs b => hsel i oi cs b hi) a oj.dst v p3) (wanted_put oi a oj.dst v p3) (fun u' w' hk' => ?_) H
        have h2 := hk'.2.2 j (ready_mono hj hji) oj hoj
        rw [if_neg (by rw [hej]; simp)] at h2
        obtain ⟨v', hy', hk2⟩ := h2
        have hv : v' = v := Yld.one (hk'.1 (by rw [getD_set_ne false (Ne.symm hiz)]; exact hzl)) hya (hy'.turn (f1 u').symm (f2 u').symm)
        subst hv
        rw [Array.setIfInBounds_comm _ _ hji, ← Act.put_comm a u' v' p2]
        exact hk2
/-- It is a wpAny. -/
theorem wpAny_of_mix {Q' : Exit → Act → World → Prop} (hQ : ∀ a w, Q a w → Q' .normal a w) (hz : Lasts md ops z) (hze : ∀ k, eff k = false → z ≠ k) : ∀ (n : Nat) (listed : Array Bool) (a : Act) (w : World), Closed md ops listed → wpMix P md ops C eff z Q n listed a w → wpAny P md ops Q' n listed a w
  | 0, _, _, _, _, h => ⟨h.2.1, hQ _ _ h.2.2⟩
  | n + 1, listed, a, w, hcl, h => by
    refine ⟨fun h0 => hQ _ _ (h.2.1 h0), fun i hi => ?_⟩
    have h1 := h.2.2 i hi
    obtain ⟨_, o, ho, _⟩ := mem_ready.1 hi
    have h2 := h1 o ho
    unfold wpOp
    simp only [ho]
    by_cases he : eff i = true
    · rw [if_pos he] at h2
      rcases h2 with ⟨h0, ⟨v, w1, hr, hk⟩ | ⟨f, args, hr, hc⟩⟩ | ⟨h0, hk⟩
      · rw [if_pos h0]
        refine Or.inl ?_
        unfold Oper.wp
        rcases hr with hr | ⟨hr, rfl⟩
        · rw [hr]
          exact wpAny_of_mix hQ hz hze n _ _ _ (hcl.set hi) hk
        · rw [hr]
          exact wpAny_of_mix hQ hz hze n _ _ _ (hcl.set hi) hk
      · rw [if_pos h0]
        refine Or.inl ?_
        unfold Oper.wp
        rw [hr]
        exact hc.mono fun e w' ⟨v, he, hk⟩ => by subst he; exact wpAny_of_mix hQ hz hze n _ _ _ (hcl.set hi) hk
      · rw [if_neg (by rw [h0]; simp)]
        exact wpAny_of_mix hQ hz hze n _ _ _ (hcl.set hi) hk
    · rw [if_neg he] at h2
      obtain ⟨v, hy, hk⟩ := h2
      rcases hy with ⟨h0, hr⟩ | ⟨h0, rfl⟩
      · rw [if_pos h0]
        refine Or.inl ?_
        unfold Oper.wp
        have hC : C w := h.1 (by
          cases hq : listed.getD z false with
          | false => rfl
          | true =>
            have := hz listed hcl (Or.inl hq) i (Ne.symm (hze i (by simpa using he)))
            rw [(mem_ready.1 hi).1] at this
            cases this)
        rw [hr w hC]
        exact wpAny_of_mix hQ hz hze n _ _ _ (hcl.set hi) hk
      · rw [if_neg (by rw [h0]; simp)]
        exact wpAny_of_mix hQ hz hze n _ _ _ (hcl.set hi) hk
/-- The walk in the text's order. -/
def wpLex (P : Program) (ops : Array Oper) (C : World → Prop) (eff : Nat → Bool) (z : Nat) (Q : Act → World → Prop) : List Oper → Nat → Act → World → Prop
  | [], k, a, w => (k ≤ z → C w) ∧ Q a w
  | o :: rest, k, a, w => C w ∧ if eff k then Eff P ops o (wpLex P ops C eff z Q rest (k + 1)) a w else ∃ v, Yld P ops C o v a ∧ wpLex P ops C eff z Q rest (k + 1) (a.put o.dst v) w
/-- Each effect that has not come up, but for the first, waits for the first. -/
def chained (md : Region.Mode) (ops : Array Oper) (eff : Nat → Bool) (listed : Array Bool) (k : Nat) : Bool :=
  (List.range ops.size).all fun j => j == k || !eff j || listed.getD j true || (reach md ops ops.size [j]).contains k
def mixFrom (md : Region.Mode) (ops : Array Oper) (eff : Nat → Bool) : Nat → Nat → Array Bool → Bool
  | 0, _, listed => (Region.ready md ops listed).isEmpty
  | fuel + 1, k, listed => (Region.ready md ops listed).contains k && (Region.free md ops listed k && ((!eff k || chained md ops eff listed k) && mixFrom md ops eff fuel (k + 1) (listed.setIfInBounds k true)))
theorem chained_spec {listed : Array Bool} {k : Nat} (h : chained md ops eff listed k = true) (j : Nat) (oj : Oper) (hj : ops[j]? = some oj) (hne : j ≠ k) (he : eff j = true) (hun : listed.getD j true = false) : k ∈ reach md ops ops.size [j] := by
  simp only [chained, List.all_eq_true, List.mem_range] at h
  have h1 := h j (Array.getElem?_eq_some_iff.1 hj).1
  simp only [Bool.or_eq_true, beq_iff_eq, hne, false_or, he, hun, Bool.not_true, Bool.false_eq_true] at h1
  simpa using h1
theorem mix_lex (hs : Region.noSelect ops = true) (hz : Lasts md ops z) (hze : ∀ k, eff k = false → z ≠ k) : ∀ (l : List Oper) (k : Nat) (listed : Array Bool) (a : Act) (w : World), (∀ j, l[j]? = ops[k + j]?) → Closed md ops listed → (k ≤ z → listed.getD z false = false) → (z < k → listed.getD z false = true) → mixFrom md ops eff l.length k listed = true → wpLex P ops C eff z Q l k a w → wpMix P md ops C eff z Q l.length listed a w
  | [], k, listed, _, _, _, _, _, hl2, hB, h => ⟨fun h0 => h.1 (Nat.le_of_not_lt fun hlt => by rw [hl2 hlt] at h0; cases h0), by simpa [mixFrom] using hB, h.2⟩
  | o :: l, k, listed, a, w, hl, hcl, hl1, hl2, hB, h => by
    have h0 : ops[k]? = some o := by simpa using (hl 0).symm
    simp only [List.length_cons, mixFrom, Bool.and_eq_true] at hB
    obtain ⟨hr, hf, hc, hB'⟩ := hB
    have hl' : ∀ j, l[j]? = ops[k + 1 + j]? := fun j => by have := hl (j + 1); simpa [Nat.add_assoc, Nat.add_comm 1 j] using this
    obtain ⟨hC, h2⟩ := h
    have hrk : k ∈ Region.ready md ops listed := by simpa using hr
    have hkl : k < listed.size := by
      rw [hcl.1]
      exact (Array.getElem?_eq_some_iff.1 h0).1
    have g1 : k + 1 ≤ z → (listed.setIfInBounds k true).getD z false = false := fun h => by rw [getD_set_ne false (by omega)]; exact hl1 (by omega)
    have g2 : z < k + 1 → (listed.setIfInBounds k true).getD z false = true := fun h => by
      by_cases hkz : k = z
      · subst hkz; simp [hkl]
      · rw [getD_set_ne false hkz]; exact hl2 (by omega)
    by_cases he : eff k = true
    · rw [if_pos he] at h2
      rw [he] at hc
      refine mix_eff h0 he hz (Region.noSelect_spec hs) l.length listed a w hC hcl (Region.free_spec h0 hf) (chained_spec (by simpa using hc)) hrk ?_
      exact Eff.turn rfl rfl (fun v w1 hk => mix_lex hs hz hze l (k + 1) _ _ _ hl' (hcl.set hrk) g1 g2 hB' hk) h2
    · rw [if_neg he] at h2
      obtain ⟨v, hy, hk⟩ := h2
      exact mix_read h0 (by simpa using he) (hze k (by simpa using he)) hz (Region.noSelect_spec hs) l.length listed a w hC hcl (Region.free_spec h0 hf) hrk hy (mix_lex hs hz hze l (k + 1) _ _ _ hl' (hcl.set hrk) g1 g2 hB' hk)
/-- ONE walk in the text's order serves every order. -/
theorem wp_region_mix {id : Nat} {Q' : Exit → Act → World → Prop} {a : Act} {w : World} (C : World → Prop) (eff : Nat → Bool) (z : Nat) (hl : lasts .any ops z = true) (hz : eff z = true) (hm : P.follows .mixedOrders = true) (hs : Region.noSelect ops = true) (hB : mixFrom .any ops eff ops.size 0 (Array.replicate ops.size false) = true)
    (h : wpLex P ops C eff z (fun a w => Q' .normal a w) ops.toList 0 a { w with drawn := w.drawn + 1 }) : (Code.region id ops true).wp P Q' a w := by
  have hcl : Closed .any ops (Array.replicate ops.size false) := ⟨by simp, fun j oj hj hl => by
    have := (Array.getElem?_eq_some_iff.1 hj).1
    simp [this] at hl⟩
  refine wp_region_any hm (wpAny_of_mix (C := C) (eff := eff) (z := z) (Q := fun a w => Q' .normal a w) (fun _ _ h => h) (lasts_spec hl) (fun k hk e => by subst e; rw [hz] at hk; cases hk) _ _ _ _ hcl ?_)
  have := mix_lex (md := .any) hs (lasts_spec hl) (fun k hk e => by subst e; rw [hz] at hk; cases hk) ops.toList 0 (Array.replicate ops.size false) a _ (by simp) hcl (fun _ => by simp [Array.getElem?_replicate]; split <;> rfl) (fun h => by omega) (by simpa using hB) h
  simpa using this
end
end Go.Proofs.YtnphkmdanicemaaGreatDoor
namespace Go.Proofs.YtnphkmdanicemaaGreatDoor
open Go.RowKit Go.PlainAid
section
variable {ops : Array Oper} {C : World → Prop} {eff : Nat → Bool} {Q : Act → World → Prop} {a : Act} {w w1 : World} {rest : List Oper} {o : Oper} {f : Nat → Value} {N d k z : Nat}
/-- A read. -/
theorem ly (hF : Fr N a f) (he : eff k = false) (hC : C w) (hd : o.dst = some d) (hN : d < N) (hw : Region.wanted o (yielded ops a.tmps) = true) {v : Value} (hr : ∀ w, C w → (execOp a.eval o).run Tryz.prog w = .ok (.value v) w)
    (h : ∀ a', Fr N a' (upd f d v) → wpLex Tryz.prog ops C eff z Q rest (k + 1) a' w) : wpLex Tryz.prog ops C eff z Q (o :: rest) k a w := by
  refine ⟨hC, ?_⟩
  rw [if_neg (by rw [he]; simp)]
  exact ⟨v, Or.inl ⟨hw, hr⟩, by rw [hd]; exact h _ (hF.put d v hN)⟩
/-- One that is passed over. -/
theorem ln (hF : Fr N a f) (he : eff k = false) (hC : C w) (hd : o.dst = some d) (hN : d < N) (hw : Region.wanted o (yielded ops a.tmps) = false)
    (h : ∀ a', Fr N a' (upd f d undef) → wpLex Tryz.prog ops C eff z Q rest (k + 1) a' w) : wpLex Tryz.prog ops C eff z Q (o :: rest) k a w := by
  refine ⟨hC, ?_⟩
  rw [if_neg (by rw [he]; simp)]
  exact ⟨undef, Or.inr ⟨hw, rfl⟩, by rw [hd]; exact h _ (hF.put d undef hN)⟩
/-- An effect that is no call. -/
theorem le (hF : Fr N a f) (he : eff k = true) (hC : C w) (hd : o.dst = some d) (hN : d < N) (hw : Region.wanted o (yielded ops a.tmps) = true) {v : Value} (hr : (execOp a.eval o).run Tryz.prog w = .ok (.value v) w1)
    (h : ∀ a', Fr N a' (upd f d v) → wpLex Tryz.prog ops C eff z Q rest (k + 1) a' w1) : wpLex Tryz.prog ops C eff z Q (o :: rest) k a w := by
  refine ⟨hC, ?_⟩
  rw [if_pos he]
  exact Or.inl ⟨hw, Or.inl ⟨v, w1, Or.inl hr, by rw [hd]; exact h _ (hF.put d v hN)⟩⟩
/-- A call. -/
theorem lc (hF : Fr N a f) (he : eff k = true) (hC : C w) (hd : o.dst = some d) (hN : d < N) (hw : Region.wanted o (yielded ops a.tmps) = true) {g : Nat} {args : Array Value} {Post : Ending → World → Prop} (hr : (execOp a.eval o).run Tryz.prog w = .ok (.enter g args) w) (hc : Calls Tryz.prog g args w Post)
    (h : ∀ e w', Post e w' → ∃ v, e = .returned v ∧ ∀ a', Fr N a' (upd f d v) → wpLex Tryz.prog ops C eff z Q rest (k + 1) a' w') : wpLex Tryz.prog ops C eff z Q (o :: rest) k a w := by
  refine ⟨hC, ?_⟩
  rw [if_pos he]
  refine Or.inl ⟨hw, Or.inr ⟨g, args, hr, hc.mono fun e w' hp => ?_⟩⟩
  obtain ⟨v, rfl, h'⟩ := h e w' hp
  exact ⟨v, rfl, by rw [hd]; exact h' _ (hF.put d v hN)⟩
/-- A store. -/
theorem lst (he : eff k = true) (hC : C w) (hd : o.dst = none) (hw : Region.wanted o (yielded ops a.tmps) = true) (hr : (execOp a.eval o).run Tryz.prog w = .ok .skip w1)
    (h : wpLex Tryz.prog ops C eff z Q rest (k + 1) a w1) : wpLex Tryz.prog ops C eff z Q (o :: rest) k a w := by
  refine ⟨hC, ?_⟩
  rw [if_pos he]
  exact Or.inl ⟨hw, Or.inl ⟨undef, w1, Or.inr ⟨hr, rfl⟩, by rw [hd]; exact h⟩⟩
end
theorem withFrP {ops : Array Oper} {C : World → Prop} {eff : Nat → Bool} {z : Nat} {Q : Act → World → Prop} {l : List Oper} {k : Nat} {t : Array Value} {w : World} {N : Nat} (ht : t.size = N) (h : ∀ f, Fr N { tmps := t, defers := [] } f → (∀ j, f j = t.getD j undef) → wpLex Tryz.prog ops C eff z Q l k { tmps := t, defers := [] } w) : wpLex Tryz.prog ops C eff z Q l k { tmps := t, defers := [] } w :=
  h _ (Fr.ofLit t ht) fun _ => rfl
section
variable {ops : Array Oper} {C : World → Prop} {eff : Nat → Bool} {Q : Act → World → Prop} {a : Act} {w w1 : World} {rest : List Oper} {o : Oper} {f : Nat → Value} {N d k z : Nat}
/- The same with the frame itself. -/
theorem lyp (hF : Fr N a f) (he : eff k = false) (hC : C w) (hd : o.dst = some d) (hN : d < N) (hw : Region.wanted o (yielded ops a.tmps) = true) {v : Value} (hr : ∀ w, C w → (execOp a.eval o).run Tryz.prog w = .ok (.value v) w)
    (h : Fr N (a.put (some d) v) (upd f d v) → wpLex Tryz.prog ops C eff z Q rest (k + 1) (a.put (some d) v) w) : wpLex Tryz.prog ops C eff z Q (o :: rest) k a w := by
  refine ⟨hC, ?_⟩
  rw [if_neg (by rw [he]; simp)]
  exact ⟨v, Or.inl ⟨hw, hr⟩, by rw [hd]; exact h (hF.put d v hN)⟩
theorem lcp (hF : Fr N a f) (he : eff k = true) (hC : C w) (hd : o.dst = some d) (hN : d < N) (hw : Region.wanted o (yielded ops a.tmps) = true) {g : Nat} {args : Array Value} {Post : Ending → World → Prop} (hr : (execOp a.eval o).run Tryz.prog w = .ok (.enter g args) w) (hc : Calls Tryz.prog g args w Post)
    (h : ∀ e w', Post e w' → ∃ v, e = .returned v ∧ (Fr N (a.put (some d) v) (upd f d v) → wpLex Tryz.prog ops C eff z Q rest (k + 1) (a.put (some d) v) w')) : wpLex Tryz.prog ops C eff z Q (o :: rest) k a w := by
  refine ⟨hC, ?_⟩
  rw [if_pos he]
  refine Or.inl ⟨hw, Or.inr ⟨g, args, hr, hc.mono fun e w' hp => ?_⟩⟩
  obtain ⟨v, rfl, h'⟩ := h e w' hp
  exact ⟨v, rfl, by rw [hd]; exact h' (hF.put d v hN)⟩
end
theorem withFrL {ops : Array Oper} {C : World → Prop} {eff : Nat → Bool} {z : Nat} {Q : Act → World → Prop} {l : List Oper} {k : Nat} {t : Array Value} {w : World} {N : Nat} (ht : t.size = N) (h : ∀ a f, Fr N a f → (∀ j, f j = t.getD j undef) → wpLex Tryz.prog ops C eff z Q l k a w) : wpLex Tryz.prog ops C eff z Q l k { tmps := t, defers := [] } w :=
  h _ _ (Fr.ofLit t ht) fun _ => rfl
section
variable {ops : Array Oper} {C : World → Prop} {eff : Nat → Bool} {Q : Act → World → Prop} {a : Act} {w w1 : World} {rest : List Oper} {o : Oper} {f : Nat → Value} {N d k z : Nat}
theorem lep (hF : Fr N a f) (he : eff k = true) (hC : C w) (hd : o.dst = some d) (hN : d < N) (hw : Region.wanted o (yielded ops a.tmps) = true) {v : Value} (hr : (execOp a.eval o).run Tryz.prog w = .ok (.value v) w1)
    (h : Fr N (a.put (some d) v) (upd f d v) → wpLex Tryz.prog ops C eff z Q rest (k + 1) (a.put (some d) v) w1) : wpLex Tryz.prog ops C eff z Q (o :: rest) k a w := by
  refine ⟨hC, ?_⟩
  rw [if_pos he]
  exact Or.inl ⟨hw, Or.inl ⟨v, w1, Or.inl hr, by rw [hd]; exact h (hF.put d v hN)⟩⟩
theorem lnp (hF : Fr N a f) (he : eff k = false) (hC : C w) (hd : o.dst = some d) (hN : d < N) (hw : Region.wanted o (yielded ops a.tmps) = false)
    (h : Fr N (a.put (some d) undef) (upd f d undef) → wpLex Tryz.prog ops C eff z Q rest (k + 1) (a.put (some d) undef) w) : wpLex Tryz.prog ops C eff z Q (o :: rest) k a w := by
  refine ⟨hC, ?_⟩
  rw [if_neg (by rw [he]; simp)]
  exact ⟨undef, Or.inr ⟨hw, rfl⟩, by rw [hd]; exact h (hF.put d undef hN)⟩
theorem want_yes {i : Nat} {b : Bool} (hF : Fr N a f) (hg : o.guard = some (i, b)) {e : Nat} (ho : (ops[i]?).bind (·.dst) = some e) (he : e < N) (hb : f e = .bool b) : Region.wanted o (yielded ops a.tmps) = true := by
  rw [wanted_some hg, hF.yields ho he hb]
  simp
theorem want_no {i : Nat} {b c : Bool} (hF : Fr N a f) (hg : o.guard = some (i, b)) {e : Nat} (ho : (ops[i]?).bind (·.dst) = some e) (he : e < N) (hb : f e = .bool c) (hne : c ≠ b) : Region.wanted o (yielded ops a.tmps) = false := by
  rw [wanted_some hg, hF.yields ho he hb]
  simp [hne]
theorem want_not {i : Nat} {b : Bool} (hF : Fr N a f) (hg : o.guard = some (i, b)) {e : Nat} (ho : (ops[i]?).bind (·.dst) = some e) (he : e < N) (hb : f e = undef) : Region.wanted o (yielded ops a.tmps) = false := by
  rw [wanted_some hg, hF.yieldsNot ho he hb]
  rfl
end
section
variable {ops : Array Oper} {Q : Exit → Act → World → Prop} {a : Act} {w : World} {rest : List Oper} {o : Oper} {f : Nat → Value} {N d : Nat}
structure WS (ops : Array Oper) (Q : Exit → Act → World → Prop) (l : List Oper) (a : Act) (w : World) : Prop where
  out : wpList Tryz.prog ops Q l a w
theorem syp (hF : Fr N a f) (hd : o.dst = some d) (hN : d < N) (hw : Region.wanted o (yielded ops a.tmps) = true) {v : Value} (hr : (execOp a.eval o).run Tryz.prog w = .ok (.value v) w)
    (h : Fr N (a.put (some d) v) (upd f d v) → WS ops Q rest (a.put (some d) v) w) : WS ops Q (o :: rest) a w :=
  ⟨st_yes hw hr (by rw [hd]; exact (h (hF.put d v hN)).out)⟩
theorem snp (hF : Fr N a f) (hd : o.dst = some d) (hN : d < N) (hw : Region.wanted o (yielded ops a.tmps) = false)
    (h : Fr N (a.put (some d) undef) (upd f d undef) → WS ops Q rest (a.put (some d) undef) w) : WS ops Q (o :: rest) a w :=
  ⟨st_no hw (by rw [hd]; exact (h (hF.put d undef hN)).out)⟩
theorem withFrS {l : List Oper} {t : Array Value} (ht : t.size = N) (h : ∀ f, Fr N { tmps := t, defers := [] } f → (∀ j, f j = t.getD j undef) → WS ops Q l { tmps := t, defers := [] } w) : wpList Tryz.prog ops Q l { tmps := t, defers := [] } w :=
  (h _ (Fr.ofLit t ht) fun _ => rfl).out
end
end Go.Proofs.YtnphkmdanicemaaGreatDoor
