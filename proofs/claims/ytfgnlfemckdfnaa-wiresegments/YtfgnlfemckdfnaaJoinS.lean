import Derived.Deep.Quiet
import Derived.Test.YtfgnlfemckdfnaaOne0
import Derived.Test.YtfgnlfemckdfnaaJoinR
import Derived.Test.YtfgnlfemckdfnaaRDecS
import Derived.Test.YtfgnlfemckdfnaaSmall
import Derived.Test.YtfgnlfemckdfnaaJoinE
import Derived.Test.YtfgnlfemckdfnaaWSegB
import Derived.Test.YtfgnlfemckdfnaaArgs
namespace Go.Proofs.Ytfgnlfemckdfnaa.Z
/- A region that draws its order: reads that yield the same in every world of a class, beside a chain of operations with an effect, each of which waits for the one ahead of it. Behind the operation z, ahead of which all others must have come up, the world need not be of the class (z: beyond the operations, if there is none). -/
section
variable {P : Program} {ops : Array Oper} {md : Region.Mode} {C : World → Prop} {eff : Nat → Bool} {Q : Act → World → Prop} {z : Nat}

def Yld (P : Program) (ops : Array Oper) (C : World → Prop) (o : Oper) (v : Value) (a : Act) : Prop :=
  (Region.wanted o (yielded ops a.tmps) = true ∧ ∀ w, C w → (execOp a.eval o).run P w = .ok (.value v) w) ∨ (Region.wanted o (yielded ops a.tmps) = false ∧ v = undef)
def Eff (P : Program) (ops : Array Oper) (o : Oper) (K : Act → World → Prop) (a : Act) (w : World) : Prop :=
  (Region.wanted o (yielded ops a.tmps) = true ∧ ((∃ v w1, ((execOp a.eval o).run P w = .ok (.value v) w1 ∨ ((execOp a.eval o).run P w = .ok .skip w1 ∧ v = undef)) ∧ K (a.put o.dst v) w1) ∨ (∃ f args, (execOp a.eval o).run P w = .ok (.enter f args) w ∧ Calls P f args w fun e w' => ∃ v, e = .returned v ∧ K (a.put o.dst v) w')))
  ∨ (Region.wanted o (yielded ops a.tmps) = false ∧ K (a.put o.dst undef) w)
def mOp (P : Program) (ops : Array Oper) (C : World → Prop) (eff : Nat → Bool) (i : Nat) (K : Act → World → Prop) (a : Act) (w : World) : Prop :=
  ∀ o, ops[i]? = some o → if eff i then Eff P ops o K a w else ∃ v, Yld P ops C o v a ∧ K (a.put o.dst v) w
def wpMix (P : Program) (md : Region.Mode) (ops : Array Oper) (C : World → Prop) (eff : Nat → Bool) (z : Nat) (Q : Act → World → Prop) : Nat → Array Bool → Act → World → Prop
  | 0, listed, a, w => (listed.getD z false = false → C w) ∧ Region.ready md ops listed = [] ∧ Q a w
  | fuel + 1, listed, a, w => (listed.getD z false = false → C w) ∧ (Region.ready md ops listed = [] → Q a w) ∧ ∀ i ∈ Region.ready md ops listed, mOp P ops C eff i (wpMix P md ops C eff z Q fuel (listed.setIfInBounds i true)) a w

theorem Eff.some {o : Oper} {K : Act → World → Prop} {a : Act} {w : World} (h : Eff P ops o K a w) : ∃ v w1, K (a.put o.dst v) w1 := by
  rcases h with ⟨_, ⟨v, w1, _, hk⟩ | ⟨f, args, _, hc⟩⟩ | ⟨_, hk⟩
  · exact ⟨v, w1, hk⟩
  · obtain ⟨e, w', _, ⟨v, _, hk⟩, _⟩ := hc []
    exact ⟨v, w', hk⟩
  · exact ⟨undef, w, hk⟩
theorem Eff.turn {o : Oper} {K K' : Act → World → Prop} {a a' : Act} {w : World} (he : execOp a'.eval o = execOp a.eval o) (hw : Region.wanted o (yielded ops a'.tmps) = Region.wanted o (yielded ops a.tmps))
    (hK : ∀ v w1, K (a.put o.dst v) w1 → K' (a'.put o.dst v) w1) (h : Eff P ops o K a w) : Eff P ops o K' a' w := by
  unfold Eff at *
  rw [he, hw]
  rcases h with ⟨h0, ⟨v, w1, h1, hk⟩ | ⟨f, args, h1, hc⟩⟩ | ⟨h0, hk⟩
  · exact Or.inl ⟨h0, Or.inl ⟨v, w1, h1, hK _ _ hk⟩⟩
  · exact Or.inl ⟨h0, Or.inr ⟨f, args, h1, hc.mono fun e w' ⟨v, he, hk⟩ => ⟨v, he, hK _ _ hk⟩⟩⟩
  · exact Or.inr ⟨h0, hK _ _ hk⟩
theorem Yld.turn {o : Oper} {v : Value} {a a' : Act} (he : execOp a'.eval o = execOp a.eval o) (hw : Region.wanted o (yielded ops a'.tmps) = Region.wanted o (yielded ops a.tmps)) (h : Yld P ops C o v a) : Yld P ops C o v a' := by
  unfold Yld at *
  rw [he, hw]
  exact h
theorem Yld.one {o : Oper} {v v' : Value} {a : Act} {w : World} (hC : C w) (h : Yld P ops C o v a) (h' : Yld P ops C o v' a) : v' = v := by
  rcases h with ⟨h0, h1⟩ | ⟨h0, h1⟩ <;> rcases h' with ⟨k0, k1⟩ | ⟨k0, k1⟩
  · have := (h1 w hC).symm.trans (k1 w hC)
    cases this
    rfl
  · rw [h0] at k0; cases k0
  · rw [h0] at k0; cases k0
  · rw [h1, k1]

theorem notOn {i : Nat} {oj : Oper} {listed : Array Bool} (hr : i ∈ Region.ready md ops listed) (hall : ∀ e ∈ oj.after, Region.binds md e = true → listed.getD e.on false = true) : ∀ e ∈ oj.after, Region.binds md e = true → e.on ≠ i := fun e he hb heq => by
  have h1 := hall e he hb
  have h0 := (mem_ready.1 hr).1
  rw [heq] at h1
  rcases Nat.lt_or_ge i listed.size with h' | h'
  · simp [h'] at h0 h1; rw [h0] at h1; cases h1
  · simp [Array.getElem?_eq_none h'] at h1
/-- What has come up is closed under what it waits for. -/
def Closed (md : Region.Mode) (ops : Array Oper) (listed : Array Bool) : Prop := listed.size = ops.size ∧ ∀ j oj, ops[j]? = some oj → listed.getD j false = true → ∀ e ∈ oj.after, Region.binds md e = true → listed.getD e.on false = true
theorem getD_false_of_true {listed : Array Bool} {j : Nat} (h : listed.getD j true = false) : listed.getD j false = false := by
  rcases Nat.lt_or_ge j listed.size with h' | h'
  · simp [h'] at h ⊢; exact h
  · simp [Array.getElem?_eq_none h'] at h
theorem Closed.set {listed : Array Bool} {i : Nat} (h : Closed md ops listed) (hi : i ∈ Region.ready md ops listed) : Closed md ops (listed.setIfInBounds i true) := by
  obtain ⟨_, oi, hoi, hall⟩ := mem_ready.1 hi
  have mono : ∀ k, listed.getD k false = true → (listed.setIfInBounds i true).getD k false = true := fun k hk => by
    by_cases hik : i = k
    · subst hik
      rcases Nat.lt_or_ge i listed.size with h' | h'
      · simp [h']
      · simp [Array.getElem?_eq_none h'] at hk
    · rw [getD_set_ne false hik]; exact hk
  refine ⟨by simp [h.1], fun j oj hj hl e he hb => ?_⟩
  by_cases hij : i = j
  · subst hij
    rw [hoi] at hj
    cases hj
    exact mono _ (hall e he hb)
  · rw [getD_set_ne false hij] at hl
    exact mono _ (h.2 j oj hj hl e he hb)
def reach (md : Region.Mode) (ops : Array Oper) : Nat → List Nat → List Nat
  | 0, l => l
  | n + 1, l => reach md ops n ((List.range ops.size).filter fun i => l.contains i || l.any fun j => match ops[j]? with | some o => o.after.any (fun e => Region.binds md e && e.on == i) | none => false)
theorem reach_listed {listed : Array Bool} {z : Nat} (hc : Closed md ops listed) (hz : listed.getD z false = true ∨ z ∈ Region.ready md ops listed) (n : Nat) : ∀ j ∈ reach md ops n [z], j = z ∨ listed.getD j false = true := by
  have hon : ∀ oz, ops[z]? = some oz → ∀ e ∈ oz.after, Region.binds md e = true → listed.getD e.on false = true := fun oz hoz e he hb => by
    rcases hz with hz | hz
    · exact hc.2 z oz hoz hz e he hb
    · obtain ⟨_, o, ho, hall⟩ := mem_ready.1 hz
      rw [ho] at hoz
      cases hoz
      exact hall e he hb
  have step : ∀ (n : Nat) (l : List Nat), (∀ j ∈ l, j = z ∨ listed.getD j false = true) → ∀ j ∈ reach md ops n l, j = z ∨ listed.getD j false = true := by
    intro n
    induction n with
    | zero => exact fun l hl => hl
    | succ n ih =>
      intro l hl
      refine ih _ fun j hj => ?_
      obtain ⟨_, hj⟩ := List.mem_filter.1 hj
      rw [Bool.or_eq_true] at hj
      rcases hj with hj | hj
      · exact hl j (by simpa using hj)
      · obtain ⟨k, hk, hk2⟩ := List.any_eq_true.1 hj
        cases hok : ops[k]? with
        | none => rw [hok] at hk2; cases hk2
        | some ok =>
          rw [hok] at hk2
          simp only at hk2
          rw [← Array.any_toList, List.any_eq_true] at hk2
          obtain ⟨e, he, hb⟩ := hk2
          simp only [Bool.and_eq_true, beq_iff_eq] at hb
          rcases hl k hk with rfl | hlk
          · exact Or.inr (hb.2 ▸ hon ok hok e (by simpa using he) hb.1)
          · exact Or.inr (hb.2 ▸ hc.2 k ok hok hlk e (by simpa using he) hb.1)
  exact step n [z] (by simp)
def Lasts (md : Region.Mode) (ops : Array Oper) (z : Nat) : Prop := ∀ listed, Closed md ops listed → (listed.getD z false = true ∨ z ∈ Region.ready md ops listed) → ∀ j, j ≠ z → listed.getD j true = true
def lasts (md : Region.Mode) (ops : Array Oper) (z : Nat) : Bool := decide (ops.size ≤ z) || (List.range ops.size).all fun j => (reach md ops ops.size [z]).contains j
theorem lasts_spec (h : lasts md ops z = true) : Lasts md ops z := by
  intro listed hc hz
  simp only [lasts, Bool.or_eq_true, decide_eq_true_eq] at h
  rcases h with h | h
  · rcases hz with hz | hz
    · simp [Array.getElem?_eq_none (show listed.size ≤ z by rw [hc.1]; exact h)] at hz
    · obtain ⟨_, o, ho, _⟩ := mem_ready.1 hz
      rw [Array.getElem?_eq_none h] at ho
      cases ho
  · intro j hj
    rcases Nat.lt_or_ge j ops.size with hlt | hlt
    · have h1 := List.all_eq_true.1 h j (List.mem_range.2 hlt)
      rcases reach_listed hc hz _ j (by simpa using h1) with h2 | h2
      · exact absurd h2 hj
      · have hlt' : j < listed.size := by rw [hc.1]; exact hlt
        simp [hlt'] at h2 ⊢
        exact h2
    · simp [Array.getElem?_eq_none (show listed.size ≤ j by rw [hc.1]; exact hlt)]
theorem mix_read {i : Nat} {oi : Oper} {v : Value} (hi : ops[i]? = some oi) (he : eff i = false) (hzi : z ≠ i) (hz : Lasts md ops z) (hsel : ∀ (j : Nat) (o : Oper) cs b, ops[j]? = some o → o.op ≠ .select cs b) :
    ∀ (n : Nat) (listed : Array Bool) (a : Act) (w : World), C w → Closed md ops listed →
      (∀ j oj, ops[j]? = some oj → j ≠ i → listed.getD j true = false → (∀ e ∈ oj.after, Region.binds md e = true → e.on ≠ i) → oi.apart ops oj = true) →
      i ∈ Region.ready md ops listed → Yld P ops C oi v a → wpMix P md ops C eff z Q n (listed.setIfInBounds i true) (a.put oi.dst v) w → wpMix P md ops C eff z Q (n + 1) listed a w := by
  intro n
  induction n with
  | zero =>
    intro listed a w hC _ _ hr hy H
    refine ⟨fun _ => hC, fun h => (by rw [h] at hr; cases hr), fun j hj => ?_⟩
    by_cases hji : j = i
    · subst hji
      intro o ho
      rw [hi] at ho
      cases ho
      rw [if_neg (by rw [he]; simp)]
      exact ⟨v, hy, H⟩
    · have := ready_mono hj hji
      rw [H.2.1] at this
      cases this
  | succ n ih =>
    intro listed a w hC hcl hfree hr hy H
    refine ⟨fun _ => hC, fun h => (by rw [h] at hr; cases hr), fun j hj => ?_⟩
    by_cases hji : j = i
    · subst hji
      intro o ho
      rw [hi] at ho
      cases ho
      rw [if_neg (by rw [he]; simp)]
      exact ⟨v, hy, H⟩
    · obtain ⟨hjun, oj, hoj, hall⟩ := mem_ready.1 hj
      have h1 := H.2.2 j (ready_mono hj hji) oj hoj
      obtain ⟨p1, p2, p3⟩ := Oper.apart_spec (hfree j oj hoj hji hjun (notOn hr hall))
      have hfree' : ∀ k ok, ops[k]? = some ok → k ≠ i → (listed.setIfInBounds j true).getD k true = false → (∀ e ∈ ok.after, Region.binds md e = true → e.on ≠ i) → oi.apart ops ok = true := fun k ok hk hki hun hno => by
        refine hfree k ok hk hki ?_ hno
        by_cases hjk : j = k
        · subst hjk; exact hjun
        · rw [getD_set_ne true hjk] at hun; exact hun
      have hjz : j ≠ z := fun e => by
        subst e
        have := hz listed hcl (Or.inr hj) i (Ne.symm hzi)
        rw [(mem_ready.1 hr).1] at this
        cases this
      have hzl : listed.getD z false = false := by
        cases hq : listed.getD z false with
        | false => rfl
        | true =>
          have := hz listed hcl (Or.inl hq) i (Ne.symm hzi)
          rw [(mem_ready.1 hr).1] at this
          cases this
      have go : ∀ u w1, wpMix P md ops C eff z Q n ((listed.setIfInBounds i true).setIfInBounds j true) ((a.put oi.dst v).put oj.dst u) w1 → wpMix P md ops C eff z Q (n + 1) (listed.setIfInBounds j true) (a.put oj.dst u) w1 := fun u w1 hk => by
        have hC1 : C w1 := by
          cases n with
          | zero => exact hk.1 (by rw [getD_set_ne false hjz, getD_set_ne false (Ne.symm hzi)]; exact hzl)
          | succ n => exact hk.1 (by rw [getD_set_ne false hjz, getD_set_ne false (Ne.symm hzi)]; exact hzl)
        refine ih (listed.setIfInBounds j true) (a.put oj.dst u) w1 hC1 (hcl.set hj) hfree' (ready_mono hr (Ne.symm hji)) (hy.turn (execOp_put oi (fun cs b => hsel i oi cs b hi) a oj.dst u p3) (wanted_put oi a oj.dst u p3)) ?_
        rw [Array.setIfInBounds_comm _ _ hji, ← Act.put_comm a v u p2]
        exact hk
      intro o ho
      rw [hoj] at ho
      cases ho
      have e1 := execOp_put oj (fun cs b => hsel j oj cs b hoj) a oi.dst v p1
      have e2 := wanted_put oj a oi.dst v p1
      by_cases hej : eff j = true
      · rw [if_pos hej] at h1 ⊢
        exact Eff.turn e1.symm e2.symm go h1
      · rw [if_neg hej] at h1 ⊢
        obtain ⟨u, hu, hk⟩ := h1
        exact ⟨u, hu.turn e1.symm e2.symm, go u w hk⟩
theorem mix_eff {i : Nat} {oi : Oper} (hi : ops[i]? = some oi) (he : eff i = true) (hz : Lasts md ops z) (hsel : ∀ (j : Nat) (o : Oper) cs b, ops[j]? = some o → o.op ≠ .select cs b) :
    ∀ (n : Nat) (listed : Array Bool) (a : Act) (w : World), C w → Closed md ops listed →
      (∀ j oj, ops[j]? = some oj → j ≠ i → listed.getD j true = false → (∀ e ∈ oj.after, Region.binds md e = true → e.on ≠ i) → oi.apart ops oj = true) →
      (∀ j oj, ops[j]? = some oj → j ≠ i → eff j = true → listed.getD j true = false → i ∈ reach md ops ops.size [j]) →
      i ∈ Region.ready md ops listed → Eff P ops oi (wpMix P md ops C eff z Q n (listed.setIfInBounds i true)) a w → wpMix P md ops C eff z Q (n + 1) listed a w := by
  intro n
  induction n with
  | zero =>
    intro listed a w hC _ _ _ hr H
    refine ⟨fun _ => hC, fun h => (by rw [h] at hr; cases hr), fun j hj => ?_⟩
    by_cases hji : j = i
    · subst hji
      intro o ho
      rw [hi] at ho
      cases ho
      rw [if_pos he]
      exact H
    · obtain ⟨v, w1, hk⟩ := H.some
      have := ready_mono hj hji
      rw [hk.2.1] at this
      cases this
  | succ n ih =>
    intro listed a w hC hcl hfree hdep hr H
    refine ⟨fun _ => hC, fun h => (by rw [h] at hr; cases hr), fun j hj => ?_⟩
    by_cases hji : j = i
    · subst hji
      intro o ho
      rw [hi] at ho
      cases ho
      rw [if_pos he]
      exact H
    · obtain ⟨hjun, oj, hoj, hall⟩ := mem_ready.1 hj
      obtain ⟨p1, p2, p3⟩ := Oper.apart_spec (hfree j oj hoj hji hjun (notOn hr hall))
      have hej : eff j = false := by
        cases hej : eff j with
        | false => rfl
        | true =>
          rcases reach_listed hcl (Or.inr hj) _ i (hdep j oj hoj hji hej hjun) with h | h
          · exact absurd h.symm hji
          · rw [getD_false_of_true (mem_ready.1 hr).1] at h
            cases h
      intro o ho
      rw [hoj] at ho
      cases ho
      rw [if_neg (by rw [hej]; simp)]
      obtain ⟨u, w1, hk⟩ := H.some
      have h1 := hk.2.2 j (ready_mono hj hji) oj hoj
      rw [if_neg (by rw [hej]; simp)] at h1
      obtain ⟨v, hy, _⟩ := h1
      have f1 := fun u => execOp_put oj (fun cs b => hsel j oj cs b hoj) a oi.dst u p1
      have f2 := fun u => wanted_put oj a oi.dst u p1
      have hiz : z ≠ i := fun e => by
        subst e
        have := hz listed hcl (Or.inr hr) j hji
        rw [hjun] at this
        cases this
      have hzl : listed.getD z false = false := by
        cases hq : listed.getD z false with
        | false => rfl
        | true =>
          by_cases hjz : j = z
          · subst hjz
            rw [getD_false_of_true hjun] at hq
            cases hq
          · have := hz listed hcl (Or.inl hq) j hjz
            rw [hjun] at this
            cases this
      have hya : Yld P ops C oj v a := hy.turn (f1 u).symm (f2 u).symm
      refine ⟨v, hya, ?_⟩
      refine ih (listed.setIfInBounds j true) (a.put oj.dst v) w hC (hcl.set hj) ?_ ?_ (ready_mono hr (Ne.symm hji)) ?_
      · intro k ok hk hki hun hno
        refine hfree k ok hk hki ?_ hno
        by_cases hjk : j = k
        · subst hjk; exact hjun
        · rw [getD_set_ne true hjk] at hun; exact hun
      · intro k ok hk hki hek hun
        have hjk : j ≠ k := by intro e; subst e; rw [hej] at hek; cases hek
        rw [getD_set_ne true hjk] at hun
        exact hdep k ok hk hki hek hun
      · refine Eff.turn (execOp_put oi (fun cs b => hsel i oi cs b hi) a oj.dst v p3) (wanted_put oi a oj.dst v p3) (fun u' w' hk' => ?_) H
        have h2 := hk'.2.2 j (ready_mono hj hji) oj hoj
        rw [if_neg (by rw [hej]; simp)] at h2
        obtain ⟨v', hy', hk2⟩ := h2
        have hv : v' = v := Yld.one (hk'.1 (by rw [getD_set_ne false (Ne.symm hiz)]; exact hzl)) hya (hy'.turn (f1 u').symm (f2 u').symm)
        subst hv
        rw [Array.setIfInBounds_comm _ _ hji, ← Act.put_comm a u' v' p2]
        exact hk2
/-- It is a wpAny. -/
theorem wpAny_of_mix {Q' : Exit → Act → World → Prop} (hQ : ∀ a w, Q a w → Q' .normal a w) (hz : Lasts md ops z) (hze : ∀ k, eff k = false → z ≠ k) : ∀ (n : Nat) (listed : Array Bool) (a : Act) (w : World), Closed md ops listed → wpMix P md ops C eff z Q n listed a w → wpAny P md ops Q' n listed a w
  | 0, _, _, _, _, h => ⟨h.2.1, hQ _ _ h.2.2⟩
  | n + 1, listed, a, w, hcl, h => by
    refine ⟨fun h0 => hQ _ _ (h.2.1 h0), fun i hi => ?_⟩
    have h1 := h.2.2 i hi
    obtain ⟨_, o, ho, _⟩ := mem_ready.1 hi
    have h2 := h1 o ho
    unfold wpOp
    simp only [ho]
    by_cases he : eff i = true
    · rw [if_pos he] at h2
      rcases h2 with ⟨h0, ⟨v, w1, hr, hk⟩ | ⟨f, args, hr, hc⟩⟩ | ⟨h0, hk⟩
      · rw [if_pos h0]
        refine Or.inl ?_
        unfold Oper.wp
        rcases hr with hr | ⟨hr, rfl⟩
        · rw [hr]
          exact wpAny_of_mix hQ hz hze n _ _ _ (hcl.set hi) hk
        · rw [hr]
          exact wpAny_of_mix hQ hz hze n _ _ _ (hcl.set hi) hk
      · rw [if_pos h0]
        refine Or.inl ?_
        unfold Oper.wp
        rw [hr]
        exact hc.mono fun e w' ⟨v, he, hk⟩ => by subst he; exact wpAny_of_mix hQ hz hze n _ _ _ (hcl.set hi) hk
      · rw [if_neg (by rw [h0]; simp)]
        exact wpAny_of_mix hQ hz hze n _ _ _ (hcl.set hi) hk
    · rw [if_neg he] at h2
      obtain ⟨v, hy, hk⟩ := h2
      rcases hy with ⟨h0, hr⟩ | ⟨h0, rfl⟩
      · rw [if_pos h0]
        refine Or.inl ?_
        unfold Oper.wp
        have hC : C w := h.1 (by
          cases hq : listed.getD z false with
          | false => rfl
          | true =>
            have := hz listed hcl (Or.inl hq) i (Ne.symm (hze i (by simpa using he)))
            rw [(mem_ready.1 hi).1] at this
            cases this)
        rw [hr w hC]
        exact wpAny_of_mix hQ hz hze n _ _ _ (hcl.set hi) hk
      · rw [if_neg (by rw [h0]; simp)]
        exact wpAny_of_mix hQ hz hze n _ _ _ (hcl.set hi) hk
/-- The walk in the text's order. -/
def wpLex (P : Program) (ops : Array Oper) (C : World → Prop) (eff : Nat → Bool) (z : Nat) (Q : Act → World → Prop) : List Oper → Nat → Act → World → Prop
  | [], k, a, w => (k ≤ z → C w) ∧ Q a w
  | o :: rest, k, a, w => C w ∧ if eff k then Eff P ops o (wpLex P ops C eff z Q rest (k + 1)) a w else ∃ v, Yld P ops C o v a ∧ wpLex P ops C eff z Q rest (k + 1) (a.put o.dst v) w
/-- Each effect that has not come up, but for the first, waits for the first. -/
def chained (md : Region.Mode) (ops : Array Oper) (eff : Nat → Bool) (listed : Array Bool) (k : Nat) : Bool :=
  (List.range ops.size).all fun j => j == k || !eff j || listed.getD j true || (reach md ops ops.size [j]).contains k
def mixFrom (md : Region.Mode) (ops : Array Oper) (eff : Nat → Bool) : Nat → Nat → Array Bool → Bool
  | 0, _, listed => (Region.ready md ops listed).isEmpty
  | fuel + 1, k, listed => (Region.ready md ops listed).contains k && (Region.free md ops listed k && ((!eff k || chained md ops eff listed k) && mixFrom md ops eff fuel (k + 1) (listed.setIfInBounds k true)))
theorem chained_spec {listed : Array Bool} {k : Nat} (h : chained md ops eff listed k = true) (j : Nat) (oj : Oper) (hj : ops[j]? = some oj) (hne : j ≠ k) (he : eff j = true) (hun : listed.getD j true = false) : k ∈ reach md ops ops.size [j] := by
  simp only [chained, List.all_eq_true, List.mem_range] at h
  have h1 := h j (Array.getElem?_eq_some_iff.1 hj).1
  simp only [Bool.or_eq_true, beq_iff_eq, hne, false_or, he, hun, Bool.not_true, Bool.false_eq_true] at h1
  simpa using h1
theorem mix_lex (hs : Region.noSelect ops = true) (hz : Lasts md ops z) (hze : ∀ k, eff k = false → z ≠ k) : ∀ (l : List Oper) (k : Nat) (listed : Array Bool) (a : Act) (w : World), (∀ j, l[j]? = ops[k + j]?) → Closed md ops listed → (k ≤ z → listed.getD z false = false) → (z < k → listed.getD z false = true) → mixFrom md ops eff l.length k listed = true → wpLex P ops C eff z Q l k a w → wpMix P md ops C eff z Q l.length listed a w
  | [], k, listed, _, _, _, _, _, hl2, hB, h => ⟨fun h0 => h.1 (Nat.le_of_not_lt fun hlt => by rw [hl2 hlt] at h0; cases h0), by simpa [mixFrom] using hB, h.2⟩
  | o :: l, k, listed, a, w, hl, hcl, hl1, hl2, hB, h => by
    have h0 : ops[k]? = some o := by simpa using (hl 0).symm
    simp only [List.length_cons, mixFrom, Bool.and_eq_true] at hB
    obtain ⟨hr, hf, hc, hB'⟩ := hB
    have hl' : ∀ j, l[j]? = ops[k + 1 + j]? := fun j => by have := hl (j + 1); simpa [Nat.add_assoc, Nat.add_comm 1 j] using this
    obtain ⟨hC, h2⟩ := h
    have hrk : k ∈ Region.ready md ops listed := by simpa using hr
    have hkl : k < listed.size := by
      rw [hcl.1]
      exact (Array.getElem?_eq_some_iff.1 h0).1
    have g1 : k + 1 ≤ z → (listed.setIfInBounds k true).getD z false = false := fun h => by rw [getD_set_ne false (by omega)]; exact hl1 (by omega)
    have g2 : z < k + 1 → (listed.setIfInBounds k true).getD z false = true := fun h => by
      by_cases hkz : k = z
      · subst hkz; simp [hkl]
      · rw [getD_set_ne false hkz]; exact hl2 (by omega)
    by_cases he : eff k = true
    · rw [if_pos he] at h2
      rw [he] at hc
      refine mix_eff h0 he hz (Region.noSelect_spec hs) l.length listed a w hC hcl (Region.free_spec h0 hf) (chained_spec (by simpa using hc)) hrk ?_
      exact Eff.turn rfl rfl (fun v w1 hk => mix_lex hs hz hze l (k + 1) _ _ _ hl' (hcl.set hrk) g1 g2 hB' hk) h2
    · rw [if_neg he] at h2
      obtain ⟨v, hy, hk⟩ := h2
      exact mix_read h0 (by simpa using he) (hze k (by simpa using he)) hz (Region.noSelect_spec hs) l.length listed a w hC hcl (Region.free_spec h0 hf) hrk hy (mix_lex hs hz hze l (k + 1) _ _ _ hl' (hcl.set hrk) g1 g2 hB' hk)
/-- ONE walk in the text's order serves every order. -/
theorem wp_region_mix {id : Nat} {Q' : Exit → Act → World → Prop} {a : Act} {w : World} (C : World → Prop) (eff : Nat → Bool) (z : Nat) (hl : lasts .any ops z = true) (hz : eff z = true) (hm : P.follows .mixedOrders = true) (hs : Region.noSelect ops = true) (hB : mixFrom .any ops eff ops.size 0 (Array.replicate ops.size false) = true)
    (h : wpLex P ops C eff z (fun a w => Q' .normal a w) ops.toList 0 a { w with drawn := w.drawn + 1 }) : (Code.region id ops true).wp P Q' a w := by
  have hcl : Closed .any ops (Array.replicate ops.size false) := ⟨by simp, fun j oj hj hl => by
    have := (Array.getElem?_eq_some_iff.1 hj).1
    simp [this] at hl⟩
  refine wp_region_any hm (wpAny_of_mix (C := C) (eff := eff) (z := z) (Q := fun a w => Q' .normal a w) (fun _ _ h => h) (lasts_spec hl) (fun k hk e => by subst e; rw [hz] at hk; cases hk) _ _ _ _ hcl ?_)
  have := mix_lex (md := .any) hs (lasts_spec hl) (fun k hk e => by subst e; rw [hz] at hk; cases hk) ops.toList 0 (Array.replicate ops.size false) a _ (by simp) hcl (fun _ => by simp [Array.getElem?_replicate]; split <;> rfl) (fun h => by omega) (by simpa using hB) h
  simpa using this
end
open Go.RowKit Go.PlainAid
section
variable {ops : Array Oper} {C : World → Prop} {eff : Nat → Bool} {Q : Act → World → Prop} {a : Act} {w w1 : World} {rest : List Oper} {o : Oper} {f : Nat → Value} {N d k z : Nat}
/-- A read. -/
theorem ly (hF : Fr N a f) (he : eff k = false) (hC : C w) (hd : o.dst = some d) (hN : d < N) (hw : Region.wanted o (yielded ops a.tmps) = true) {v : Value} (hr : ∀ w, C w → (execOp a.eval o).run Try.prog w = .ok (.value v) w)
    (h : ∀ a', Fr N a' (upd f d v) → wpLex Try.prog ops C eff z Q rest (k + 1) a' w) : wpLex Try.prog ops C eff z Q (o :: rest) k a w := by
  refine ⟨hC, ?_⟩
  rw [if_neg (by rw [he]; simp)]
  exact ⟨v, Or.inl ⟨hw, hr⟩, by rw [hd]; exact h _ (hF.put d v hN)⟩
/-- One that is passed over. -/
theorem ln (hF : Fr N a f) (he : eff k = false) (hC : C w) (hd : o.dst = some d) (hN : d < N) (hw : Region.wanted o (yielded ops a.tmps) = false)
    (h : ∀ a', Fr N a' (upd f d undef) → wpLex Try.prog ops C eff z Q rest (k + 1) a' w) : wpLex Try.prog ops C eff z Q (o :: rest) k a w := by
  refine ⟨hC, ?_⟩
  rw [if_neg (by rw [he]; simp)]
  exact ⟨undef, Or.inr ⟨hw, rfl⟩, by rw [hd]; exact h _ (hF.put d undef hN)⟩
/-- An effect that is no call. -/
theorem le (hF : Fr N a f) (he : eff k = true) (hC : C w) (hd : o.dst = some d) (hN : d < N) (hw : Region.wanted o (yielded ops a.tmps) = true) {v : Value} (hr : (execOp a.eval o).run Try.prog w = .ok (.value v) w1)
    (h : ∀ a', Fr N a' (upd f d v) → wpLex Try.prog ops C eff z Q rest (k + 1) a' w1) : wpLex Try.prog ops C eff z Q (o :: rest) k a w := by
  refine ⟨hC, ?_⟩
  rw [if_pos he]
  exact Or.inl ⟨hw, Or.inl ⟨v, w1, Or.inl hr, by rw [hd]; exact h _ (hF.put d v hN)⟩⟩
/-- A call. -/
theorem lc (hF : Fr N a f) (he : eff k = true) (hC : C w) (hd : o.dst = some d) (hN : d < N) (hw : Region.wanted o (yielded ops a.tmps) = true) {g : Nat} {args : Array Value} {Post : Ending → World → Prop} (hr : (execOp a.eval o).run Try.prog w = .ok (.enter g args) w) (hc : Calls Try.prog g args w Post)
    (h : ∀ e w', Post e w' → ∃ v, e = .returned v ∧ ∀ a', Fr N a' (upd f d v) → wpLex Try.prog ops C eff z Q rest (k + 1) a' w') : wpLex Try.prog ops C eff z Q (o :: rest) k a w := by
  refine ⟨hC, ?_⟩
  rw [if_pos he]
  refine Or.inl ⟨hw, Or.inr ⟨g, args, hr, hc.mono fun e w' hp => ?_⟩⟩
  obtain ⟨v, rfl, h'⟩ := h e w' hp
  exact ⟨v, rfl, by rw [hd]; exact h' _ (hF.put d v hN)⟩
/-- A store. -/
theorem lst (he : eff k = true) (hC : C w) (hd : o.dst = none) (hw : Region.wanted o (yielded ops a.tmps) = true) (hr : (execOp a.eval o).run Try.prog w = .ok .skip w1)
    (h : wpLex Try.prog ops C eff z Q rest (k + 1) a w1) : wpLex Try.prog ops C eff z Q (o :: rest) k a w := by
  refine ⟨hC, ?_⟩
  rw [if_pos he]
  exact Or.inl ⟨hw, Or.inl ⟨undef, w1, Or.inr ⟨hr, rfl⟩, by rw [hd]; exact h⟩⟩
end
theorem withFrP {ops : Array Oper} {C : World → Prop} {eff : Nat → Bool} {z : Nat} {Q : Act → World → Prop} {l : List Oper} {k : Nat} {t : Array Value} {w : World} {N : Nat} (ht : t.size = N) (h : ∀ f, Fr N { tmps := t, defers := [] } f → (∀ j, f j = t.getD j undef) → wpLex Try.prog ops C eff z Q l k { tmps := t, defers := [] } w) : wpLex Try.prog ops C eff z Q l k { tmps := t, defers := [] } w :=
  h _ (Fr.ofLit t ht) fun _ => rfl
section
variable {ops : Array Oper} {C : World → Prop} {eff : Nat → Bool} {Q : Act → World → Prop} {a : Act} {w w1 : World} {rest : List Oper} {o : Oper} {f : Nat → Value} {N d k z : Nat}
/- The same with the frame itself. -/
theorem lyp (hF : Fr N a f) (he : eff k = false) (hC : C w) (hd : o.dst = some d) (hN : d < N) (hw : Region.wanted o (yielded ops a.tmps) = true) {v : Value} (hr : ∀ w, C w → (execOp a.eval o).run Try.prog w = .ok (.value v) w)
    (h : Fr N (a.put (some d) v) (upd f d v) → wpLex Try.prog ops C eff z Q rest (k + 1) (a.put (some d) v) w) : wpLex Try.prog ops C eff z Q (o :: rest) k a w := by
  refine ⟨hC, ?_⟩
  rw [if_neg (by rw [he]; simp)]
  exact ⟨v, Or.inl ⟨hw, hr⟩, by rw [hd]; exact h (hF.put d v hN)⟩
theorem lcp (hF : Fr N a f) (he : eff k = true) (hC : C w) (hd : o.dst = some d) (hN : d < N) (hw : Region.wanted o (yielded ops a.tmps) = true) {g : Nat} {args : Array Value} {Post : Ending → World → Prop} (hr : (execOp a.eval o).run Try.prog w = .ok (.enter g args) w) (hc : Calls Try.prog g args w Post)
    (h : ∀ e w', Post e w' → ∃ v, e = .returned v ∧ (Fr N (a.put (some d) v) (upd f d v) → wpLex Try.prog ops C eff z Q rest (k + 1) (a.put (some d) v) w')) : wpLex Try.prog ops C eff z Q (o :: rest) k a w := by
  refine ⟨hC, ?_⟩
  rw [if_pos he]
  refine Or.inl ⟨hw, Or.inr ⟨g, args, hr, hc.mono fun e w' hp => ?_⟩⟩
  obtain ⟨v, rfl, h'⟩ := h e w' hp
  exact ⟨v, rfl, by rw [hd]; exact h' (hF.put d v hN)⟩
end
theorem withFrL {ops : Array Oper} {C : World → Prop} {eff : Nat → Bool} {z : Nat} {Q : Act → World → Prop} {l : List Oper} {k : Nat} {t : Array Value} {w : World} {N : Nat} (ht : t.size = N) (h : ∀ a f, Fr N a f → (∀ j, f j = t.getD j undef) → wpLex Try.prog ops C eff z Q l k a w) : wpLex Try.prog ops C eff z Q l k { tmps := t, defers := [] } w :=
  h _ _ (Fr.ofLit t ht) fun _ => rfl
section
variable {ops : Array Oper} {C : World → Prop} {eff : Nat → Bool} {Q : Act → World → Prop} {a : Act} {w w1 : World} {rest : List Oper} {o : Oper} {f : Nat → Value} {N d k z : Nat}
theorem lep (hF : Fr N a f) (he : eff k = true) (hC : C w) (hd : o.dst = some d) (hN : d < N) (hw : Region.wanted o (yielded ops a.tmps) = true) {v : Value} (hr : (execOp a.eval o).run Try.prog w = .ok (.value v) w1)
    (h : Fr N (a.put (some d) v) (upd f d v) → wpLex Try.prog ops C eff z Q rest (k + 1) (a.put (some d) v) w1) : wpLex Try.prog ops C eff z Q (o :: rest) k a w := by
  refine ⟨hC, ?_⟩
  rw [if_pos he]
  exact Or.inl ⟨hw, Or.inl ⟨v, w1, Or.inl hr, by rw [hd]; exact h (hF.put d v hN)⟩⟩
end
end Go.Proofs.Ytfgnlfemckdfnaa.Z
namespace Go.Proofs.Ytfgnlfemckdfnaa
open Go.RowKit Go.PlainAid
set_option linter.unusedSimpArgs false
set_option linter.unusedVariables false
/-- The reader, the segment's box and the result's box. -/
structure DS (w : World) (ao : Option Addr) (n cap : Nat) (bs : List UInt8) (st : Nat × Bool) (C : Array Value) (W : World) : Prop where
  rd : RdB W (w.heap.size + 1) ao n cap bs st
  blk : Blk W (w.heap.size + 2) C 46
  res : Blk W w.heap.size zeroS 46
  low : Below w.heap.size w W
section
variable {w W W' : World} {ao : Option Addr} {n cap : Nat} {bs : List UInt8} {st st' : Nat × Bool} {C : Array Value}
theorem DS.rw (h : DS w ao n cap bs st C W) (hR : RdB W' (w.heap.size + 1) ao n cap bs st') (hw : RW (w.heap.size + 1) W W') : DS w ao n cap bs st' C W' :=
  ⟨hR, (hw.block _ (by omega)).trans h.blk, (hw.block _ (by omega)).trans h.res, h.low.trans ⟨hw.os, hw.tape, hw.output, by rw [hw.size]; exact Nat.le_refl _, fun k hk => hw.block k (by omega)⟩⟩
theorem DS.set (h : DS w ao n cap bs st C W) (hab : ∀ b o, ao = some ⟨b, o, none⟩ → b < w.heap.size) (j : Nat) (v : Value) : DS w ao n cap bs st (C.setIfInBounds j v) (W.setCell ⟨w.heap.size + 2, j, none⟩ v) := by
  have hk : ∀ k, k ≠ w.heap.size + 2 → (W.setCell ⟨w.heap.size + 2, j, none⟩ v).heap[k]? = W.heap[k]? := fun k hk => Below.heap_setCell _ _ _ _ hk
  refine ⟨⟨(hk _ (by omega)).trans h.rd.blk, h.rd.len, fun h0 => ?_, h.rd.le⟩, Blk.set h.blk j v, (hk _ (by omega)).trans h.res, h.low.trans ⟨rfl, rfl, rfl, by simp [World.setCell], fun k hk2 => hk k (by omega)⟩⟩
  obtain ⟨b, off, e, hc⟩ := h.rd.src h0
  have := hab b off e
  exact ⟨b, off, e, fun i u hu => (World.cell?_of_block (w := W) (hk b (by omega))).trans (hc i u hu)⟩
theorem DS.drew (h : DS w ao n cap bs st C W) : DS w ao n cap bs st C ({ W with drawn := W.drawn + 1 } : World) :=
  ⟨h.rd.keep fun _ _ => rfl, h.blk, h.res, h.low.trans ⟨rfl, rfl, rfl, Nat.le_refl _, fun _ _ => rfl⟩⟩
theorem DS.up (h : DS w ao n cap bs st C W) (hb : Below W.heap.size W W') : DS w ao n cap bs st C W' :=
  ⟨h.rd.keep hb.block, (hb.block _ h.blk.lt).trans h.blk, (hb.block _ h.res.lt).trans h.res, h.low.trans (hb.mono h.low.size)⟩
end
theorem rnum_range (lo hi : Nat) (bs : List UInt8) (st : Nat × Bool) : 0 ≤ (rstep (num lo hi) 0 bs st).1 ∧ (rstep (num lo hi) 0 bs st).1 ≤ (hi : Int) := by
  have hz : (0 : Int) ≤ 0 ∧ (0 : Int) ≤ (hi : Int) := ⟨Int.le_refl _, by omega⟩
  unfold rstep
  split
  · exact hz
  · cases h : (num lo hi).rd (bs.drop st.1) with
    | error k => exact hz
    | ok v =>
      obtain ⟨x, k⟩ := v
      simp only [num] at h
      split at h
      · cases h
      · split at h
        · rename_i hc
          simp only [Except.ok.injEq, Prod.mk.injEq] at h
          obtain ⟨rfl, rfl⟩ := h
          simp only [Bool.and_eq_true, decide_eq_true_eq] at hc
          show (0 : Int) ≤ ((_ : Nat) : Int) ∧ ((_ : Nat) : Int) ≤ (hi : Int)
          constructor <;> omega
        · cases h
theorem seg_whole (bs : List UInt8) (r1 r2 r3 r4 r5 : Int × Nat × Bool) (r6 : List UInt8 × Nat × Bool) (h1 : rstep (num 0 15) 0 bs (0, false) = r1) (h2 : rstep (num 0 15) 0 bs r1.2 = r2) (h3 : rstep (num 0 maxN) 0 bs r2.2 = r3) (h4 : rstep (num 0 maxN) 0 bs r3.2 = r4) (h5 : rstep (num (lowOf r3.1) (highOf r3.1)) 0 bs r4.2 = r5) (h6 : rstep (some' r5.1.toNat) [] bs r5.2 = r6) :
    (r6.2.2 = true ∨ r6.2.1 < bs.length → whole segment bs = .error r6.2.1) ∧ (¬ (r6.2.2 = true ∨ r6.2.1 < bs.length) → whole segment bs = .ok (⟨r1.1, r2.1, r3.1, r4.1, r6.1⟩, 0)) := by
  have hf : segFields bs = (r1.1, r2.1, r3.1, r4.1, r6.1, r6.2) := by simp only [segFields, h1, h2, h3, h4, h5, h6]
  have hr := seg_run bs
  rw [hf] at hr
  unfold whole
  cases hs : segment.rd bs with
  | error k =>
    rw [hs] at hr
    simp only at hr
    rw [hr]
    exact ⟨fun _ => rfl, fun h => absurd (Or.inl rfl) h⟩
  | ok v =>
    obtain ⟨x, k⟩ := v
    rw [hs] at hr
    simp only [Prod.mk.injEq] at hr
    obtain ⟨e1, e2, e3, e4, e6, e7⟩ := hr
    rw [e1, e2, e3, e4, e6, e7]
    constructor
    · rintro (h | h)
      · cases h
      · show (if k < bs.length then _ else _) = _
        rw [if_pos h]
    · intro h
      show (if k < bs.length then _ else _) = _
      rw [if_neg (fun hk => h (Or.inr hk))]
/-- Bytes appended to nothing lie in a row of their own. -/
theorem app_nil {w2 : World} {ps : List UInt8} {ao : Option Addr} {n c : Nat} (hn : ps.length = n) (hnil : ao = none → n = 0 ∧ c = 0) (hf : From w2 ao ps) (hl : n ≤ 4000) :
    ∃ ao3 c3 w3, (Builtin.append_ #[22, 22] 22 #[.slice none 0 0, .slice ao n c]).run Try.prog w2 = .ok (.slice ao3 n c3) w3 ∧ w3.ownsRow w2.heap.size 5 1 (.slice ao3 n c3) n (ps.map B) ∧ Below w2.heap.size w2 w3 := by
  obtain ⟨i0, hi, hz0, hz1, hz2⟩ := info_parts Try.info5
  cases ao with
  | none =>
    obtain ⟨rfl, rfl⟩ := hnil rfl
    obtain rfl : ps = [] := List.eq_nil_of_length_eq_zero hn
    refine ⟨none, 0, w2, ?_, World.ownsRow_nil _ _ _ _, Below.refl _ _⟩
    simp [Builtin.append_, run_underlying Try.underlying22, sizeOf, typeInfo, hi, Builtin.lenOf, Builtin.firstCells, loadCells, loadCellsFrom]
  | some ad =>
    obtain ⟨v3, w3, hr, h1, h2, _⟩ := run_append_own (P := Try.prog) w2 w2.heap.size 22 22 5 i0 _ 1 1 Try.underlying22 hi hz0 hz1 hz2 rfl (by decide) (.slice none 0 0) 0 [] (World.ownsRow_nil _ _ _ _) ad n c (ps.map B) (by simp [hn]) (news_of hf) (oneCells ps) (by unfold maxLen; omega) (by omega) (Nat.le_refl _)
    have hb : Below w2.heap.size w2 w3 := (Below.refl w2.heap.size w2).grown h2 (Nat.le_refl _) (fun j e => by cases e)
    rw [List.nil_append, Nat.zero_add] at h1
    have h1' := h1
    rcases h1.2 with ⟨rfl, rfl⟩ | ⟨g, cap, cur, rfl, _⟩
    · exact ⟨none, 0, w3, hr, h1', hb⟩
    · exact ⟨some ⟨g, 0, none⟩, cap, w3, hr, h1', hb⟩
theorem rtake_len (m : Nat) (bs : List UInt8) (st : Nat × Bool) (hm : m ≤ 4000) : (rstep (some' m) [] bs st).1.length ≤ 4000 := by
  unfold rstep
  split
  · simp
  · cases h : (some' m).rd (bs.drop st.1) with
    | error k => simp
    | ok v =>
      obtain ⟨x, k⟩ := v
      simp only [some'] at h
      split at h
      · cases h
      · simp only [Except.ok.injEq, Prod.mk.injEq] at h
        obtain ⟨rfl, rfl⟩ := h
        show (List.take m (List.drop st.1 bs)).length ≤ 4000
        rw [List.length_take]
        omega
theorem doneD {G : Prop} {N : Nat} {a : Act} {f : Nat → Value} {v2 v5 v6 : Value} (hF : Fr N a f) (k2 : f 2 = v2) (k5 : f 5 = v5) (k6 : f 6 = v6) (h : ∀ f', Fr N a f' → f' 2 = v2 → f' 5 = v5 → f' 6 = v6 → G) : G := h f hF k2 k5 k6
set_option maxRecDepth 100000 in
set_option maxHeartbeats 6400000 in
theorem rdecSeg_any (ao : Option Addr) (n cap : Nat) (bs : List UInt8) (w : World) (hlen : bs.length = n) (hsrc : From w ao bs) (hab : ∀ b o, ao = some ⟨b, o, none⟩ → b < w.heap.size) (hsm : n ≤ 140737488355328) (hrm : n ≤ cap) (hnil : ao = none → n = 0 ∧ cap = 0) (hform : ao = none ∨ ∃ b off, ao = some ⟨b, off, none⟩) :
    Calls Try.prog 58 #[.slice ao n cap] w (DecSPost (whole segment bs) w) := by
  have hz : (w.alloc (.cells zeroS 46)).heap.size = w.heap.size + 1 := World.size_alloc _ _
  have hb1 : Below w.heap.size w ((w.alloc (.cells zeroS 46)).alloc (.cells #[.slice ao n cap, .int .i64 0, .bool false] 150)) := ((Below.refl _ _).alloc (Nat.le_refl _) _).alloc (by simp) _
  have hR0 : RdB ((w.alloc (.cells zeroS 46)).alloc (.cells #[.slice ao n cap, .int .i64 0, .bool false] 150)) (w.heap.size + 1) ao n cap bs (0, false) := by
    refine ⟨?_, hlen, hsrc.keep fun b o e => hb1.block b (hab b o e), Nat.zero_le _⟩
    rw [← hz]
    exact heap_alloc_new _ _
  have hres0 : Blk ((w.alloc (.cells zeroS 46)).alloc (.cells #[.slice ao n cap, .int .i64 0, .bool false] 150)) w.heap.size zeroS 46 := (Below.heap_alloc _ _ _ (by simp)).trans (heap_alloc_new w _)
  have hsz2 : ((w.alloc (.cells zeroS 46)).alloc (.cells #[.slice ao n cap, .int .i64 0, .bool false] 150)).heap.size = w.heap.size + 2 := by simp
  have hn1 := rnum_any (w.heap.size + 1) ao n cap bs (0, false) 0 15 (by omega) (by omega) _ hR0 hsm
  have HW : Hid _ := seg_whole bs
  have HRES : Hid _ := hres0
  have HB1 : Hid _ := hb1
  clear hR0 hres0 hb1 hsrc
  go_enter Try.func58, Try.ntmps58
  go_wp2_with fail
  refine hn1.mono ?_
  rintro e1 w1 ⟨rfl, hS1, hW1⟩
  have hs1 : w1.heap.size = w.heap.size + 2 := hW1.size.trans hsz2
  replace HW : Hid _ := fun r2 r3 r4 r5 r6 => HW.out _ r2 r3 r4 r5 r6 rfl
  generalize rstep (num 0 15) 0 bs (0, false) = r1 at *
  clear hn1
  have D0 : DS w ao n cap bs r1.2 #[.int .i64 r1.1, .int .i64 0, .int .i64 0, .int .i64 0, .slice none 0 0] (w1.alloc (.cells #[.int .i64 r1.1, .int .i64 0, .int .i64 0, .int .i64 0, .slice none 0 0] 46)) := by
    have hb2 : Below w1.heap.size w1 (w1.alloc (.cells #[.int .i64 r1.1, .int .i64 0, .int .i64 0, .int .i64 0, .slice none 0 0] 46)) := (Below.refl _ _).alloc (Nat.le_refl _) _
    refine ⟨hS1.keep hb2.block, ?_, ?_, (HB1.out.trans ⟨hW1.os, hW1.tape, hW1.output, by rw [hW1.size]; exact Nat.le_refl _, fun k hk => hW1.block k (by omega)⟩).trans (hb2.mono (by omega))⟩
    · rw [← hs1]
      exact heap_alloc_new _ _
    · exact (hb2.block _ (by omega)).trans ((hW1.block _ (by omega)).trans HRES.out)
  clear HB1 HRES hS1 hW1
  go_wp2_with fail
  generalize (w1.alloc (.cells #[.int .i64 r1.1, .int .i64 0, .int .i64 0, .int .i64 0, .slice none 0 0] 46)) = W1 at *
  have hnr2 := rnum_any (w.heap.size + 1) ao n cap bs r1.2 0 15 (by omega) (by omega) _ D0.rd hsm
  refine hnr2.mono ?_
  rintro er2 w2 ⟨rfl, hSr2, hWr2⟩
  replace HW : Hid _ := fun r3 r4 r5 r6 => HW.out _ r3 r4 r5 r6 rfl
  skip
  generalize rstep (num 0 15) 0 bs r1.2 = r2 at *
  clear hnr2
  have Dr2 := D0.rw hSr2 hWr2
  clear D0 hSr2 hWr2
  have cr2 : w2.cell? ⟨w.heap.size + 2, 1, none⟩ = some (.int .i64 0) := Dr2.blk.cell 1
  have zr2 := Dr2.blk.frozen 1
  have Er2 : DS w ao n cap bs r2.2 #[.int .i64 r1.1, .int .i64 r2.1, .int .i64 0, .int .i64 0, .slice none 0 0] (w2.setCell ⟨w.heap.size + 2, 1, none⟩ (.int .i64 r2.1)) := Dr2.set hab 1 (.int .i64 r2.1)
  clear Dr2
  go_wp2_with fail
  generalize (w2.setCell ⟨w.heap.size + 2, 1, none⟩ (.int .i64 r2.1)) = W2 at *
  clear cr2 zr2
  have hnr3 := rnum_any (w.heap.size + 1) ao n cap bs r2.2 0 1099511627776 (by omega) (by omega) _ Er2.rd hsm
  refine hnr3.mono ?_
  rintro er3 w3 ⟨rfl, hSr3, hWr3⟩
  have hrgr3 := rnum_range 0 1099511627776 bs r2.2
  replace HW : Hid _ := fun r4 r5 r6 => HW.out _ r4 r5 r6 rfl
  simp only [show maxN = 1099511627776 from rfl] at HW
  generalize rstep (num 0 1099511627776) 0 bs r2.2 = r3 at *
  clear hnr3
  have Dr3 := Er2.rw hSr3 hWr3
  clear Er2 hSr3 hWr3
  have cr3 : w3.cell? ⟨w.heap.size + 2, 2, none⟩ = some (.int .i64 0) := Dr3.blk.cell 2
  have zr3 := Dr3.blk.frozen 2
  have Er3 : DS w ao n cap bs r3.2 #[.int .i64 r1.1, .int .i64 r2.1, .int .i64 r3.1, .int .i64 0, .slice none 0 0] (w3.setCell ⟨w.heap.size + 2, 2, none⟩ (.int .i64 r3.1)) := Dr3.set hab 2 (.int .i64 r3.1)
  clear Dr3
  go_wp2_with fail
  generalize (w3.setCell ⟨w.heap.size + 2, 2, none⟩ (.int .i64 r3.1)) = W3 at *
  clear cr3 zr3
  have hnr4 := rnum_any (w.heap.size + 1) ao n cap bs r3.2 0 1099511627776 (by omega) (by omega) _ Er3.rd hsm
  refine hnr4.mono ?_
  rintro er4 w4 ⟨rfl, hSr4, hWr4⟩
  replace HW : Hid _ := fun r5 r6 => HW.out _ r5 r6 rfl
  skip
  generalize rstep (num 0 1099511627776) 0 bs r3.2 = r4 at *
  clear hnr4
  have Dr4 := Er3.rw hSr4 hWr4
  clear Er3 hSr4 hWr4
  have cr4 : w4.cell? ⟨w.heap.size + 2, 3, none⟩ = some (.int .i64 0) := Dr4.blk.cell 3
  have zr4 := Dr4.blk.frozen 3
  have Er4 : DS w ao n cap bs r4.2 #[.int .i64 r1.1, .int .i64 r2.1, .int .i64 r3.1, .int .i64 r4.1, .slice none 0 0] (w4.setCell ⟨w.heap.size + 2, 3, none⟩ (.int .i64 r4.1)) := Dr4.set hab 3 (.int .i64 r4.1)
  have d2 : (w4.setCell ⟨w.heap.size + 2, 3, none⟩ (.int .i64 r4.1)).cell? ⟨w.heap.size + 2, 2, none⟩ = some (.int .i64 r3.1) := Er4.blk.cell 2
  clear Dr4
  by_cases hq : r3.1 = 0
  · go_wp2_with fail
    generalize (w4.setCell ⟨w.heap.size + 2, 3, none⟩ (.int .i64 r4.1)) = W4 at *
    clear cr4 zr4
    have hnr5 := rnum_any (w.heap.size + 1) ao n cap bs r4.2 0 0 (by omega) (by omega) _ Er4.rd hsm
    refine hnr5.mono ?_
    rintro er5 w5 ⟨rfl, hSr5, hWr5⟩
    have hrgr5 := rnum_range 0 0 bs r4.2
    replace HW : Hid _ := fun r5 r6 => HW.out r5 r6
    simp only [lowOf, highOf, hq, if_true] at HW
    replace HW : Hid _ := fun r6 => HW.out _ r6 rfl
    generalize rstep (num 0 0) 0 bs r4.2 = r5 at *
    clear hnr5
    have D5 := Er4.rw hSr5 hWr5
    clear Er4 hSr5 hWr5 d2
    rw [hq] at D5
    obtain ⟨m, hm⟩ : ∃ m : Nat, r5.1 = (m : Int) := ⟨r5.1.toNat, by omega⟩
    have hm4 : m ≤ 4000 := by omega
    rw [hm] at HW ⊢
    rw [Int.toNat_natCast] at HW
    go_wp2_with fail
    rename_i K hK
    refine Z.wp_region_mix (fun wr => wr.cell? ⟨w.heap.size + 2, 4, none⟩ = some (.slice none 0 0)) (fun i => i == 4 || i == 5 || i == 7) 7 (by kernel_rfl) rfl (by kernel_rfl) (by kernel_rfl) (by kernel_rfl) ?_
    have D6 := D5.drew
    clear D5
    generalize ({ w5 with drawn := w5.drawn + 1 } : World) = W5 at *
    have hC : W5.cell? ⟨w.heap.size + 2, 4, none⟩ = some (.slice none 0 0) := D6.blk.cell 4
    refine Z.withFrL (N := 50) rfl ?_
    intro a f hF hff
    have f2 : f 2 = .pointer (some ⟨w.heap.size, 0, none⟩) := hff 2
    have f5 : f 5 = .pointer (some ⟨w.heap.size + 1, 0, none⟩) := hff 5
    have f6 : f 6 = .pointer (some ⟨w.heap.size + 2, 0, none⟩) := hff 6
    have f7 : f 7 = .int .i64 ((m : Nat) : Int) := hff 7
    clear hff
    refine Z.ly hF rfl hC rfl (by omega) (wanted_none rfl) (v := Value.pointer (some ⟨w.heap.size + 2, 4, none⟩)) (fun wr hwr => by simp only [execOp, (hF.eval 6 (by omega)).trans f6]; simp [go_sem]) fun a1 F1 => ?_
    refine Z.ly F1 rfl hC rfl (by omega) (wanted_none rfl) (v := Value.slice none 0 0) (fun wr hwr => by simp only [execOp, (F1.eval 32 (by omega)).trans (show _ = Value.pointer (some ⟨w.heap.size + 2, 4, none⟩) from by simp [upd])]; simp [go_sem, hwr]) fun a2 F2 => ?_
    refine Z.ly F2 rfl hC rfl (by omega) (wanted_none rfl) (v := Value.pointer (some ⟨w.heap.size + 1, 0, none⟩)) (fun wr hwr => by simp only [execOp, (F2.eval 5 (by omega)).trans (show _ = Value.pointer (some ⟨w.heap.size + 1, 0, none⟩) from by simp [upd, f5])]; rfl) fun a3 F3 => ?_
    refine Z.ly F3 rfl hC rfl (by omega) (wanted_none rfl) (v := Value.int .i64 ((m : Nat) : Int)) (fun wr hwr => by simp only [execOp, (F3.eval 7 (by omega)).trans (show _ = Value.int .i64 ((m : Nat) : Int) from by simp [upd, f7])]; rfl) fun a4 F4 => ?_
    have htk := rtake_any (w.heap.size + 1) ao n cap bs r5.2 m hm4 W5 D6.rd hsm hrm hnil hform
    refine Z.lc F4 rfl hC rfl (by omega) (wanted_none rfl) (g := 83) (args := #[.pointer (some ⟨w.heap.size + 1, 0, none⟩), .int .i64 ((m : Nat) : Int)]) (by simp only [execOp, resolve, invoke, List.map_toArray, List.map_cons, List.map_nil, (F4.eval 34 (by omega)).trans (show _ = Value.pointer (some ⟨w.heap.size + 1, 0, none⟩) from by simp [upd]), (F4.eval 35 (by omega)).trans (show _ = Value.int .i64 ((m : Nat) : Int) from by simp [upd])]; simp [go_sem, Act.eval]) htk ?_
    rintro e6 w6 ⟨⟨ao6, c6, rfl, hf6, hnil6, hsub6⟩, hS6, hW6⟩
    have hx4 : (rstep (some' m) [] bs r5.2).1.length ≤ 4000 := rtake_len m bs r5.2 hm4
    replace HW : Hid _ := HW.out _ rfl
    generalize rstep (some' m) [] bs r5.2 = r6 at *
    clear htk
    have D7 := D6.rw hS6 hW6
    clear D6 hS6 hW6
    refine ⟨_, rfl, fun a5 F5 => ?_⟩
    have hC : w6.cell? ⟨w.heap.size + 2, 4, none⟩ = some (.slice none 0 0) := D7.blk.cell 4
    obtain ⟨ao7, c7, w7, hrun7, hown7, hb7⟩ := app_nil rfl hnil6 hf6 hx4
    have hz6 : w.heap.size + 2 < w6.heap.size := D7.blk.lt
    have hown7' := own_mono hown7 (show w.heap.size + 3 ≤ w6.heap.size from by omega)
    have D8 := D7.up hb7
    refine Z.le F5 rfl hC rfl (by omega) (wanted_none rfl) (v := .slice ao7 r6.1.length c7) (w1 := w7) (by simp only [execOp, resolve, invoke, builtin, Sem.run_bind, Sem.run_pure, Result.andThen_ok, List.map_toArray, List.map_cons, List.map_nil, (F5.eval 33 (by omega)).trans (show _ = Value.slice none 0 0 from by simp [upd]), (F5.eval 36 (by omega)).trans (show _ = Value.slice ao6 r6.1.length c6 from by simp [upd]), hrun7]) fun a6 F6 => ?_
    have hC : w7.cell? ⟨w.heap.size + 2, 4, none⟩ = some (.slice none 0 0) := D8.blk.cell 4
    refine Z.ly F6 rfl hC rfl (by omega) (wanted_none rfl) (v := Value.pointer (some ⟨w.heap.size + 2, 4, none⟩)) (fun wr hwr => by simp only [execOp, (F6.eval 6 (by omega)).trans (show _ = Value.pointer (some ⟨w.heap.size + 2, 0, none⟩) from by simp [upd, f6])]; simp [go_sem]) fun a7 F7 => ?_
    have D9 : DS w ao n cap bs r6.2 #[.int .i64 r1.1, .int .i64 r2.1, .int .i64 0, .int .i64 r4.1, .slice ao7 r6.1.length c7] (w7.setCell ⟨w.heap.size + 2, 4, none⟩ (.slice ao7 r6.1.length c7)) := D8.set hab 4 _
    have z4 := D8.blk.frozen 4
    refine Z.lst rfl hC rfl (wanted_none rfl) (w1 := w7.setCell ⟨w.heap.size + 2, 4, none⟩ (.slice ao7 r6.1.length c7)) (by simp only [execOp, (F7.eval 38 (by omega)).trans (show _ = Value.pointer (some ⟨w.heap.size + 2, 4, none⟩) from by simp [upd]), (F7.eval 37 (by omega)).trans (show _ = Value.slice ao7 r6.1.length c7 from by simp [upd])]; simp [go_sem, hC, z4]) ?_
    have hown9 : (w7.setCell ⟨w.heap.size + 2, 4, none⟩ (.slice ao7 r6.1.length c7)).ownsRow (w.heap.size + 3) 5 1 (.slice ao7 r6.1.length c7) r6.1.length (r6.1.map B) := own_stable hown7' fun k h3 _ => Below.heap_setCell _ _ _ _ (by show k ≠ w.heap.size + 2; omega)
    clear hown7 hown7' D8 D7 hb7 hrun7 z4
    generalize (w7.setCell ⟨w.heap.size + 2, 4, none⟩ (.slice ao7 r6.1.length c7)) = W7 at *
    refine doneD F7 (show _ = Value.pointer (some ⟨w.heap.size, 0, none⟩) from by simp [upd, f2]) (show _ = Value.pointer (some ⟨w.heap.size + 1, 0, none⟩) from by simp [upd, f5]) (show _ = Value.pointer (some ⟨w.heap.size + 2, 0, none⟩) from by simp [upd, f6]) fun f' F' k2 k5 k6 => ?_
    clear hf6 hnil6 hsub6 hC F1 F2 F3 F4 F5 F6
    refine ⟨fun hle => absurd hle (by omega), ?_⟩
    show K _ _
    apply hK
    rw [F'.lit, show ((List.range 50).map f').toArray = #[f' 0, f' 1, f' 2, f' 3, f' 4, f' 5, f' 6, f' 7, f' 8, f' 9, f' 10, f' 11, f' 12, f' 13, f' 14, f' 15, f' 16, f' 17, f' 18, f' 19, f' 20, f' 21, f' 22, f' 23, f' 24, f' 25, f' 26, f' 27, f' 28, f' 29, f' 30, f' 31, f' 32, f' 33, f' 34, f' 35, f' 36, f' 37, f' 38, f' 39, f' 40, f' 41, f' 42, f' 43, f' 44, f' 45, f' 46, f' 47, f' 48, f' 49] from rfl, k2, k5, k6]
    have hdn := rdone_any (w.heap.size + 1) ao n cap r6.2.1 bs r6.2.2 W7 D9.rd.rds
    obtain ⟨HWA, HWB⟩ := HW.out
    rw [hlen] at HWA HWB
    by_cases hwr : r6.2.2 = true ∨ r6.2.1 < n
    · rw [if_pos hwr] at hdn
      replace HWA : Hid _ := HWA hwr
      clear HWB HW
      go_wp2_with fail
      refine hdn.mono ?_
      rintro e8 w8 ⟨rfl, hD8⟩
      have hB0 : Blk w8 w.heap.size zeroS 46 := by unfold Blk; rw [hD8.heap]; exact D9.res
      have hbB : Below w.heap.size w w8 := D9.low.trans (hD8.below.mono D9.low.size)
      have hfin : DecSPost (whole segment bs) w (.returned (.tuple #[.agg zeroS, .int .i64 (r6.2.1 : Nat), .int .i64 20])) (w8.setRow w.heap.size zeroS) := by
        refine ⟨hbB.trans ⟨rfl, rfl, rfl, by simp [World.setRow], fun k hk => setRow_other _ _ _ _ (by omega)⟩, ?_⟩
        rw [HWA.out]
      have hB3 := setRow_blk (cs := zeroS) hB0
      have HF : Hid _ := hfin
      clear hfin hbB
      go_wp2_with (first | (rw [zeroS_is]; refine wpList_store_row rfl 46 (.tmp 2) (.tmp 46) rfl w.heap.size zeroS rfl rfl 46 zeroS hB0 (by kernel_rfl) rfl (by kernel_rfl) ?_) | (refine wpList_store_row rfl 46 (.tmp 2) (.tmp 46) rfl w.heap.size zeroS rfl rfl 46 zeroS hB0 (by kernel_rfl) rfl (by kernel_rfl) ?_) | fail)
      go_wp2
      exact bodyPost_ret (results_cell2 Try.results58 _ _ w.heap.size zeroS rfl (run_loadVar_row _ _ 46 46 zeroS (0, 0) _ hB3 Try.underlying46 rfl (by kernel_rfl))) rfl HF.out
    · rw [if_neg hwr] at hdn
      replace HWB : Hid _ := HWB hwr
      clear HWA HW
      go_wp2_with fail
      refine hdn.mono ?_
      rintro e8 w8 ⟨rfl, hD8⟩
      have hB0 : Blk w8 w.heap.size zeroS 46 := by unfold Blk; rw [hD8.heap]; exact D9.res
      have hM : Blk w8 (w.heap.size + 2) (segCells r1.1 r2.1 0 r4.1 (.slice ao7 r6.1.length c7)) 46 := by unfold Blk; rw [hD8.heap]; exact D9.blk
      have hbB : Below w.heap.size w w8 := D9.low.trans (hD8.below.mono D9.low.size)
      have hV : w8.ownsRow (w.heap.size + 3) 5 1 (.slice ao7 r6.1.length c7) r6.1.length (r6.1.map B) := own_stable hown9 fun k _ _ => by rw [hD8.heap]
      have hall : (segCells r1.1 r2.1 0 r4.1 (.slice ao7 r6.1.length c7)).all (·.oneCell') = true := by simp [segCells, Value.oneCell']
      have hfin : DecSPost (whole segment bs) w (.returned (.tuple #[.agg (segCells r1.1 r2.1 0 r4.1 (.slice ao7 r6.1.length c7)), .int .i64 0, .int .i64 0])) (w8.setRow w.heap.size (segCells r1.1 r2.1 0 r4.1 (.slice ao7 r6.1.length c7))) := by
        refine ⟨hbB.trans ⟨rfl, rfl, rfl, by simp [World.setRow], fun k hk => setRow_other _ _ _ _ (by omega)⟩, ?_⟩
        rw [HWB.out]
        exact ⟨ao7, c7, rfl, own_mono (own_stable hV fun k h3 _ => setRow_other _ _ _ _ (by omega)) (by omega)⟩
      have hB3 := setRow_blk (cs := segCells r1.1 r2.1 0 r4.1 (.slice ao7 r6.1.length c7)) hB0
      have HF : Hid _ := hfin
      have HV : Hid _ := hV
      clear hfin hbB hV
      generalize hD : segCells r1.1 r2.1 0 r4.1 (.slice ao7 r6.1.length c7) = D at *
      have hsz : D.size = 5 := by rw [← hD]; rfl
      have hi46 : (Try.prog.info? 46).map (·.size) = some D.size := by rw [hsz]; kernel_rfl
      clear hD
      go_wp2_with (first | (refine wpList_load_row rfl 46 (.tmp 6) rfl (w.heap.size + 2) rfl 46 D (0, 0) _ hM Try.underlying46 rfl hi46 ?_) | (refine wpList_store_row rfl 46 (.tmp 2) (.tmp 49) rfl w.heap.size D rfl rfl 46 zeroS hB0 hi46 (by rw [hsz]; rfl) hall ?_) | fail)
      go_wp2
      exact bodyPost_ret (results_cell2 Try.results58 _ _ w.heap.size D rfl (run_loadVar_row _ _ 46 46 D (0, 0) _ hB3 Try.underlying46 rfl hi46)) rfl HF.out
  · go_wp2_with fail
    generalize (w4.setCell ⟨w.heap.size + 2, 3, none⟩ (.int .i64 r4.1)) = W4 at *
    clear cr4 zr4
    have hnr5 := rnum_any (w.heap.size + 1) ao n cap bs r4.2 1 4000 (by omega) (by omega) _ Er4.rd hsm
    refine hnr5.mono ?_
    rintro er5 w5 ⟨rfl, hSr5, hWr5⟩
    have hrgr5 := rnum_range 1 4000 bs r4.2
    replace HW : Hid _ := fun r5 r6 => HW.out r5 r6
    simp only [lowOf, highOf, hq, if_false] at HW
    replace HW : Hid _ := fun r6 => HW.out _ r6 rfl
    generalize rstep (num 1 4000) 0 bs r4.2 = r5 at *
    clear hnr5
    have D5 := Er4.rw hSr5 hWr5
    clear Er4 hSr5 hWr5 d2
    obtain ⟨m, hm⟩ : ∃ m : Nat, r5.1 = (m : Int) := ⟨r5.1.toNat, by omega⟩
    have hm4 : m ≤ 4000 := by omega
    rw [hm] at HW ⊢
    rw [Int.toNat_natCast] at HW
    go_wp2_with fail
    rename_i K hK
    refine Z.wp_region_mix (fun wr => wr.cell? ⟨w.heap.size + 2, 4, none⟩ = some (.slice none 0 0)) (fun i => i == 4 || i == 5 || i == 7) 7 (by kernel_rfl) rfl (by kernel_rfl) (by kernel_rfl) (by kernel_rfl) ?_
    have D6 := D5.drew
    clear D5
    generalize ({ w5 with drawn := w5.drawn + 1 } : World) = W5 at *
    have hC : W5.cell? ⟨w.heap.size + 2, 4, none⟩ = some (.slice none 0 0) := D6.blk.cell 4
    refine Z.withFrL (N := 50) rfl ?_
    intro a f hF hff
    have f2 : f 2 = .pointer (some ⟨w.heap.size, 0, none⟩) := hff 2
    have f5 : f 5 = .pointer (some ⟨w.heap.size + 1, 0, none⟩) := hff 5
    have f6 : f 6 = .pointer (some ⟨w.heap.size + 2, 0, none⟩) := hff 6
    have f7 : f 7 = .int .i64 ((m : Nat) : Int) := hff 7
    clear hff
    refine Z.ly hF rfl hC rfl (by omega) (wanted_none rfl) (v := Value.pointer (some ⟨w.heap.size + 2, 4, none⟩)) (fun wr hwr => by simp only [execOp, (hF.eval 6 (by omega)).trans f6]; simp [go_sem]) fun a1 F1 => ?_
    refine Z.ly F1 rfl hC rfl (by omega) (wanted_none rfl) (v := Value.slice none 0 0) (fun wr hwr => by simp only [execOp, (F1.eval 32 (by omega)).trans (show _ = Value.pointer (some ⟨w.heap.size + 2, 4, none⟩) from by simp [upd])]; simp [go_sem, hwr]) fun a2 F2 => ?_
    refine Z.ly F2 rfl hC rfl (by omega) (wanted_none rfl) (v := Value.pointer (some ⟨w.heap.size + 1, 0, none⟩)) (fun wr hwr => by simp only [execOp, (F2.eval 5 (by omega)).trans (show _ = Value.pointer (some ⟨w.heap.size + 1, 0, none⟩) from by simp [upd, f5])]; rfl) fun a3 F3 => ?_
    refine Z.ly F3 rfl hC rfl (by omega) (wanted_none rfl) (v := Value.int .i64 ((m : Nat) : Int)) (fun wr hwr => by simp only [execOp, (F3.eval 7 (by omega)).trans (show _ = Value.int .i64 ((m : Nat) : Int) from by simp [upd, f7])]; rfl) fun a4 F4 => ?_
    have htk := rtake_any (w.heap.size + 1) ao n cap bs r5.2 m hm4 W5 D6.rd hsm hrm hnil hform
    refine Z.lc F4 rfl hC rfl (by omega) (wanted_none rfl) (g := 83) (args := #[.pointer (some ⟨w.heap.size + 1, 0, none⟩), .int .i64 ((m : Nat) : Int)]) (by simp only [execOp, resolve, invoke, List.map_toArray, List.map_cons, List.map_nil, (F4.eval 34 (by omega)).trans (show _ = Value.pointer (some ⟨w.heap.size + 1, 0, none⟩) from by simp [upd]), (F4.eval 35 (by omega)).trans (show _ = Value.int .i64 ((m : Nat) : Int) from by simp [upd])]; simp [go_sem, Act.eval]) htk ?_
    rintro e6 w6 ⟨⟨ao6, c6, rfl, hf6, hnil6, hsub6⟩, hS6, hW6⟩
    have hx4 : (rstep (some' m) [] bs r5.2).1.length ≤ 4000 := rtake_len m bs r5.2 hm4
    replace HW : Hid _ := HW.out _ rfl
    generalize rstep (some' m) [] bs r5.2 = r6 at *
    clear htk
    have D7 := D6.rw hS6 hW6
    clear D6 hS6 hW6
    refine ⟨_, rfl, fun a5 F5 => ?_⟩
    have hC : w6.cell? ⟨w.heap.size + 2, 4, none⟩ = some (.slice none 0 0) := D7.blk.cell 4
    obtain ⟨ao7, c7, w7, hrun7, hown7, hb7⟩ := app_nil rfl hnil6 hf6 hx4
    have hz6 : w.heap.size + 2 < w6.heap.size := D7.blk.lt
    have hown7' := own_mono hown7 (show w.heap.size + 3 ≤ w6.heap.size from by omega)
    have D8 := D7.up hb7
    refine Z.le F5 rfl hC rfl (by omega) (wanted_none rfl) (v := .slice ao7 r6.1.length c7) (w1 := w7) (by simp only [execOp, resolve, invoke, builtin, Sem.run_bind, Sem.run_pure, Result.andThen_ok, List.map_toArray, List.map_cons, List.map_nil, (F5.eval 33 (by omega)).trans (show _ = Value.slice none 0 0 from by simp [upd]), (F5.eval 36 (by omega)).trans (show _ = Value.slice ao6 r6.1.length c6 from by simp [upd]), hrun7]) fun a6 F6 => ?_
    have hC : w7.cell? ⟨w.heap.size + 2, 4, none⟩ = some (.slice none 0 0) := D8.blk.cell 4
    refine Z.ly F6 rfl hC rfl (by omega) (wanted_none rfl) (v := Value.pointer (some ⟨w.heap.size + 2, 4, none⟩)) (fun wr hwr => by simp only [execOp, (F6.eval 6 (by omega)).trans (show _ = Value.pointer (some ⟨w.heap.size + 2, 0, none⟩) from by simp [upd, f6])]; simp [go_sem]) fun a7 F7 => ?_
    have D9 : DS w ao n cap bs r6.2 #[.int .i64 r1.1, .int .i64 r2.1, .int .i64 r3.1, .int .i64 r4.1, .slice ao7 r6.1.length c7] (w7.setCell ⟨w.heap.size + 2, 4, none⟩ (.slice ao7 r6.1.length c7)) := D8.set hab 4 _
    have z4 := D8.blk.frozen 4
    refine Z.lst rfl hC rfl (wanted_none rfl) (w1 := w7.setCell ⟨w.heap.size + 2, 4, none⟩ (.slice ao7 r6.1.length c7)) (by simp only [execOp, (F7.eval 38 (by omega)).trans (show _ = Value.pointer (some ⟨w.heap.size + 2, 4, none⟩) from by simp [upd]), (F7.eval 37 (by omega)).trans (show _ = Value.slice ao7 r6.1.length c7 from by simp [upd])]; simp [go_sem, hC, z4]) ?_
    have hown9 : (w7.setCell ⟨w.heap.size + 2, 4, none⟩ (.slice ao7 r6.1.length c7)).ownsRow (w.heap.size + 3) 5 1 (.slice ao7 r6.1.length c7) r6.1.length (r6.1.map B) := own_stable hown7' fun k h3 _ => Below.heap_setCell _ _ _ _ (by show k ≠ w.heap.size + 2; omega)
    clear hown7 hown7' D8 D7 hb7 hrun7 z4
    generalize (w7.setCell ⟨w.heap.size + 2, 4, none⟩ (.slice ao7 r6.1.length c7)) = W7 at *
    refine doneD F7 (show _ = Value.pointer (some ⟨w.heap.size, 0, none⟩) from by simp [upd, f2]) (show _ = Value.pointer (some ⟨w.heap.size + 1, 0, none⟩) from by simp [upd, f5]) (show _ = Value.pointer (some ⟨w.heap.size + 2, 0, none⟩) from by simp [upd, f6]) fun f' F' k2 k5 k6 => ?_
    clear hf6 hnil6 hsub6 hC F1 F2 F3 F4 F5 F6
    refine ⟨fun hle => absurd hle (by omega), ?_⟩
    show K _ _
    apply hK
    rw [F'.lit, show ((List.range 50).map f').toArray = #[f' 0, f' 1, f' 2, f' 3, f' 4, f' 5, f' 6, f' 7, f' 8, f' 9, f' 10, f' 11, f' 12, f' 13, f' 14, f' 15, f' 16, f' 17, f' 18, f' 19, f' 20, f' 21, f' 22, f' 23, f' 24, f' 25, f' 26, f' 27, f' 28, f' 29, f' 30, f' 31, f' 32, f' 33, f' 34, f' 35, f' 36, f' 37, f' 38, f' 39, f' 40, f' 41, f' 42, f' 43, f' 44, f' 45, f' 46, f' 47, f' 48, f' 49] from rfl, k2, k5, k6]
    have hdn := rdone_any (w.heap.size + 1) ao n cap r6.2.1 bs r6.2.2 W7 D9.rd.rds
    obtain ⟨HWA, HWB⟩ := HW.out
    rw [hlen] at HWA HWB
    by_cases hwr : r6.2.2 = true ∨ r6.2.1 < n
    · rw [if_pos hwr] at hdn
      replace HWA : Hid _ := HWA hwr
      clear HWB HW
      go_wp2_with fail
      refine hdn.mono ?_
      rintro e8 w8 ⟨rfl, hD8⟩
      have hB0 : Blk w8 w.heap.size zeroS 46 := by unfold Blk; rw [hD8.heap]; exact D9.res
      have hbB : Below w.heap.size w w8 := D9.low.trans (hD8.below.mono D9.low.size)
      have hfin : DecSPost (whole segment bs) w (.returned (.tuple #[.agg zeroS, .int .i64 (r6.2.1 : Nat), .int .i64 20])) (w8.setRow w.heap.size zeroS) := by
        refine ⟨hbB.trans ⟨rfl, rfl, rfl, by simp [World.setRow], fun k hk => setRow_other _ _ _ _ (by omega)⟩, ?_⟩
        rw [HWA.out]
      have hB3 := setRow_blk (cs := zeroS) hB0
      have HF : Hid _ := hfin
      clear hfin hbB
      go_wp2_with (first | (rw [zeroS_is]; refine wpList_store_row rfl 46 (.tmp 2) (.tmp 46) rfl w.heap.size zeroS rfl rfl 46 zeroS hB0 (by kernel_rfl) rfl (by kernel_rfl) ?_) | (refine wpList_store_row rfl 46 (.tmp 2) (.tmp 46) rfl w.heap.size zeroS rfl rfl 46 zeroS hB0 (by kernel_rfl) rfl (by kernel_rfl) ?_) | fail)
      go_wp2
      exact bodyPost_ret (results_cell2 Try.results58 _ _ w.heap.size zeroS rfl (run_loadVar_row _ _ 46 46 zeroS (0, 0) _ hB3 Try.underlying46 rfl (by kernel_rfl))) rfl HF.out
    · rw [if_neg hwr] at hdn
      replace HWB : Hid _ := HWB hwr
      clear HWA HW
      go_wp2_with fail
      refine hdn.mono ?_
      rintro e8 w8 ⟨rfl, hD8⟩
      have hB0 : Blk w8 w.heap.size zeroS 46 := by unfold Blk; rw [hD8.heap]; exact D9.res
      have hM : Blk w8 (w.heap.size + 2) (segCells r1.1 r2.1 r3.1 r4.1 (.slice ao7 r6.1.length c7)) 46 := by unfold Blk; rw [hD8.heap]; exact D9.blk
      have hbB : Below w.heap.size w w8 := D9.low.trans (hD8.below.mono D9.low.size)
      have hV : w8.ownsRow (w.heap.size + 3) 5 1 (.slice ao7 r6.1.length c7) r6.1.length (r6.1.map B) := own_stable hown9 fun k _ _ => by rw [hD8.heap]
      have hall : (segCells r1.1 r2.1 r3.1 r4.1 (.slice ao7 r6.1.length c7)).all (·.oneCell') = true := by simp [segCells, Value.oneCell']
      have hfin : DecSPost (whole segment bs) w (.returned (.tuple #[.agg (segCells r1.1 r2.1 r3.1 r4.1 (.slice ao7 r6.1.length c7)), .int .i64 0, .int .i64 0])) (w8.setRow w.heap.size (segCells r1.1 r2.1 r3.1 r4.1 (.slice ao7 r6.1.length c7))) := by
        refine ⟨hbB.trans ⟨rfl, rfl, rfl, by simp [World.setRow], fun k hk => setRow_other _ _ _ _ (by omega)⟩, ?_⟩
        rw [HWB.out]
        exact ⟨ao7, c7, rfl, own_mono (own_stable hV fun k h3 _ => setRow_other _ _ _ _ (by omega)) (by omega)⟩
      have hB3 := setRow_blk (cs := segCells r1.1 r2.1 r3.1 r4.1 (.slice ao7 r6.1.length c7)) hB0
      have HF : Hid _ := hfin
      have HV : Hid _ := hV
      clear hfin hbB hV
      generalize hD : segCells r1.1 r2.1 r3.1 r4.1 (.slice ao7 r6.1.length c7) = D at *
      have hsz : D.size = 5 := by rw [← hD]; rfl
      have hi46 : (Try.prog.info? 46).map (·.size) = some D.size := by rw [hsz]; kernel_rfl
      clear hD
      go_wp2_with (first | (refine wpList_load_row rfl 46 (.tmp 6) rfl (w.heap.size + 2) rfl 46 D (0, 0) _ hM Try.underlying46 rfl hi46 ?_) | (refine wpList_store_row rfl 46 (.tmp 2) (.tmp 49) rfl w.heap.size D rfl rfl 46 zeroS hB0 hi46 (by rw [hsz]; rfl) hall ?_) | fail)
      go_wp2
      exact bodyPost_ret (results_cell2 Try.results58 _ _ w.heap.size D rfl (run_loadVar_row _ _ 46 46 D (0, 0) _ hB3 Try.underlying46 rfl hi46)) rfl HF.out
end Go.Proofs.Ytfgnlfemckdfnaa
namespace Go.Proofs.Ytfgnlfemckdfnaa
open Go.RowKit Go.PlainAid
set_option linter.unusedSimpArgs false
set_option linter.unusedVariables false
set_option maxRecDepth 100000 in
set_option maxHeartbeats 800000 in
/-- What is lent: a row of its own, with two marks behind. -/
theorem lent_row (ao : Option Addr) (n cap : Nat) (xs : List UInt8) (w : World) (hx : xs.length = n) (hnil : ao = none → n = 0 ∧ cap = 0) (hf : From w ao xs) (hn : n ≤ 140737488351232) :
    Calls Try.prog 11 #[.slice ao n cap] w (fun e w' => ∃ g c, e = .returned (.slice (some ⟨g, 0, none⟩) (n + 2) c) ∧ n + 2 ≤ c ∧ w.heap.size ≤ g ∧ g < w'.heap.size ∧ w'.ownsRow w.heap.size 5 1 (.slice (some ⟨g, 0, none⟩) (n + 2) c) (n + 2) ((xs ++ [165, 90]).map B) ∧ Below w.heap.size w w') := by
  go_enter Try.func11, Try.ntmps11
  go_wp2_with (first
    | (at_builtin; go_must (refine wpList_append_bytes rfl _ _ rfl w.heap.size 0 _ [] rfl (World.ownsRow_nil _ _ _ _) ao n cap xs rfl hx hnil hf (by omega) (Nat.le_refl _) ?_))
    | fail)
  intro v1 w1 hown1 hg1
  have hb1 : Below w.heap.size w w1 := (Below.refl _ _).grown hg1 (Nat.le_refl _) (fun k h => by cases h)
  have hown1 : w1.ownsRow w.heap.size 5 1 v1 n (xs.map B) := by simpa using hown1
  obtain ⟨ao1, cap1, rfl, hc1, _, hs1, hl1⟩ := own_from hown1
  have hm : From (w1.alloc (.cells #[.int .u8 165, .int .u8 90] 5 (0, 0))) (some ⟨w1.heap.size, 0, none⟩) [165, 90] := from_mark w1 [165, 90] _ _ rfl
  have hsz := hb1.size
  clear hg1
  go_wp2_with (first
    | (at_builtin; go_must (refine wpList_append_bytes rfl _ _ rfl w.heap.size n _ xs rfl (hown1.alloc _) _ 2 2 [165, 90] rfl rfl (by intro h; cases h) hm (by omega) (by simp; omega) ?_))
    | fail)
  intro v2 w2 hown2 hg2
  have hown2 : w2.ownsRow w.heap.size 5 1 v2 (n + 2) ((xs ++ [165, 90]).map B) := by simpa using hown2
  have hb2 : Below w.heap.size w w2 := (hb1.alloc hsz _).grown hg2 (by simp; omega) (fun k e => (hown1.lt k e).1)
  obtain ⟨ao2, cap2, rfl, hc2, hn2, hs2, _⟩ := own_from hown2
  cases ao2 with
  | none => have := (hn2 rfl).1; omega
  | some ad =>
    obtain ⟨g, hg⟩ : ∃ g, ad = ⟨g, 0, none⟩ := by
      rcases hown2.2 with ⟨h1, h2⟩ | ⟨g, cap, cur, h1, _⟩
      · omega
      · simp only [Value.slice.injEq, Option.some.injEq] at h1
        exact ⟨g, h1.1⟩
    subst hg
    have hlt := hown2.lt g rfl
    have HO : Hid _ := hown2
    clear hown2 hs2
    go_wp2
    go_ret
    exact ⟨g, cap2, rfl, hc2, hlt.1, hlt.2, HO.out, hb2⟩
set_option maxRecDepth 100000 in
set_option maxHeartbeats 3200000 in
/-- A row that was lent and is as it was: it is written over. -/
theorem back_any (g n c base : Nat) (bo : Option Addr) (cb : Nat) (xs : List UInt8) (w : World) (hx : xs.length = n) (hn : n ≤ 140737488351232) (hown : w.ownsRow base 5 1 (.slice (some ⟨g, 0, none⟩) (n + 2) c) (n + 2) ((xs ++ [165, 90]).map B)) (hfy : From w bo xs) :
    Calls Try.prog 57 #[.slice (some ⟨g, 0, none⟩) (n + 2) c, .slice bo n cb] w fun e w' => e = .returned (.bool true) ∧ RW g w w' := by
  obtain ⟨ao2, cap2, e2, hc2, _, hs2, hl2⟩ := own_from hown
  cases e2
  obtain ⟨b3, o3, e3, h4⟩ := hs2 (by simp)
  cases e3
  have hc5 : w.cell? ⟨g, n, none⟩ = some (.int .u8 165) := by
    have := h4 n 165 (by rw [List.getElem?_append_right (by omega), hx]; simp)
    simpa [B] using this
  have hc6 : w.cell? ⟨g, n + 1, none⟩ = some (.int .u8 90) := by
    have := h4 (n + 1) 90 (by rw [List.getElem?_append_right (by omega), hx]; simp)
    simpa [B] using this
  have hfx : From w (some ⟨g, 0, none⟩) xs := fun h0 => ⟨g, 0, rfl, fun j u hu => h4 j u (by rw [List.getElem?_append_left (List.getElem?_eq_some_iff.1 hu).1]; exact hu)⟩
  obtain ⟨cur, hB, hcs⟩ : ∃ cur, Blk w g cur 5 ∧ cur.size = c := by
    rcases hown.2 with ⟨h1, _⟩ | ⟨g', c', cur, h1, _, hblk, _, _, hcs, htk⟩
    · cases h1
    · cases h1
      exact ⟨cur, hblk, by omega⟩
  have hal := alike_any (some ⟨g, 0, none⟩) bo n n c cb xs xs w hx hx hfx hfy
  simp only [decide_true] at hal
  clear hown hs2 hl2 h4 hfx hfy
  have HB : Hid _ := hB
  have HX : Hid _ := hx
  clear hB hx
  go_enter Try.func57, Try.ntmps57
  go_wp2_with (first | (go_at_call 15; refine hal.mono ?_; rintro e15 w15 ⟨rfl, rfl⟩) | fail)
  clear hc5 hc6 hal
  go_loopw [7] (fun iv wr => ∃ (k : Nat) (cur' : Array Value), k ≤ n + 2 ∧ iv = .int .i64 (k : Nat) ∧ Blk wr g cur' 5 ∧ cur'.size = c ∧ RW g w15 wr) (fun iv _ => n + 2 - (intOf iv).toNat)
  case atStart => exact ⟨0, cur, by omega, rfl, HB.out, hcs, RW.refl _ _⟩
  case round =>
    obtain ⟨k, cur', hk, rfl, hB', hcs', hW⟩ := hrel
    clear hcs
    by_cases hlt : k < n + 2
    · have hc : wr.cell? ⟨g, k, none⟩ = some (cur'[k]'(by omega)) := (hB'.cell k).trans (Array.getElem?_eq_getElem (by omega))
      have hz := hB'.frozen k
      have hnew : Blk (wr.setCell ⟨g, k, none⟩ (.int .u8 85)) g (cur'.setIfInBounds k (.int .u8 85)) 5 := Blk.set hB' k _
      have hWn : RW g w15 (wr.setCell ⟨g, k, none⟩ (.int .u8 85)) := hW.set k _
      have HN : Hid _ := hnew
      have HWN : Hid _ := hWn
      generalize cur'[k]'(by omega) = u at hc
      have HC : Hid _ := hcs'
      clear hnew hWn hB' hW hcs'
      go_wp2
      go_roundw
      case rel => exact ⟨k + 1, _, by omega, by go_num, HN.out, by rw [Array.size_setIfInBounds]; exact HC.out, HWN.out⟩
      case measure => simp [intOf]; omega
    · clear hB' hcs'
      go_wp2
      go_ret
      exact ⟨rfl, hW⟩
end Go.Proofs.Ytfgnlfemckdfnaa
namespace Go.Proofs.Ytfgnlfemckdfnaa
open Go.RowKit Go.PlainAid
set_option linter.unusedSimpArgs false
set_option linter.unusedVariables false
/-- What an encoder answered, as one tuple. -/
theorem enc_view {r : Option (List UInt8)} {w : World} {e : Ending} {w' : World} (h : EncPost r w e w') : ∃ ao' c', e = .returned (.tuple #[.slice ao' (r.getD []).length c', .int .i64 (if r.isSome then 0 else 21)]) ∧ From w' ao' (r.getD []) ∧ (∀ b o, ao' = some ⟨b, o, none⟩ → w.heap.size ≤ b ∧ b < w'.heap.size) ∧ Below w.heap.size w w' := by
  obtain ⟨hb, h⟩ := h
  cases r with
  | none => exact ⟨none, 0, h, fun h => absurd h (by simp), fun b o e => (by cases e), hb⟩
  | some bs =>
    obtain ⟨v, rfl, hv⟩ := h
    obtain ⟨ao, c, rfl, _, _, hf, _⟩ := own_from hv
    exact ⟨ao, c, rfl, hf, fun b o e => by subst e; exact hv.lt b rfl, hb⟩
def segOf (r : Res Seg) : Seg := match r with
  | .error _ => ⟨0, 0, 0, 0, []⟩
  | .ok (m, _) => m
def posOf (r : Res Seg) : Int := match r with
  | .error k => (k : Nat)
  | .ok _ => 0
def codeOf (r : Res Seg) : Int := match r with
  | .error _ => 20
  | .ok _ => 0
/-- What a decoder answered, as one tuple. -/
theorem dec_view {r : Res Seg} {w : World} {e : Ending} {w' : World} (h : DecSPost r w e w') : ∃ ao' c', e = .returned (.tuple #[.agg (segCells (segOf r).src (segOf r).dst (segOf r).seq (segOf r).ack (.slice ao' (segOf r).data.length c')), .int .i64 (posOf r), .int .i64 (codeOf r)]) ∧ From w' ao' (segOf r).data ∧ (∀ b o, ao' = some ⟨b, o, none⟩ → w.heap.size ≤ b ∧ b < w'.heap.size) ∧ Below w.heap.size w w' := by
  obtain ⟨hb, h⟩ := h
  cases r with
  | error k => exact ⟨none, 0, h, fun h => absurd h (by simp [segOf]), fun b o e => (by cases e), hb⟩
  | ok v =>
    obtain ⟨m, k⟩ := v
    obtain ⟨ao, c, rfl, hv⟩ := h
    obtain ⟨ao2, c2, e2, _, _, hf, _⟩ := own_from hv
    cases e2
    exact ⟨ao, c, rfl, hf, fun b o e => by subst e; exact hv.lt b rfl, hb⟩
theorem From.rw {w w' : World} {g : Nat} {ao : Option Addr} {xs : List UInt8} (h : From w ao xs) (hw : RW g w w') (hne : ∀ b o, ao = some ⟨b, o, none⟩ → b ≠ g) : From w' ao xs := h.keep fun b o e => hw.block b (hne b o e)
theorem Below.rw {base g : Nat} {w W W' : World} (h : Below base w W) (hw : RW g W W') (hg : base ≤ g) : Below base w W' := h.trans ⟨hw.os, hw.tape, hw.output, by rw [hw.size]; exact Nat.le_refl _, fun k hk => hw.block k (by omega)⟩
set_option maxRecDepth 100000 in
set_option maxHeartbeats 6400000 in
theorem segments_any (s : Seg) (ao : Option Addr) (cc : Nat) (bo : Option Addr) (n cap : Nat) (bs : List UInt8) (w : World)
    (hnil : ao = none → s.data.length = 0 ∧ cc = 0) (hf : From w ao s.data) (hsb : ∀ b o, ao = some ⟨b, o, none⟩ → b < w.heap.size) (hsl : s.data.length ≤ 140737488351232)
    (hlen : bs.length = n) (hsrc : From w bo bs) (hab : ∀ b o, bo = some ⟨b, o, none⟩ → b < w.heap.size) (hsm : n ≤ 140737488351232) (hrm : n ≤ cap) (hbnil : bo = none → n = 0 ∧ cap = 0) (hform : bo = none ∨ ∃ b off, bo = some ⟨b, off, none⟩) :
    Calls Try.prog 26 #[.agg (segCells s.src s.dst s.seq s.ack (.slice ao s.data.length cc)), .slice bo n cap] w fun e w' => e = .returned (.bool true) ∧ Below w.heap.size w w' := by
  have hb1 : Below w.heap.size w ((w.alloc (.cells (segCells s.src s.dst s.seq s.ack (.slice ao s.data.length cc)) 46)).alloc (.cells (segCells s.src s.dst s.seq s.ack (.slice ao s.data.length cc)) 46)) := by go_grown
  have hsz1 : ((w.alloc (.cells (segCells s.src s.dst s.seq s.ack (.slice ao s.data.length cc)) 46)).alloc (.cells (segCells s.src s.dst s.seq s.ack (.slice ao s.data.length cc)) 46)).heap.size = w.heap.size + 2 := by simp
  have hA : Blk ((w.alloc (.cells (segCells s.src s.dst s.seq s.ack (.slice ao s.data.length cc)) 46)).alloc (.cells (segCells s.src s.dst s.seq s.ack (.slice ao s.data.length cc)) 46)) w.heap.size (segCells s.src s.dst s.seq s.ack (.slice ao s.data.length cc)) 46 := (Below.heap_alloc _ _ _ (by simp)).trans (heap_alloc_new w _)
  have hB : Blk ((w.alloc (.cells (segCells s.src s.dst s.seq s.ack (.slice ao s.data.length cc)) 46)).alloc (.cells (segCells s.src s.dst s.seq s.ack (.slice ao s.data.length cc)) 46)) (w.heap.size + 1) (segCells s.src s.dst s.seq s.ack (.slice ao s.data.length cc)) 46 := by
    have := heap_alloc_new (w.alloc (.cells (segCells s.src s.dst s.seq s.ack (.slice ao s.data.length cc)) 46)) (.cells (segCells s.src s.dst s.seq s.ack (.slice ao s.data.length cc)) 46)
    rw [World.size_alloc] at this
    exact this
  have hA0 : Blk (w.alloc (.cells (segCells s.src s.dst s.seq s.ack (.slice ao s.data.length cc)) 46)) w.heap.size (segCells s.src s.dst s.seq s.ack (.slice ao s.data.length cc)) 46 := heap_alloc_new w _
  have ca : ((w.alloc (.cells (segCells s.src s.dst s.seq s.ack (.slice ao s.data.length cc)) 46)).alloc (.cells (segCells s.src s.dst s.seq s.ack (.slice ao s.data.length cc)) 46)).cell? ⟨w.heap.size, 4, none⟩ = some (.slice ao s.data.length cc) := hA.cell 4
  have HA : Hid _ := hA
  have HB : Hid _ := hB
  have HB1 : Hid _ := hb1
  clear hA hB hb1
  unfold segCells at *
  go_enter Try.func26, Try.ntmps26
  go_wp2_with fail
  have hf1 : From ((w.alloc (.cells #[.int .i64 s.src, .int .i64 s.dst, .int .i64 s.seq, .int .i64 s.ack, .slice ao s.data.length cc] 46)).alloc (.cells #[.int .i64 s.src, .int .i64 s.dst, .int .i64 s.seq, .int .i64 s.ack, .slice ao s.data.length cc] 46)) ao s.data := hf.keep fun b o e => HB1.out.block b (hsb b o e)
  have hr1 : From ((w.alloc (.cells #[.int .i64 s.src, .int .i64 s.dst, .int .i64 s.seq, .int .i64 s.ack, .slice ao s.data.length cc] 46)).alloc (.cells #[.int .i64 s.src, .int .i64 s.dst, .int .i64 s.seq, .int .i64 s.ack, .slice ao s.data.length cc] 46)) bo bs := hsrc.keep fun b o e => HB1.out.block b (hab b o e)
  clear hA0 ca hf hsrc
  generalize ((w.alloc (.cells #[.int .i64 s.src, .int .i64 s.dst, .int .i64 s.seq, .int .i64 s.ack, .slice ao s.data.length cc] 46)).alloc (.cells #[.int .i64 s.src, .int .i64 s.dst, .int .i64 s.seq, .int .i64 s.ack, .slice ao s.data.length cc] 46)) = W1 at *
  refine (lent_row ao s.data.length cc s.data W1 rfl hnil hf1 (by omega)).mono ?_
  rintro e2 w2 ⟨g1, c1, rfl, hc1, hg1, hg1', hO1, hb2⟩
  have hA2 : Blk w2 w.heap.size #[.int .i64 s.src, .int .i64 s.dst, .int .i64 s.seq, .int .i64 s.ack, .slice ao s.data.length cc] 46 := (hb2.block _ (by omega)).trans HA.out
  have hB2 : Blk w2 (w.heap.size + 1) #[.int .i64 s.src, .int .i64 s.dst, .int .i64 s.seq, .int .i64 s.ack, .slice ao s.data.length cc] 46 := (hb2.block _ (by omega)).trans HB.out
  have ca2 : w2.cell? ⟨w.heap.size, 4, none⟩ = some (.slice ao s.data.length cc) := hA2.cell 4
  have cb2 : w2.cell? ⟨w.heap.size + 1, 4, none⟩ = some (.slice ao s.data.length cc) := hB2.cell 4
  have zb2 := hB2.frozen 4
  have hst : Below w.heap.size w2 (w2.setCell ⟨w.heap.size + 1, 4, none⟩ (.slice (some ⟨g1, 0, none⟩) s.data.length c1)) := ⟨rfl, rfl, rfl, by simp [World.setCell], fun k hk => Below.heap_setCell _ _ _ _ (by show k ≠ w.heap.size + 1; omega)⟩
  have hA3 : Blk (w2.setCell ⟨w.heap.size + 1, 4, none⟩ (.slice (some ⟨g1, 0, none⟩) s.data.length c1)) w.heap.size #[.int .i64 s.src, .int .i64 s.dst, .int .i64 s.seq, .int .i64 s.ack, .slice ao s.data.length cc] 46 := (Below.heap_setCell _ _ _ _ (by show w.heap.size ≠ w.heap.size + 1; omega)).trans hA2
  have hB3 : Blk (w2.setCell ⟨w.heap.size + 1, 4, none⟩ (.slice (some ⟨g1, 0, none⟩) s.data.length c1)) (w.heap.size + 1) #[.int .i64 s.src, .int .i64 s.dst, .int .i64 s.seq, .int .i64 s.ack, .slice (some ⟨g1, 0, none⟩) s.data.length c1] 46 := Blk.set hB2 4 _
  have hO3 : (w2.setCell ⟨w.heap.size + 1, 4, none⟩ (.slice (some ⟨g1, 0, none⟩) s.data.length c1)).ownsRow (w.heap.size + 2) 5 1 (.slice (some ⟨g1, 0, none⟩) (s.data.length + 2) c1) (s.data.length + 2) ((s.data ++ [165, 90]).map B) := own_stable (own_mono hO1 (by omega)) fun k h3 _ => Below.heap_setCell _ _ _ _ (by show k ≠ w.heap.size + 1; omega)
  have hL3 : Below w.heap.size w (w2.setCell ⟨w.heap.size + 1, 4, none⟩ (.slice (some ⟨g1, 0, none⟩) s.data.length c1)) := (HB1.out.trans (hb2.mono (by omega))).trans hst
  have hf3 := (From.below hf1 hb2).keep (w' := w2.setCell ⟨w.heap.size + 1, 4, none⟩ (.slice (some ⟨g1, 0, none⟩) s.data.length c1)) fun b o e => hst.block b (hsb b o e)
  have hr3 := (From.below hr1 hb2).keep (w' := w2.setCell ⟨w.heap.size + 1, 4, none⟩ (.slice (some ⟨g1, 0, none⟩) s.data.length c1)) fun b o e => hst.block b (hab b o e)
  have hsz3 : (w2.setCell ⟨w.heap.size + 1, 4, none⟩ (.slice (some ⟨g1, 0, none⟩) s.data.length c1)).heap.size = w2.heap.size := by simp [World.setCell]
  have hfl3 : From (w2.setCell ⟨w.heap.size + 1, 4, none⟩ (.slice (some ⟨g1, 0, none⟩) s.data.length c1)) (some ⟨g1, 0, none⟩) s.data := by
    obtain ⟨ao2, cap2, e2, _, _, hs2, _⟩ := own_from hO3
    cases e2
    obtain ⟨b3, o3, e3, h4⟩ := hs2 (by simp)
    exact fun h0 => ⟨b3, o3, e3, fun j u hu => h4 j u (by rw [List.getElem?_append_left (List.getElem?_eq_some_iff.1 hu).1]; exact hu)⟩
  have HX : Hid _ := And.intro hA3 (And.intro hO3 (And.intro hL3 (And.intro hf3 (And.intro hr3 (And.intro hsz3 hfl3)))))
  clear hA3 hO3 hL3 hf3 hr3 hsz3 hfl3 hst hA2 hB2 hO1 hb2 hf1 hr1 HA HB HB1
  go_wp2_with (first | (refine wpList_load_row rfl 46 (.tmp 5) rfl (w.heap.size + 1) rfl 46 #[.int .i64 s.src, .int .i64 s.dst, .int .i64 s.seq, .int .i64 s.ack, .slice (some ⟨g1, 0, none⟩) s.data.length c1] (0, 0) _ hB3 Try.underlying46 rfl (by kernel_rfl) ?_) | fail)
  obtain ⟨hA3, hO3, hL3, hf3, hr3, hsz3, hfl3⟩ := HX.out
  clear hB3 ca2 cb2 zb2 HX
  generalize (w2.setCell ⟨w.heap.size + 1, 4, none⟩ (.slice (some ⟨g1, 0, none⟩) s.data.length c1)) = W3 at *
  have hen := encodeSegB_any s (some ⟨g1, 0, none⟩) c1 W3 (by intro h; cases h) hfl3 (by intro b o e; cases e; omega) hsl
  unfold segCells at hen
  refine hen.mono ?_
  intro e4 w4 h4
  obtain ⟨ao4, c4, rfl, hf4, hbl4, hb4⟩ := enc_view h4
  have hA4 : Blk w4 w.heap.size #[.int .i64 s.src, .int .i64 s.dst, .int .i64 s.seq, .int .i64 s.ack, .slice ao s.data.length cc] 46 := (hb4.block _ hA3.lt).trans hA3
  have hO4 := own_stable hO3 (w' := w4) fun k _ hk => hb4.block k hk
  have hL4 := hL3.trans (hb4.mono hL3.size)
  have hfa4 := From.below hf3 hb4
  have hr4 := From.below hr3 hb4
  have hz4 := hb4.size
  clear hen h4 hb4 hA3 hO3 hL3 hf3 hr3 hfl3
  have hrn := rencSeg_any s ao cc w4 hnil hfa4 (fun b o e => by have := hsb b o e; have := hL4.size; omega)
  unfold segCells at hrn
  generalize hout : (segment.wr s).getD [] = out at *
  generalize hcode : (if (segment.wr s).isSome then (0 : Int) else 21) = code at *
  have HOC : Hid _ := And.intro hout hcode
  have HX : Hid _ := And.intro hO4 (And.intro hL4 (And.intro hfa4 (And.intro hr4 (And.intro hf4 hbl4))))
  clear hout hcode hO4 hL4 hfa4 hr4 hf4 hbl4
  go_wp2_with (first | (refine wpList_load_row rfl 46 (.tmp 2) rfl w.heap.size rfl 46 #[.int .i64 s.src, .int .i64 s.dst, .int .i64 s.seq, .int .i64 s.ack, .slice ao s.data.length cc] (0, 0) _ hA4 Try.underlying46 rfl (by kernel_rfl) ?_) | fail)
  refine hrn.mono ?_
  intro e5 w5 h5
  obtain ⟨ao5, c5, rfl, hf5, hbl5, hb5⟩ := enc_view h5
  rw [HOC.out.1, HOC.out.2] at *
  obtain ⟨hO4, hL4, hfa4, hr4, hf4, hbl4⟩ := HX.out
  have hA5 : Blk w5 w.heap.size #[.int .i64 s.src, .int .i64 s.dst, .int .i64 s.seq, .int .i64 s.ack, .slice ao s.data.length cc] 46 := (hb5.block _ hA4.lt).trans hA4
  have ca5 : w5.cell? ⟨w.heap.size, 4, none⟩ = some (.slice ao s.data.length cc) := hA5.cell 4
  have hO5 := own_stable hO4 (w' := w5) fun k _ hk => hb5.block k hk
  have hL5 := hL4.trans (hb5.mono hL4.size)
  have hfa5 := From.below hfa4 hb5
  have hr5 := From.below hr4 hb5
  have hf45 := From.below hf4 hb5
  have hz5 := hb5.size
  have hbk := back_any g1 s.data.length c1 (w.heap.size + 2) ao cc s.data w5 rfl (by omega) hO5 hfa5
  have HX : Hid _ := And.intro hL5 (And.intro hr5 (And.intro hf45 (And.intro hbl4 (And.intro hf5 hbl5))))
  clear hrn h5 hb5 hA4 hO4 hL4 hfa4 hr4 hf4 hbl4 hO5 hL5 hfa5 hr5 hf45 hf5 hbl5 hA5 HOC
  go_wp2_with fail
  refine hbk.mono ?_
  rintro e6 w6 ⟨rfl, hW6⟩
  obtain ⟨hL5, hr5, hf45, hbl4, hf5, hbl5⟩ := HX.out
  have hL6 := Below.rw hL5 hW6 (by omega)
  have hr6 := From.rw hr5 hW6 (fun b o e => by have := hab b o e; omega)
  have hf46 := From.rw hf45 hW6 (fun b o e => by have := hbl4 b o e; omega)
  have hf56 := From.rw hf5 hW6 (fun b o e => by have := hbl5 b o e; omega)
  have hz6 := hW6.size
  have hal := alike_any ao4 ao5 out.length out.length c4 c5 out out w6 rfl rfl hf46 hf56
  simp only [decide_true] at hal
  have HX : Hid _ := And.intro hL6 hr6
  clear hL5 hr5 hf45 hbl4 hf5 hbl5 hL6 hr6 hf46 hf56 hbk ca5 hW6
  go_wp2_with (first | (go_at_call 15; refine hal.mono ?_; rintro e15 w15 ⟨rfl, rfl⟩) | fail)
  obtain ⟨hL6, hr6⟩ := HX.out
  refine (lent_row bo n cap bs _ hlen hbnil hr6 (by omega)).mono ?_
  rintro e7 w7 ⟨g2, c2, rfl, hc2, hg2, hg2', hO7, hb7⟩
  have hL7 := hL6.trans (hb7.mono hL6.size)
  have hr7 := From.below hr6 hb7
  have hfl7 : From w7 (some ⟨g2, 0, none⟩) bs := by
    obtain ⟨ao2, cap2, e2, _, _, hs2, _⟩ := own_from hO7
    cases e2
    obtain ⟨b3, o3, e3, h4⟩ := hs2 (by simp)
    exact fun h0 => ⟨b3, o3, e3, fun j u hu => h4 j u (by rw [List.getElem?_append_left (List.getElem?_eq_some_iff.1 hu).1]; exact hu)⟩
  have hde := decodeSeg_any g2 0 n c2 bs w7 hlen hfl7 hg2' (by omega) (by omega)
  have hO7 := own_mono hO7 (show w.heap.size ≤ _ from hL6.size)
  have HX : Hid _ := And.intro hL7 (And.intro hr7 hO7)
  clear hL6 hr6 hb7 hL7 hr7 hfl7 hO7 hal
  go_wp2_with fail
  refine hde.mono ?_
  intro e8 w8 h8
  obtain ⟨ao8, c8, rfl, hf8, hbl8, hb8⟩ := dec_view h8
  obtain ⟨hL7, hr7, hO7⟩ := HX.out
  have hL8 := hL7.trans (hb8.mono hL7.size)
  have hr8 := From.below hr7 hb8
  have hO8 := own_stable hO7 (w' := w8) fun k _ hk => hb8.block k hk
  have hz8 := hb8.size
  clear hde h8 HX hL7 hr7 hO7 hb8
  generalize hm : segOf (whole segment bs) = m at *
  generalize hpos : posOf (whole segment bs) = pos at *
  generalize hcod : codeOf (whole segment bs) = cod at *
  have HM : Hid _ := And.intro hm (And.intro hpos hcod)
  clear hm hpos hcod
  unfold segCells
  have hg8 : Below w8.heap.size w8 (w8.alloc (.cells #[.int .i64 m.src, .int .i64 m.dst, .int .i64 m.seq, .int .i64 m.ack, .slice ao8 m.data.length c8] 46)) := by go_grown
  have hB8 : Blk (w8.alloc (.cells #[.int .i64 m.src, .int .i64 m.dst, .int .i64 m.seq, .int .i64 m.ack, .slice ao8 m.data.length c8] 46)) w8.heap.size #[.int .i64 m.src, .int .i64 m.dst, .int .i64 m.seq, .int .i64 m.ack, .slice ao8 m.data.length c8] 46 := heap_alloc_new w8 _
  have hr8' := From.below hr8 hg8
  have hf8' := From.below hf8 hg8
  have hL8' := hL8.trans (hg8.mono hL8.size)
  have hO8' := own_stable hO8 (w' := (w8.alloc (.cells #[.int .i64 m.src, .int .i64 m.dst, .int .i64 m.seq, .int .i64 m.ack, .slice ao8 m.data.length c8] 46))) fun k _ hk => hg8.block k hk
  have hz8' : (w8.alloc (.cells #[.int .i64 m.src, .int .i64 m.dst, .int .i64 m.seq, .int .i64 m.ack, .slice ao8 m.data.length c8] 46)).heap.size = w8.heap.size + 1 := by simp
  have hre := rdecSeg_any bo n cap bs (w8.alloc (.cells #[.int .i64 m.src, .int .i64 m.dst, .int .i64 m.seq, .int .i64 m.ack, .slice ao8 m.data.length c8] 46)) hlen hr8' (fun b o e => by have := hab b o e; have := hL8'.size; omega) (by omega) hrm hbnil hform
  have HX : Hid _ := And.intro hL8' (And.intro hr8' (And.intro hO8' (And.intro hf8' (And.intro hbl8 (And.intro hB8 hz8')))))
  have HS : Hid _ := hL8.size
  clear hL8' hr8' hO8' hf8' hbl8 hB8 hz8' hg8 hr8 hf8 hL8 hO8
  go_wp2_with fail
  refine hre.mono ?_
  obtain ⟨hL8, hr8, hO8, hf8, hbl8, hB8, hz8'⟩ := HX.out
  generalize (w8.alloc (.cells #[.int .i64 m.src, .int .i64 m.dst, .int .i64 m.seq, .int .i64 m.ack, .slice ao8 m.data.length c8] 46)) = W8 at *
  intro e9 w9 h9
  obtain ⟨ao9, c9, rfl, hf9, hbl9, hb9⟩ := dec_view h9
  rw [HM.out.1, HM.out.2.1, HM.out.2.2] at *
  unfold segCells
  have hg9 : Below w9.heap.size w9 (w9.alloc (.cells #[.int .i64 m.src, .int .i64 m.dst, .int .i64 m.seq, .int .i64 m.ack, .slice ao9 m.data.length c9] 46)) := by go_grown
  have hB9 : Blk (w9.alloc (.cells #[.int .i64 m.src, .int .i64 m.dst, .int .i64 m.seq, .int .i64 m.ack, .slice ao9 m.data.length c9] 46)) w9.heap.size #[.int .i64 m.src, .int .i64 m.dst, .int .i64 m.seq, .int .i64 m.ack, .slice ao9 m.data.length c9] 46 := heap_alloc_new w9 _
  have hz9 := hb9.size
  have hb9' : Below W8.heap.size W8 (w9.alloc (.cells #[.int .i64 m.src, .int .i64 m.dst, .int .i64 m.seq, .int .i64 m.ack, .slice ao9 m.data.length c9] 46)) := hb9.trans (hg9.mono hb9.size)
  have hL9 := hL8.trans (hb9'.mono hL8.size)
  have hr9 := From.below hr8 hb9'
  have hf89 := From.below hf8 hb9'
  have hf99 := From.below hf9 hg9
  have hO9 := own_stable hO8 (w' := (w9.alloc (.cells #[.int .i64 m.src, .int .i64 m.dst, .int .i64 m.seq, .int .i64 m.ack, .slice ao9 m.data.length c9] 46))) fun k _ hk => hb9'.block k hk
  have hB89 : Blk (w9.alloc (.cells #[.int .i64 m.src, .int .i64 m.dst, .int .i64 m.seq, .int .i64 m.ack, .slice ao9 m.data.length c9] 46)) w8.heap.size #[.int .i64 m.src, .int .i64 m.dst, .int .i64 m.seq, .int .i64 m.ack, .slice ao8 m.data.length c8] 46 := (hb9'.block _ hB8.lt).trans hB8
  have hz9' : (w9.alloc (.cells #[.int .i64 m.src, .int .i64 m.dst, .int .i64 m.seq, .int .i64 m.ack, .slice ao9 m.data.length c9] 46)).heap.size = w9.heap.size + 1 := by simp
  have hbk := back_any g2 n c2 w.heap.size bo cap bs (w9.alloc (.cells #[.int .i64 m.src, .int .i64 m.dst, .int .i64 m.seq, .int .i64 m.ack, .slice ao9 m.data.length c9] 46)) hlen (by omega) hO9 hr9
  have HX2 : Hid _ := And.intro hL9 (And.intro hf89 (And.intro hf99 (And.intro hbl8 (And.intro hbl9 (And.intro hB89 (And.intro hB9 hz9'))))))
  clear hL9 hr9 hf89 hf99 hbl8 hbl9 hB89 hB9 hz9' hO9 hg9 hb9 hb9' hL8 hr8 hO8 hf8 hB8 h9 hre HX hf9
  go_wp2_with fail
  refine hbk.mono ?_
  obtain ⟨hL9, hf89, hf99, hbl8, hbl9, hB89, hB9, hz9'⟩ := HX2.out
  generalize (w9.alloc (.cells #[.int .i64 m.src, .int .i64 m.dst, .int .i64 m.seq, .int .i64 m.ack, .slice ao9 m.data.length c9] 46)) = W9 at *
  rintro e10 w10 ⟨rfl, hW10⟩
  have hg2l : w.heap.size ≤ g2 := by omega
  have hL10 := Below.rw hL9 hW10 hg2l
  have hf810 := From.rw hf89 hW10 (fun b o e => by have := hbl8 b o e; omega)
  have hf910 := From.rw hf99 hW10 (fun b o e => by have := hbl9 b o e; omega)
  have hB810 : Blk w10 w8.heap.size #[.int .i64 m.src, .int .i64 m.dst, .int .i64 m.seq, .int .i64 m.ack, .slice ao8 m.data.length c8] 46 := (hW10.block _ (by omega)).trans hB89
  have hB910 : Blk w10 w9.heap.size #[.int .i64 m.src, .int .i64 m.dst, .int .i64 m.seq, .int .i64 m.ack, .slice ao9 m.data.length c9] 46 := (hW10.block _ (by omega)).trans hB9
  have hz10 := hW10.size
  have hsame := sameSeg_any m m ao8 ao9 c8 c9 w10 hf810 hf910 (fun b o e => by have := hbl8 b o e; omega) (fun b o e => by have := hbl9 b o e; omega)
  rw [(segB_iff m m).2 rfl] at hsame
  unfold segCells at hsame
  have HL : Hid _ := hL10
  clear hL10 hL9 hf89 hf99 hbl8 hbl9 hB89 hB9 hf810 hf910 hbk HX2 hW10
  go_wp2_with (first | (refine load_row_g 46 (.tmp 12) rfl (by rfl) w8.heap.size rfl 46 #[.int .i64 m.src, .int .i64 m.dst, .int .i64 m.seq, .int .i64 m.ack, .slice ao8 m.data.length c8] (0, 0) _ hB810 Try.underlying46 (by kernel_rfl) ?_) | (refine load_row_g 46 (.tmp 15) rfl (by rfl) w9.heap.size rfl 46 #[.int .i64 m.src, .int .i64 m.dst, .int .i64 m.seq, .int .i64 m.ack, .slice ao9 m.data.length c9] (0, 0) _ hB910 Try.underlying46 (by kernel_rfl) ?_) | (go_at_call 17; refine hsame.mono ?_; rintro e17 w17 ⟨rfl, hb17⟩) | fail)
  go_ret
  exact ⟨rfl, HL.out.trans (hb17.mono HL.out.size)⟩
end Go.Proofs.Ytfgnlfemckdfnaa
namespace Go.Proofs.Ytfgnlfemckdfnaa
open Go.RowKit Go.PlainAid
set_option linter.unusedSimpArgs false
set_option linter.unusedVariables false
set_option maxRecDepth 100000 in
set_option maxHeartbeats 1600000 in
theorem seg_law (s : Seg) (ao : Option Addr) (cc : Nat) (bo : Option Addr) (n cap : Nat) (bs : List UInt8) (w : World)
    (hnil : ao = none → s.data.length = 0 ∧ cc = 0) (hf : From w ao s.data) (hsb : ∀ b o, ao = some ⟨b, o, none⟩ → b < w.heap.size) (hsl : s.data.length ≤ 140737488351232)
    (hlen : bs.length = n) (hsrc : From w bo bs) (hab : ∀ b o, bo = some ⟨b, o, none⟩ → b < w.heap.size) (hsm : n ≤ 140737488351232) (hrm : n ≤ cap) (hbnil : bo = none → n = 0 ∧ cap = 0) (hform : bo = none ∨ ∃ b off, bo = some ⟨b, off, none⟩) :
    Calls Try.prog 5 #[.agg (segCells s.src s.dst s.seq s.ack (.slice ao s.data.length cc)), .slice bo n cap] w fun e w' => e = .returned (.bool true) ∧ Below w.heap.size w w' := by
  have hb0 : Below w.heap.size w (w.alloc (.cells (segCells s.src s.dst s.seq s.ack (.slice ao s.data.length cc)) 46)) := by go_grown
  have hA0 : Blk (w.alloc (.cells (segCells s.src s.dst s.seq s.ack (.slice ao s.data.length cc)) 46)) w.heap.size (segCells s.src s.dst s.seq s.ack (.slice ao s.data.length cc)) 46 := heap_alloc_new w _
  have hab1 := able_any (w.alloc (.cells (segCells s.src s.dst s.seq s.ack (.slice ao s.data.length cc)) 46))
  have HSEG : Hid _ := segments_any s ao cc bo n cap bs
  generalize hD : segCells s.src s.dst s.seq s.ack (.slice ao s.data.length cc) = D at *
  have hsz : D.size = 5 := by rw [← hD]; rfl
  have hi46 : (Try.prog.info? 46).map (·.size) = some D.size := by rw [hsz]; kernel_rfl
  clear hD
  have HX : Hid _ := And.intro hf (And.intro hsrc (And.intro hb0 hA0))
  clear hf hsrc hb0 hA0
  go_enter Try.func5, Try.ntmps5
  go_wp2_with fail
  refine hab1.mono ?_
  rintro e9 w9 ⟨rfl, hb9⟩
  obtain ⟨hf, hsrc, hb0, hA0⟩ := HX.out
  have hb1 : Below w.heap.size w w9 := hb0.trans (hb9.mono hb0.size)
  have hA1 : Blk w9 w.heap.size D 46 := (hb9.block _ hA0.lt).trans hA0
  have hseg := HSEG.out w9 hnil (From.below hf hb1) (fun b o e => by have := hsb b o e; have := hb1.size; omega) hsl hlen (From.below hsrc hb1) (fun b o e => by have := hab b o e; have := hb1.size; omega) hsm hrm hbnil hform
  have HB : Hid _ := hb1
  clear hf hsrc hb0 hA0 hb9 hab1 hb1 HX HSEG
  go_wp2_with (first | (refine load_row_g 46 (.tmp 2) rfl (by rfl) w.heap.size rfl 46 D (0, 0) _ hA1 Try.underlying46 hi46 ?_) | (go_at_call 26; refine hseg.mono ?_; rintro e26 w26 ⟨rfl, hb26⟩) | fail)
  go_ret
  exact ⟨rfl, HB.out.trans (hb26.mono HB.out.size)⟩
end Go.Proofs.Ytfgnlfemckdfnaa
namespace Go.Proofs.Ytfgnlfemckdfnaa
open Go.ChangeShapes Go.WideShapes Go.ChangeAt Go.RowKit Go.WideMaps Go.WideElems
set_option linter.unusedSimpArgs false
theorem cells22 : Try.prog.cellsOf 22 = 1 := by kernel_rfl
theorem cells46 : Try.prog.cellsOf 46 = 5 := by kernel_rfl
theorem types46 : Try.prog.cellTypes Try.prog.depth 46 = some [3, 3, 3, 3, 22] := by kernel_rfl
section
variable {H : Type} {enc : TypeId × Value → H} {W : World} {fuel : Nat} {cs : List Value} {x : DataW H × List MemPlace}
set_option maxRecDepth 100000
set_option maxHeartbeats 1600000
/-- A []byte, as a part. -/
theorem t_bytes (h : DataW.trod enc Try.prog W 0 (fun _ => true) true fuel 22 cs = some x) (hw : ∀ n ∈ x.1.weights Try.prog 22, n ≤ reachBytes) :
    ∃ ao cap ps, cs = [.slice ao ps.length cap] ∧ (ao = none → ps.length = 0 ∧ cap = 0) ∧ From W ao ps ∧ ps.length ≤ 140737488351232 := by
  rcases open_ints Try.underlying22 Try.underlying5 cells5 h with ⟨hcs, hx⟩ | ⟨a, len, cap, zs, hcs, _, hl, hm, hz, hx, hcell, hwz⟩
  · exact ⟨none, 0, [], hcs, fun _ => ⟨rfl, rfl⟩, fun h => by simp at h, by simp⟩
  · simp only [if_true] at hz
    have hb8 : ∀ j, j < zs.length → W.cell? (a.add j) = some (B (UInt8.ofNat (zs.getD j 0).toNat)) := by
      intro j hj
      rw [hcell j hj, B]
      have e2 : zs.getD j 0 = zs[j] := by rw [List.getD_eq_getElem?_getD, List.getElem?_eq_getElem hj]; rfl
      have hb := bounds_u8 (hwz zs[j] (List.getElem_mem hj))
      rw [e2]
      congr 1
      apply val_u8
      simp
      omega
    have hlen : ((zs.take len).map (fun z => UInt8.ofNat z.toNat)).length = len := by simp; omega
    have hbd : len ≤ 140737488351232 := by
      have := hw ((lits .u8 (zs.take len)).length * 1 + (lits .u8 (zs.drop len)).length * 1) (by
        rw [hx]
        simp only [DataW.weights, Try.underlying22, bytes5]
        refine List.mem_cons.2 (.inl ?_)
        first | rfl | omega | (simp; omega))
      have e : reachBytes = 140737488351232 := rfl
      have e1 : (lits .u8 (zs.take len) : List (DataW H)).length = len := by simp [lits]; omega
      omega
    refine ⟨some a, cap, (zs.take len).map (fun z => UInt8.ofNat z.toNat), by rw [hlen]; exact hcs, (fun h => by cases h), fun h => ?_, by omega⟩
    have h0 := hb8 0 (by omega)
    have hsp : a.spot = none := by
      have := spot_none h0
      simpa [Addr.add] using this
    refine ⟨a.block, a.off, by rw [← hsp], fun j u hu => ?_⟩
    rw [List.getElem?_map, List.getElem?_take] at hu
    split at hu
    · have hjz : j < zs.length := by omega
      rw [List.getElem?_eq_getElem hjz] at hu
      have e2 : zs.getD j 0 = zs[j] := by rw [List.getD_eq_getElem?_getD, List.getElem?_eq_getElem hjz]; rfl
      have := hb8 j hjz
      rw [add_none hsp, e2] at this
      rw [this]
      simp only [Option.map_some, Option.some.injEq] at hu
      rw [← hu]
    · cases hu
/-- A segment, as a part. -/
theorem t_seg (h : DataW.trod enc Try.prog W 0 (fun _ => true) true fuel 46 cs = some x) (hw : ∀ n ∈ x.1.weights Try.prog 46, n ≤ reachBytes) :
    ∃ (s : Seg) (ao : Option Addr) (cc : Nat), cs = (segCells s.src s.dst s.seq s.ack (.slice ao s.data.length cc)).toList ∧ (ao = none → s.data.length = 0 ∧ cc = 0) ∧ From W ao s.data ∧ s.data.length ≤ 140737488351232 := by
  obtain ⟨xs, mm, _, hx, hl, hxl, hf⟩ := DataW.trod_struct Try.underlying46 h
  have hxl' : xs.length = 5 := hxl
  rw [cells46] at hl
  obtain ⟨c0, l1, rfl, k1⟩ := uncons hl
  obtain ⟨c1, l2, rfl, k2⟩ := uncons k1
  obtain ⟨c2, l3, rfl, k3⟩ := uncons k2
  obtain ⟨c3, l4, rfl, k4⟩ := uncons k3
  obtain ⟨c4, l5, rfl, k5⟩ := uncons k4
  obtain rfl := List.eq_nil_of_length_eq_zero k5
  have y0 : xs[0]? = some xs[0] := List.getElem?_eq_getElem (by omega)
  have h0 : DataW.trod enc Try.prog W 0 (fun _ => true) true mm 3 [c0] = some xs[0] := by
    have e : DataW.trod enc Try.prog W 0 (fun _ => true) true mm 3 (List.take (Try.prog.cellsOf 3) (List.drop 0 [c0, c1, c2, c3, c4])) = xs[0]? := hf 0 _ rfl
    rw [cells3, y0] at e
    exact e
  obtain ⟨z0, e0, b0⟩ := t_int Try.underlying3 h0
  have y1 : xs[1]? = some xs[1] := List.getElem?_eq_getElem (by omega)
  have h1 : DataW.trod enc Try.prog W 0 (fun _ => true) true mm 3 [c1] = some xs[1] := by
    have e : DataW.trod enc Try.prog W 0 (fun _ => true) true mm 3 (List.take (Try.prog.cellsOf 3) (List.drop 1 [c0, c1, c2, c3, c4])) = xs[1]? := hf 1 _ rfl
    rw [cells3, y1] at e
    exact e
  obtain ⟨z1, e1, b1⟩ := t_int Try.underlying3 h1
  have y2 : xs[2]? = some xs[2] := List.getElem?_eq_getElem (by omega)
  have h2 : DataW.trod enc Try.prog W 0 (fun _ => true) true mm 3 [c2] = some xs[2] := by
    have e : DataW.trod enc Try.prog W 0 (fun _ => true) true mm 3 (List.take (Try.prog.cellsOf 3) (List.drop 2 [c0, c1, c2, c3, c4])) = xs[2]? := hf 2 _ rfl
    rw [cells3, y2] at e
    exact e
  obtain ⟨z2, e2, b2⟩ := t_int Try.underlying3 h2
  have y3 : xs[3]? = some xs[3] := List.getElem?_eq_getElem (by omega)
  have h3 : DataW.trod enc Try.prog W 0 (fun _ => true) true mm 3 [c3] = some xs[3] := by
    have e : DataW.trod enc Try.prog W 0 (fun _ => true) true mm 3 (List.take (Try.prog.cellsOf 3) (List.drop 3 [c0, c1, c2, c3, c4])) = xs[3]? := hf 3 _ rfl
    rw [cells3, y3] at e
    exact e
  obtain ⟨z3, e3, b3⟩ := t_int Try.underlying3 h3
  have y4 : xs[4]? = some xs[4] := List.getElem?_eq_getElem (by omega)
  have h4 : DataW.trod enc Try.prog W 0 (fun _ => true) true mm 22 [c4] = some xs[4] := by
    have e : DataW.trod enc Try.prog W 0 (fun _ => true) true mm 22 (List.take (Try.prog.cellsOf 22) (List.drop 4 [c0, c1, c2, c3, c4])) = xs[4]? := hf 4 _ rfl
    rw [cells22, y4] at e
    exact e
  obtain ⟨ao, cc, ps, e4, hn4, hf4, hl4⟩ := t_bytes h4 (w_part Try.underlying46 hx hw (i := 4) rfl y4)
  cases e0; cases e1; cases e2; cases e3; cases e4
  exact ⟨⟨z0, z1, z2, z3, ps⟩, ao, cc, rfl, hn4, hf4, hl4⟩
/-- A segment that came in. -/
theorem open_seg {base : Nat} {v : Value} {d : DataW H} {p : List MemPlace} (hval : Value.okWide Try.prog W .any base 46 v) (h0 : DataW.Trod enc Try.prog W 0 (fun _ => true) true 46 v d p) (hw : ∀ n ∈ d.weights Try.prog 46, n ≤ reachBytes) :
    ∃ (s : Seg) (ao : Option Addr) (cc : Nat), v = .agg (segCells s.src s.dst s.seq s.ack (.slice ao s.data.length cc)) ∧ (ao = none → s.data.length = 0 ∧ cc = 0) ∧ From W ao s.data ∧ s.data.length ≤ 140737488351232 := by
  obtain ⟨cs, rfl, _⟩ := okWide_struct Try.underlying46 hval
  obtain ⟨fuel, hf⟩ := h0
  obtain ⟨s, ao, cc, e, hr⟩ := t_seg hf hw
  refine ⟨s, ao, cc, ?_, hr⟩
  have e' : cs.toList = (segCells s.src s.dst s.seq s.ack (.slice ao s.data.length cc)).toList := by simpa [Value.cells] using e
  rw [Array.toList_inj.1 e']
end
set_option maxRecDepth 100000 in
theorem has_ltS {W : World} {base n : Nat} {a : Addr} {e : TypeId} (h : W.has Try.prog .any base a e n) : a.block < W.heap.size ∧ a.spot = none := by
  obtain ⟨_, hsp, row, cells, hs, _⟩ := h
  refine ⟨?_, hsp⟩
  unfold World.shape? at hs
  cases hb : W.heap[a.block]? with
  | none => rw [hb] at hs; cases hs
  | some x => exact (Array.getElem?_eq_some_iff.1 hb).1
set_option maxRecDepth 100000 in
theorem slice_ltS {W : World} {base n c : Nat} {ao : Option Addr} {t e : TypeId} (hu : Try.prog.underlying t = some (.slice e)) (h : Cell.okWide Try.prog W .any base t (.slice ao n c)) : (∀ b o, ao = some ⟨b, o, none⟩ → b < W.heap.size) ∧ (ao = none ∨ ∃ b off, ao = some ⟨b, off, none⟩) := by
  cases ao with
  | none => exact ⟨fun b o e => (by cases e), Or.inl rfl⟩
  | some a =>
    simp only [Cell.okWide, Cell.ok, hu] at h
    obtain ⟨h1, h2⟩ := has_ltS h.2.2
    obtain ⟨b, o, s⟩ := a
    simp only at h2
    subst h2
    exact ⟨fun b' o' e => by cases e; exact h1, Or.inr ⟨b, o, rfl⟩⟩
set_option maxRecDepth 100000 in
theorem seg_lt {W : World} {base : Nat} {s : Seg} {ao : Option Addr} {cc : Nat} (h : Value.okWide Try.prog W .any base 46 (.agg (segCells s.src s.dst s.seq s.ack (.slice ao s.data.length cc)))) : ∀ b o, ao = some ⟨b, o, none⟩ → b < W.heap.size := by
  simp only [Value.okWide, Try.underlying46] at h
  obtain ⟨cs, e, _, ts, hts, _, hr⟩ := h
  cases e
  rw [types46] at hts
  cases hts
  obtain ⟨u, hu, hc⟩ := hr 4 (.slice ao s.data.length cc) rfl
  cases hu
  exact (slice_ltS Try.underlying22 hc).1
set_option maxRecDepth 100000 in
theorem bytes_ltS {W : World} {base n c : Nat} {ao : Option Addr} (h : Value.okWide Try.prog W .any base 22 (.slice ao n c)) : (∀ b o, ao = some ⟨b, o, none⟩ → b < W.heap.size) ∧ (ao = none ∨ ∃ b off, ao = some ⟨b, off, none⟩) := by
  simp only [Value.okWide, Try.underlying22] at h
  exact slice_ltS Try.underlying22 h
end Go.Proofs.Ytfgnlfemckdfnaa
namespace Go.Proofs.Ytfgnlfemckdfnaa.wireSegments
open Go.ChangeShapes Go.WideShapes Go.ChangeAt Go.RowKit Go.WideMaps Go.WideElems
set_option maxRecDepth 100000 in
set_option maxHeartbeats 1600000 in
theorem contract (H : Type) (enc : TypeId × Value → H) (W : World) (base : Nat) (args : Array Value) (ds gs : List (DataW H)) (before : List MemPlace)
    (hval : ∀ (j : Nat) t v, Try.f5.params[j]? = some t → args[j]? = some v → Value.okWide Try.prog W .any base t v)
    (hW : DataW.Whole enc Try.prog Try.f5.params.toList Rows.wireSegmentsSpec.vars false W args.toList ds gs before)
    (hsz : (DataW.weightsEach Try.prog (Try.f5.params.toList ++ Rows.wireSegmentsSpec.plain.varTypes Try.prog) (ds ++ gs)).all (· ≤ reachBytes) = true) :
    Calls Try.prog 5 args W fun e W' => ∃ v, e = .returned v ∧ Rows.wireSegmentsSpec.post enc Try.prog Try.f5 false true false false W args v W' := by
  have hW' := hW
  obtain ⟨p, q, hA0, hV, rfl, hfz, hnd⟩ := hW
  have hA : DataW.TrodAll enc Try.prog W 0 (fun _ => true) true Try.f5.params.toList args.toList ds p := hA0
  rw [Try.params5] at hA hval
  obtain ⟨v0, vs0, d0, ds0, p0, q0, hargs, rfl, rfl, h0, r0⟩ := trodAll_cons hA
  obtain ⟨v1, vs1, d1, ds1, p1, q1, rfl, rfl, rfl, h1, r1⟩ := trodAll_cons r0
  obtain ⟨rfl, rfl, rfl⟩ := trodAll_nil r1
  obtain rfl : args = #[v0, v1] := by cases args; simp_all
  obtain ⟨rfl, rfl⟩ := trodVars_none hV
  clear hA0 r0 r1 hA
  have hlt0 : ∀ x ∈ p0, x.block < W.heap.size := fun x hx => hW'.lt x (by simp [hx])
  have hlt1 : ∀ x ∈ p1, x.block < W.heap.size := fun x hx => hW'.lt x (by simp [hx])
  have hw0 : ∀ n ∈ d0.weights Try.prog 46, n ≤ reachBytes := fun n hn => by
    have := List.all_eq_true.1 hsz n (DataW.weights_mem_each (j := 0) (t := 46) (d := d0) (by rw [Try.params5]; rfl) rfl n hn)
    simpa using this
  obtain ⟨s, ao, cc, rfl, hnil, hf, hsl⟩ := open_seg (hval 0 46 v0 rfl rfl) h0 hw0
  have hsb := seg_lt (hval 0 46 _ rfl rfl)
  obtain ⟨bo, n, cap, bs, rfl, hlen, hrm, _, hbnil, hsrc, hs⟩ := open_bytes (hval 1 22 v1 rfl rfl) h1
  have hsm := short_bytes hsz (j := 1) (d := d1) (by rw [Try.params5]; rfl) rfl hrm hs
  have hbb := bytes_ltS (hval 1 22 _ rfl rfl)
  refine (seg_law s ao cc bo n cap bs W hnil hf hsb hsl hlen hsrc hbb.1 hsm hrm hbnil hbb.2).mono fun e W' ⟨he, hbl⟩ => ?_
  subst he
  exact ⟨_, rfl, _, _, _, [], _, [], hW', trodAll_cons_mk (shut_bool Try.underlying4 _) trodAll_mk0, trodAll_cons_mk (Below.trod laidOut (by kernel_rfl) (of_decide_eq_true (by kernel_rfl)) h0 hbl hlt0) (trodAll_cons_mk (shut_bytes h1 hbl hlt1) trodAll_mk0), rfl, hbl.frame _, fun h => by cases h⟩

set_option maxRecDepth 100000 in
theorem lifted (os : Os) (started : os.Started) (H : Type) (enc : TypeId × Value → H) :
    ReturnsInHanded {} Try.checked os 5 .any (Rows.wireSegmentsSpec.pre6 enc Try.prog Try.f5 Rows.wireSegmentsRow.domain false) (Rows.wireSegmentsSpec.post enc Try.prog Try.f5 false true false false) := by
  refine returnsInHanded_of_change_sized (C := Try.checked) (s := Rows.wireSegmentsSpec) own started (by kernel_rfl) Try.func5
    (ChangeSpec.witness6 (enc := enc) (C := Try.checked) (s := Rows.wireSegmentsSpec) false ⟨#[], #[.agg zeroS, .slice none 0 0], []⟩ 8 (by kernel_rfl) (by kernel_rfl) (by kernel_rfl) (by kernel_rfl)) ?_
  intro W base args ds gs before hval hW _ hsz _
  exact contract H enc W base args ds gs before hval hW hsz

theorem said : Rows.WireSegmentsSaid :=
  OpenClaim.holds_of_wide 5 Try.f5 rfl rfl rfl rfl rfl rfl rfl ⟨rfl, rfl, rfl, rfl, rfl⟩ rfl rfl rfl rfl rfl (by kernel_rfl) Try.func5 (by kernel_rfl)
    (of_decide_eq_true (by kernel_rfl)) (by unfold Func.isWrapper; first | (rw [if_pos (by decide +kernel)]; kernel_rfl) | (rw [if_neg (by decide +kernel)]; exact ⟨rfl, rfl⟩))
    (fun os started H enc _ => lifted os started H enc)
end Go.Proofs.Ytfgnlfemckdfnaa.wireSegments

namespace Go.Proofs.Ytfgnlfemckdfnaa
theorem wireSegments_said : Rows.WireSegmentsSaid := wireSegments.said
end Go.Proofs.Ytfgnlfemckdfnaa
