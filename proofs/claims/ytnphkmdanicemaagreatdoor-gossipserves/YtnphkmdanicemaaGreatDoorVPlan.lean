import Derived.Test.YtnphkmdanicemaaGreatDoorJM
namespace Go.Proofs.YtnphkmdanicemaaGreatDoor
open Go.RowKit Go.PlainAid
/- A region that draws its order, with two effects of which neither waits for the other: a plan that forks there. -/
inductive Plan where
  | done
  | one (k : Nat) (p : Plan)
  | two (i j : Nat) (p q : Plan)
def Plan.len : Plan → Nat
  | .done => 0
  | .one _ p => p.len + 1
  | .two _ _ p _ => p.len + 1
section
variable {P : Program} {ops : Array Oper} {md : Region.Mode} {C : World → Prop} {eff : Nat → Bool} {Q : Act → World → Prop} {z : Nat}
def wpPlan (P : Program) (ops : Array Oper) (C : World → Prop) (eff : Nat → Bool) (z : Nat) (Q : Act → World → Prop) : Plan → Bool → Act → World → Prop
  | .done, t, a, w => (t = false → C w) ∧ Q a w
  | .one k p, t, a, w => C w ∧ mOp P ops C eff k (wpPlan P ops C eff z Q p (t || k == z)) a w
  | .two i j p q, t, a, w => C w ∧ mOp P ops C eff i (wpPlan P ops C eff z Q p (t || i == z)) a w ∧ mOp P ops C eff j (wpPlan P ops C eff z Q q (t || j == z)) a w
def planOk (md : Region.Mode) (ops : Array Oper) (eff : Nat → Bool) : Plan → Array Bool → Bool
  | .done, listed => (Region.ready md ops listed).isEmpty
  | .one k p, listed => (Region.ready md ops listed).contains k && (Region.free md ops listed k && ((!eff k || chained md ops eff listed k) && planOk md ops eff p (listed.setIfInBounds k true)))
  | .two i j p q, listed => (Region.ready md ops listed == [i, j]) && (p.len == q.len && (planOk md ops eff p (listed.setIfInBounds i true) && planOk md ops eff q (listed.setIfInBounds j true)))
theorem mOp.turn {i : Nat} {K K' : Act → World → Prop} {a : Act} {w : World} (hK : ∀ a w, K a w → K' a w) (h : mOp P ops C eff i K a w) : mOp P ops C eff i K' a w := by
  intro o ho
  have h1 := h o ho
  by_cases he : eff i = true
  · rw [if_pos he] at h1 ⊢
    exact Eff.turn rfl rfl (fun v w1 hk => hK _ _ hk) h1
  · rw [if_neg he] at h1 ⊢
    obtain ⟨v, hy, hk⟩ := h1
    exact ⟨v, hy, hK _ _ hk⟩
theorem plan_set {listed : Array Bool} {k : Nat} {t : Bool} (hcl : Closed md ops listed) (hk : k ∈ Region.ready md ops listed) (ht : listed.getD z false = t) : (listed.setIfInBounds k true).getD z false = (t || k == z) := by
  obtain ⟨_, o, ho, _⟩ := mem_ready.1 hk
  have hkl : k < listed.size := by
    rw [hcl.1]
    exact (Array.getElem?_eq_some_iff.1 ho).1
  by_cases e : k = z
  · subst e
    simp [hkl]
  · rw [getD_set_ne false e, ht]
    simp [e]
theorem mix_plan (hs : Region.noSelect ops = true) (hz : Lasts md ops z) (hze : ∀ k, eff k = false → z ≠ k) : ∀ (p : Plan) (listed : Array Bool) (t : Bool) (a : Act) (w : World), Closed md ops listed → listed.getD z false = t → planOk md ops eff p listed = true → wpPlan P ops C eff z Q p t a w → wpMix P md ops C eff z Q p.len listed a w
  | .done, listed, t, a, w, hcl, ht, hB, h => ⟨fun h0 => h.1 (by rw [← ht]; exact h0), by simpa [planOk] using hB, h.2⟩
  | .one k p, listed, t, a, w, hcl, ht, hB, h => by
    simp only [planOk, Bool.and_eq_true] at hB
    obtain ⟨hr, hf, hc, hB'⟩ := hB
    obtain ⟨hC, h2⟩ := h
    have hrk : k ∈ Region.ready md ops listed := by simpa using hr
    obtain ⟨_, o, h0, _⟩ := mem_ready.1 hrk
    have h3 := h2 o h0
    have hset := plan_set hcl hrk ht
    by_cases he : eff k = true
    · rw [if_pos he] at h3
      rw [he] at hc
      refine mix_eff h0 he hz (Region.noSelect_spec hs) p.len listed a w hC hcl (Region.free_spec h0 hf) (chained_spec (by simpa using hc)) hrk ?_
      exact Eff.turn rfl rfl (fun v w1 hk => mix_plan hs hz hze p _ _ _ _ (hcl.set hrk) hset hB' hk) h3
    · rw [if_neg he] at h3
      obtain ⟨v, hy, hk⟩ := h3
      exact mix_read h0 (by simpa using he) (hze k (by simpa using he)) hz (Region.noSelect_spec hs) p.len listed a w hC hcl (Region.free_spec h0 hf) hrk hy (mix_plan hs hz hze p _ _ _ _ (hcl.set hrk) hset hB' hk)
  | .two i j p q, listed, t, a, w, hcl, ht, hB, h => by
    simp only [planOk, Bool.and_eq_true] at hB
    obtain ⟨hr, hlen, hBp, hBq⟩ := hB
    have hr' : Region.ready md ops listed = [i, j] := by simpa using hr
    have hlen' : p.len = q.len := by simpa using hlen
    obtain ⟨hC, hi, hj⟩ := h
    have hri : i ∈ Region.ready md ops listed := by rw [hr']; simp
    have hrj : j ∈ Region.ready md ops listed := by rw [hr']; simp
    refine ⟨fun _ => hC, (fun h0 => by rw [h0] at hr'; cases hr'), fun k hk => ?_⟩
    rw [hr'] at hk
    simp only [List.mem_cons, List.not_mem_nil, or_false] at hk
    rcases hk with rfl | rfl
    · exact hi.turn fun a w hk => mix_plan hs hz hze p _ _ _ _ (hcl.set hri) (plan_set hcl hri ht) hBp hk
    · refine hj.turn fun a w hk => ?_
      rw [hlen']
      exact mix_plan hs hz hze q _ _ _ _ (hcl.set hrj) (plan_set hcl hrj ht) hBq hk
theorem wp_region_plan {id : Nat} {Q' : Exit → Act → World → Prop} {a : Act} {w : World} (C : World → Prop) (eff : Nat → Bool) (z : Nat) (p : Plan) (hl : lasts .any ops z = true) (hz : eff z = true) (hm : P.follows .mixedOrders = true) (hs : Region.noSelect ops = true) (hn : p.len = ops.size) (hB : planOk .any ops eff p (Array.replicate ops.size false) = true)
    (h : wpPlan P ops C eff z (fun a w => Q' .normal a w) p false a { w with drawn := w.drawn + 1 }) : (Code.region id ops true).wp P Q' a w := by
  have hcl : Closed .any ops (Array.replicate ops.size false) := ⟨by simp, fun j oj hj hl => by
    have := (Array.getElem?_eq_some_iff.1 hj).1
    simp [this] at hl⟩
  have hze : ∀ k, eff k = false → z ≠ k := fun k hk e => by subst e; rw [hz] at hk; cases hk
  refine wp_region_any hm (wpAny_of_mix (C := C) (eff := eff) (z := z) (Q := fun a w => Q' .normal a w) (fun _ _ h => h) (lasts_spec hl) hze _ _ _ _ hcl ?_)
  have := mix_plan (md := .any) hs (lasts_spec hl) hze p (Array.replicate ops.size false) false a _ hcl (by simp [Array.getElem?_replicate]; split <;> rfl) hB h
  rw [hn] at this
  exact this
end
section
variable {ops : Array Oper} {C : World → Prop} {eff : Nat → Bool} {Q : Act → World → Prop} {a : Act} {w w1 : World} {p q : Plan} {t : Bool} {o : Oper} {f : Nat → Value} {N d k z : Nat}
/-- A read. -/
theorem py (ho : ops.toList[k]? = some o) (hF : Fr N a f) (he : eff k = false) (hC : C w) (hd : o.dst = some d) (hN : d < N) (hw : Region.wanted o (yielded ops a.tmps) = true) {v : Value} (hr : ∀ w, C w → (execOp a.eval o).run Tryz.prog w = .ok (.value v) w)
    (h : ∀ a', Fr N a' (upd f d v) → wpPlan Tryz.prog ops C eff z Q p (t || k == z) a' w) : wpPlan Tryz.prog ops C eff z Q (.one k p) t a w := by
  refine ⟨hC, fun o' ho' => ?_⟩
  rw [← Array.getElem?_toList, ho] at ho'
  cases ho'
  rw [if_neg (by rw [he]; simp)]
  exact ⟨v, Or.inl ⟨hw, hr⟩, by rw [hd]; exact h _ (hF.put d v hN)⟩
/-- An effect, as it stands at a fork. -/
theorem pe' (ho : ops.toList[k]? = some o) (hF : Fr N a f) (he : eff k = true) (hd : o.dst = some d) (hN : d < N) (hw : Region.wanted o (yielded ops a.tmps) = true) {v : Value} (hr : (execOp a.eval o).run Tryz.prog w = .ok (.value v) w1)
    (h : ∀ a', Fr N a' (upd f d v) → wpPlan Tryz.prog ops C eff z Q p (t || k == z) a' w1) : mOp Tryz.prog ops C eff k (wpPlan Tryz.prog ops C eff z Q p (t || k == z)) a w := by
  intro o' ho'
  rw [← Array.getElem?_toList, ho] at ho'
  cases ho'
  rw [if_pos he]
  exact Or.inl ⟨hw, Or.inl ⟨v, w1, Or.inl hr, by rw [hd]; exact h _ (hF.put d v hN)⟩⟩
theorem pe (ho : ops.toList[k]? = some o) (hF : Fr N a f) (he : eff k = true) (hC : C w) (hd : o.dst = some d) (hN : d < N) (hw : Region.wanted o (yielded ops a.tmps) = true) {v : Value} (hr : (execOp a.eval o).run Tryz.prog w = .ok (.value v) w1)
    (h : ∀ a', Fr N a' (upd f d v) → wpPlan Tryz.prog ops C eff z Q p (t || k == z) a' w1) : wpPlan Tryz.prog ops C eff z Q (.one k p) t a w := ⟨hC, pe' ho hF he hd hN hw hr h⟩
/-- A call. -/
theorem pc' (ho : ops.toList[k]? = some o) (hF : Fr N a f) (he : eff k = true) (hd : o.dst = some d) (hN : d < N) (hw : Region.wanted o (yielded ops a.tmps) = true) {g : Nat} {args : Array Value} {Post : Ending → World → Prop} (hr : (execOp a.eval o).run Tryz.prog w = .ok (.enter g args) w) (hc : Calls Tryz.prog g args w Post)
    (h : ∀ e w', Post e w' → ∃ v, e = .returned v ∧ ∀ a', Fr N a' (upd f d v) → wpPlan Tryz.prog ops C eff z Q p (t || k == z) a' w') : mOp Tryz.prog ops C eff k (wpPlan Tryz.prog ops C eff z Q p (t || k == z)) a w := by
  intro o' ho'
  rw [← Array.getElem?_toList, ho] at ho'
  cases ho'
  rw [if_pos he]
  refine Or.inl ⟨hw, Or.inr ⟨g, args, hr, hc.mono fun e w' hp => ?_⟩⟩
  obtain ⟨v, rfl, h'⟩ := h e w' hp
  exact ⟨v, rfl, by rw [hd]; exact h' _ (hF.put d v hN)⟩
theorem pc (ho : ops.toList[k]? = some o) (hF : Fr N a f) (he : eff k = true) (hC : C w) (hd : o.dst = some d) (hN : d < N) (hw : Region.wanted o (yielded ops a.tmps) = true) {g : Nat} {args : Array Value} {Post : Ending → World → Prop} (hr : (execOp a.eval o).run Tryz.prog w = .ok (.enter g args) w) (hc : Calls Tryz.prog g args w Post)
    (h : ∀ e w', Post e w' → ∃ v, e = .returned v ∧ ∀ a', Fr N a' (upd f d v) → wpPlan Tryz.prog ops C eff z Q p (t || k == z) a' w') : wpPlan Tryz.prog ops C eff z Q (.one k p) t a w := ⟨hC, pc' ho hF he hd hN hw hr hc h⟩
/-- A store. -/
theorem ps (ho : ops.toList[k]? = some o) (he : eff k = true) (hC : C w) (hd : o.dst = none) (hw : Region.wanted o (yielded ops a.tmps) = true) (hr : (execOp a.eval o).run Tryz.prog w = .ok .skip w1)
    (h : wpPlan Tryz.prog ops C eff z Q p (t || k == z) a w1) : wpPlan Tryz.prog ops C eff z Q (.one k p) t a w := by
  refine ⟨hC, fun o' ho' => ?_⟩
  rw [← Array.getElem?_toList, ho] at ho'
  cases ho'
  rw [if_pos he]
  exact Or.inl ⟨hw, Or.inl ⟨undef, w1, Or.inr ⟨hr, rfl⟩, by rw [hd]; exact h⟩⟩
theorem pfork {i j : Nat} (hC : C w) (h1 : mOp Tryz.prog ops C eff i (wpPlan Tryz.prog ops C eff z Q p (t || i == z)) a w) (h2 : mOp Tryz.prog ops C eff j (wpPlan Tryz.prog ops C eff z Q q (t || j == z)) a w) : wpPlan Tryz.prog ops C eff z Q (.two i j p q) t a w := ⟨hC, h1, h2⟩
theorem pdone (hC : t = false → C w) (h : Q a w) : wpPlan Tryz.prog ops C eff z Q .done t a w := ⟨hC, h⟩
end
theorem withFrG {ops : Array Oper} {C : World → Prop} {eff : Nat → Bool} {z : Nat} {Q : Act → World → Prop} {p : Plan} {b : Bool} {t : Array Value} {w : World} {N : Nat} (ht : t.size = N) (h : ∀ a f, Fr N a f → (∀ j, f j = t.getD j undef) → wpPlan Tryz.prog ops C eff z Q p b a w) : wpPlan Tryz.prog ops C eff z Q p b { tmps := t, defers := [] } w :=
  h _ _ (Fr.ofLit t ht) fun _ => rfl
end Go.Proofs.YtnphkmdanicemaaGreatDoor
