import Derived.Deep.Quiet
import Derived.Test.YtdbngkjgaglngaaBare2
namespace Go.Proofs.Ytdbngkjgaglngaa
/- A region that draws its order: reads that yield the same in every world of a class, beside a chain of operations with an effect, each of which waits for the one ahead of it. -/
section
variable {P : Program} {ops : Array Oper} {md : Region.Mode} {C : World → Prop} {eff : Nat → Bool} {Q : Act → World → Prop}

def Yld (P : Program) (ops : Array Oper) (C : World → Prop) (o : Oper) (v : Value) (a : Act) : Prop :=
  (Region.wanted o (yielded ops a.tmps) = true ∧ ∀ w, C w → (execOp a.eval o).run P w = .ok (.value v) w) ∨ (Region.wanted o (yielded ops a.tmps) = false ∧ v = undef)
def Eff (P : Program) (ops : Array Oper) (o : Oper) (K : Act → World → Prop) (a : Act) (w : World) : Prop :=
  (Region.wanted o (yielded ops a.tmps) = true ∧ ((∃ v w1, (execOp a.eval o).run P w = .ok (.value v) w1 ∧ K (a.put o.dst v) w1) ∨ (∃ f args, (execOp a.eval o).run P w = .ok (.enter f args) w ∧ Calls P f args w fun e w' => ∃ v, e = .returned v ∧ K (a.put o.dst v) w')))
  ∨ (Region.wanted o (yielded ops a.tmps) = false ∧ K (a.put o.dst undef) w)
def mOp (P : Program) (ops : Array Oper) (C : World → Prop) (eff : Nat → Bool) (i : Nat) (K : Act → World → Prop) (a : Act) (w : World) : Prop :=
  ∀ o, ops[i]? = some o → if eff i then Eff P ops o K a w else ∃ v, Yld P ops C o v a ∧ K (a.put o.dst v) w
def wpMix (P : Program) (md : Region.Mode) (ops : Array Oper) (C : World → Prop) (eff : Nat → Bool) (Q : Act → World → Prop) : Nat → Array Bool → Act → World → Prop
  | 0, listed, a, w => C w ∧ Region.ready md ops listed = [] ∧ Q a w
  | fuel + 1, listed, a, w => C w ∧ (Region.ready md ops listed = [] → Q a w) ∧ ∀ i ∈ Region.ready md ops listed, mOp P ops C eff i (wpMix P md ops C eff Q fuel (listed.setIfInBounds i true)) a w

theorem wpMix.cls : ∀ {n : Nat} {listed : Array Bool} {a : Act} {w : World}, wpMix P md ops C eff Q n listed a w → C w
  | 0, _, _, _, h => h.1
  | _ + 1, _, _, _, h => h.1
theorem Eff.some {o : Oper} {K : Act → World → Prop} {a : Act} {w : World} (h : Eff P ops o K a w) : ∃ v w1, K (a.put o.dst v) w1 := by
  rcases h with ⟨_, ⟨v, w1, _, hk⟩ | ⟨f, args, _, hc⟩⟩ | ⟨_, hk⟩
  · exact ⟨v, w1, hk⟩
  · obtain ⟨e, w', _, ⟨v, _, hk⟩, _⟩ := hc []
    exact ⟨v, w', hk⟩
  · exact ⟨undef, w, hk⟩
theorem Eff.turn {o : Oper} {K K' : Act → World → Prop} {a a' : Act} {w : World} (he : execOp a'.eval o = execOp a.eval o) (hw : Region.wanted o (yielded ops a'.tmps) = Region.wanted o (yielded ops a.tmps))
    (hK : ∀ v w1, K (a.put o.dst v) w1 → K' (a'.put o.dst v) w1) (h : Eff P ops o K a w) : Eff P ops o K' a' w := by
  unfold Eff at *
  rw [he, hw]
  rcases h with ⟨h0, ⟨v, w1, h1, hk⟩ | ⟨f, args, h1, hc⟩⟩ | ⟨h0, hk⟩
  · exact Or.inl ⟨h0, Or.inl ⟨v, w1, h1, hK _ _ hk⟩⟩
  · exact Or.inl ⟨h0, Or.inr ⟨f, args, h1, hc.mono fun e w' ⟨v, he, hk⟩ => ⟨v, he, hK _ _ hk⟩⟩⟩
  · exact Or.inr ⟨h0, hK _ _ hk⟩
theorem Yld.turn {o : Oper} {v : Value} {a a' : Act} (he : execOp a'.eval o = execOp a.eval o) (hw : Region.wanted o (yielded ops a'.tmps) = Region.wanted o (yielded ops a.tmps)) (h : Yld P ops C o v a) : Yld P ops C o v a' := by
  unfold Yld at *
  rw [he, hw]
  exact h
theorem Yld.one {o : Oper} {v v' : Value} {a : Act} {w : World} (hC : C w) (h : Yld P ops C o v a) (h' : Yld P ops C o v' a) : v' = v := by
  rcases h with ⟨h0, h1⟩ | ⟨h0, h1⟩ <;> rcases h' with ⟨k0, k1⟩ | ⟨k0, k1⟩
  · have := (h1 w hC).symm.trans (k1 w hC)
    cases this
    rfl
  · rw [h0] at k0; cases k0
  · rw [h0] at k0; cases k0
  · rw [h1, k1]

/-- It is a wpAny. -/
theorem wpAny_of_mix {Q' : Exit → Act → World → Prop} (hQ : ∀ a w, Q a w → Q' .normal a w) : ∀ (n : Nat) (listed : Array Bool) (a : Act) (w : World), wpMix P md ops C eff Q n listed a w → wpAny P md ops Q' n listed a w
  | 0, _, _, _, h => ⟨h.2.1, hQ _ _ h.2.2⟩
  | n + 1, listed, a, w, h => by
    refine ⟨fun h0 => hQ _ _ (h.2.1 h0), fun i hi => ?_⟩
    have h1 := h.2.2 i hi
    obtain ⟨_, o, ho, _⟩ := mem_ready.1 hi
    have h2 := h1 o ho
    unfold wpOp
    simp only [ho]
    by_cases he : eff i = true
    · rw [if_pos he] at h2
      rcases h2 with ⟨h0, ⟨v, w1, hr, hk⟩ | ⟨f, args, hr, hc⟩⟩ | ⟨h0, hk⟩
      · rw [if_pos h0]
        refine Or.inl ?_
        unfold Oper.wp
        rw [hr]
        exact wpAny_of_mix hQ n _ _ _ hk
      · rw [if_pos h0]
        refine Or.inl ?_
        unfold Oper.wp
        rw [hr]
        exact hc.mono fun e w' ⟨v, he, hk⟩ => by subst he; exact wpAny_of_mix hQ n _ _ _ hk
      · rw [if_neg (by rw [h0]; simp)]
        exact wpAny_of_mix hQ n _ _ _ hk
    · rw [if_neg he] at h2
      obtain ⟨v, hy, hk⟩ := h2
      rcases hy with ⟨h0, hr⟩ | ⟨h0, rfl⟩
      · rw [if_pos h0]
        refine Or.inl ?_
        unfold Oper.wp
        rw [hr w h.1]
        exact wpAny_of_mix hQ n _ _ _ hk
      · rw [if_neg (by rw [h0]; simp)]
        exact wpAny_of_mix hQ n _ _ _ hk
theorem notOn {i : Nat} {oj : Oper} {listed : Array Bool} (hr : i ∈ Region.ready md ops listed) (hall : ∀ e ∈ oj.after, Region.binds md e = true → listed.getD e.on false = true) : ∀ e ∈ oj.after, Region.binds md e = true → e.on ≠ i := fun e he hb heq => by
  have h1 := hall e he hb
  have h0 := (mem_ready.1 hr).1
  rw [heq] at h1
  rcases Nat.lt_or_ge i listed.size with h' | h'
  · simp [h'] at h0 h1; rw [h0] at h1; cases h1
  · simp [Array.getElem?_eq_none h'] at h1
theorem mix_read {i : Nat} {oi : Oper} {v : Value} (hi : ops[i]? = some oi) (he : eff i = false) (hsel : ∀ (j : Nat) (o : Oper) cs b, ops[j]? = some o → o.op ≠ .select cs b) :
    ∀ (n : Nat) (listed : Array Bool) (a : Act) (w : World),
      (∀ j oj, ops[j]? = some oj → j ≠ i → listed.getD j true = false → (∀ e ∈ oj.after, Region.binds md e = true → e.on ≠ i) → oi.apart ops oj = true) →
      i ∈ Region.ready md ops listed → Yld P ops C oi v a → wpMix P md ops C eff Q n (listed.setIfInBounds i true) (a.put oi.dst v) w → wpMix P md ops C eff Q (n + 1) listed a w := by
  intro n
  induction n with
  | zero =>
    intro listed a w _ hr hy H
    refine ⟨H.1, fun h => (by rw [h] at hr; cases hr), fun j hj => ?_⟩
    by_cases hji : j = i
    · subst hji
      intro o ho
      rw [hi] at ho
      cases ho
      rw [if_neg (by rw [he]; simp)]
      exact ⟨v, hy, H⟩
    · have := ready_mono hj hji
      rw [H.2.1] at this
      cases this
  | succ n ih =>
    intro listed a w hfree hr hy H
    refine ⟨H.1, fun h => (by rw [h] at hr; cases hr), fun j hj => ?_⟩
    by_cases hji : j = i
    · subst hji
      intro o ho
      rw [hi] at ho
      cases ho
      rw [if_neg (by rw [he]; simp)]
      exact ⟨v, hy, H⟩
    · obtain ⟨hjun, oj, hoj, hall⟩ := mem_ready.1 hj
      have h1 := H.2.2 j (ready_mono hj hji) oj hoj
      obtain ⟨p1, p2, p3⟩ := Oper.apart_spec (hfree j oj hoj hji hjun (notOn hr hall))
      have hfree' : ∀ k ok, ops[k]? = some ok → k ≠ i → (listed.setIfInBounds j true).getD k true = false → (∀ e ∈ ok.after, Region.binds md e = true → e.on ≠ i) → oi.apart ops ok = true := fun k ok hk hki hun hno => by
        refine hfree k ok hk hki ?_ hno
        by_cases hjk : j = k
        · subst hjk; exact hjun
        · rw [getD_set_ne true hjk] at hun; exact hun
      have go : ∀ u w1, wpMix P md ops C eff Q n ((listed.setIfInBounds i true).setIfInBounds j true) ((a.put oi.dst v).put oj.dst u) w1 → wpMix P md ops C eff Q (n + 1) (listed.setIfInBounds j true) (a.put oj.dst u) w1 := fun u w1 hk => by
        refine ih (listed.setIfInBounds j true) (a.put oj.dst u) w1 hfree' (ready_mono hr (Ne.symm hji)) (hy.turn (execOp_put oi (fun cs b => hsel i oi cs b hi) a oj.dst u p3) (wanted_put oi a oj.dst u p3)) ?_
        rw [Array.setIfInBounds_comm _ _ hji, ← Act.put_comm a v u p2]
        exact hk
      intro o ho
      rw [hoj] at ho
      cases ho
      have e1 := execOp_put oj (fun cs b => hsel j oj cs b hoj) a oi.dst v p1
      have e2 := wanted_put oj a oi.dst v p1
      by_cases hej : eff j = true
      · rw [if_pos hej] at h1 ⊢
        exact Eff.turn e1.symm e2.symm go h1
      · rw [if_neg hej] at h1 ⊢
        obtain ⟨u, hu, hk⟩ := h1
        exact ⟨u, hu.turn e1.symm e2.symm, go u w hk⟩
theorem mix_eff {i : Nat} {oi : Oper} (hi : ops[i]? = some oi) (he : eff i = true) (hsel : ∀ (j : Nat) (o : Oper) cs b, ops[j]? = some o → o.op ≠ .select cs b) :
    ∀ (n : Nat) (listed : Array Bool) (a : Act) (w : World), C w →
      (∀ j oj, ops[j]? = some oj → j ≠ i → listed.getD j true = false → (∀ e ∈ oj.after, Region.binds md e = true → e.on ≠ i) → oi.apart ops oj = true) →
      (∀ j oj, ops[j]? = some oj → j ≠ i → eff j = true → listed.getD j true = false → ∃ e ∈ oj.after, Region.binds md e = true ∧ eff e.on = true ∧ listed.getD e.on false = false) →
      i ∈ Region.ready md ops listed → Eff P ops oi (wpMix P md ops C eff Q n (listed.setIfInBounds i true)) a w → wpMix P md ops C eff Q (n + 1) listed a w := by
  intro n
  induction n with
  | zero =>
    intro listed a w hC _ _ hr H
    refine ⟨hC, fun h => (by rw [h] at hr; cases hr), fun j hj => ?_⟩
    by_cases hji : j = i
    · subst hji
      intro o ho
      rw [hi] at ho
      cases ho
      rw [if_pos he]
      exact H
    · obtain ⟨v, w1, hk⟩ := H.some
      have := ready_mono hj hji
      rw [hk.2.1] at this
      cases this
  | succ n ih =>
    intro listed a w hC hfree hdep hr H
    refine ⟨hC, fun h => (by rw [h] at hr; cases hr), fun j hj => ?_⟩
    by_cases hji : j = i
    · subst hji
      intro o ho
      rw [hi] at ho
      cases ho
      rw [if_pos he]
      exact H
    · obtain ⟨hjun, oj, hoj, hall⟩ := mem_ready.1 hj
      obtain ⟨p1, p2, p3⟩ := Oper.apart_spec (hfree j oj hoj hji hjun (notOn hr hall))
      have hej : eff j = false := by
        cases hej : eff j with
        | false => rfl
        | true =>
          obtain ⟨e, hea, hb, _, hl⟩ := hdep j oj hoj hji hej hjun
          rw [hall e hea hb] at hl
          cases hl
      intro o ho
      rw [hoj] at ho
      cases ho
      rw [if_neg (by rw [hej]; simp)]
      obtain ⟨u, w1, hk⟩ := H.some
      have h1 := hk.2.2 j (ready_mono hj hji) oj hoj
      rw [if_neg (by rw [hej]; simp)] at h1
      obtain ⟨v, hy, _⟩ := h1
      have f1 := fun u => execOp_put oj (fun cs b => hsel j oj cs b hoj) a oi.dst u p1
      have f2 := fun u => wanted_put oj a oi.dst u p1
      have hya : Yld P ops C oj v a := hy.turn (f1 u).symm (f2 u).symm
      refine ⟨v, hya, ?_⟩
      refine ih (listed.setIfInBounds j true) (a.put oj.dst v) w hC ?_ ?_ (ready_mono hr (Ne.symm hji)) ?_
      · intro k ok hk hki hun hno
        refine hfree k ok hk hki ?_ hno
        by_cases hjk : j = k
        · subst hjk; exact hjun
        · rw [getD_set_ne true hjk] at hun; exact hun
      · intro k ok hk hki hek hun
        have hjk : j ≠ k := by intro e; subst e; rw [hej] at hek; cases hek
        rw [getD_set_ne true hjk] at hun
        obtain ⟨e, hea, hb, hee, hl⟩ := hdep k ok hk hki hek hun
        refine ⟨e, hea, hb, hee, ?_⟩
        have : j ≠ e.on := by intro h; rw [← h, hej] at hee; cases hee
        rw [getD_set_ne false this]
        exact hl
      · refine Eff.turn (execOp_put oi (fun cs b => hsel i oi cs b hi) a oj.dst v p3) (wanted_put oi a oj.dst v p3) (fun u' w' hk' => ?_) H
        have h2 := hk'.2.2 j (ready_mono hj hji) oj hoj
        rw [if_neg (by rw [hej]; simp)] at h2
        obtain ⟨v', hy', hk2⟩ := h2
        have hv : v' = v := Yld.one hk'.1 hya (hy'.turn (f1 u').symm (f2 u').symm)
        subst hv
        rw [Array.setIfInBounds_comm _ _ hji, ← Act.put_comm a u' v' p2]
        exact hk2
/-- The walk in the text's order. -/
def wpLex (P : Program) (ops : Array Oper) (C : World → Prop) (eff : Nat → Bool) (Q : Act → World → Prop) : List Oper → Nat → Act → World → Prop
  | [], _, a, w => C w ∧ Q a w
  | o :: rest, k, a, w => C w ∧ if eff k then Eff P ops o (wpLex P ops C eff Q rest (k + 1)) a w else ∃ v, Yld P ops C o v a ∧ wpLex P ops C eff Q rest (k + 1) (a.put o.dst v) w
/-- Each effect that has not come up, but for the first, waits for another one. -/
def chained (md : Region.Mode) (ops : Array Oper) (eff : Nat → Bool) (listed : Array Bool) (k : Nat) : Bool :=
  (List.range ops.size).all fun j => j == k || !eff j || listed.getD j true || match ops[j]? with
    | some oj => oj.after.any (fun e => Region.binds md e && (eff e.on && !listed.getD e.on false))
    | none => true
def mixFrom (md : Region.Mode) (ops : Array Oper) (eff : Nat → Bool) : Nat → Nat → Array Bool → Bool
  | 0, _, listed => (Region.ready md ops listed).isEmpty
  | fuel + 1, k, listed => (Region.ready md ops listed).contains k && (Region.free md ops listed k && ((!eff k || chained md ops eff listed k) && mixFrom md ops eff fuel (k + 1) (listed.setIfInBounds k true)))
theorem chained_spec {listed : Array Bool} {k : Nat} (h : chained md ops eff listed k = true) (j : Nat) (oj : Oper) (hj : ops[j]? = some oj) (hne : j ≠ k) (he : eff j = true) (hun : listed.getD j true = false) :
    ∃ e ∈ oj.after, Region.binds md e = true ∧ eff e.on = true ∧ listed.getD e.on false = false := by
  simp only [chained, List.all_eq_true, List.mem_range] at h
  have h1 := h j (Array.getElem?_eq_some_iff.1 hj).1
  simp only [hj, Bool.or_eq_true, beq_iff_eq, hne, false_or, he, hun, Bool.not_true, Bool.false_eq_true] at h1
  rw [← Array.any_toList, List.any_eq_true] at h1
  obtain ⟨e, hea, hb⟩ := h1
  simp only [Bool.and_eq_true, Bool.not_eq_true'] at hb
  exact ⟨e, by simpa using hea, hb.1, hb.2.1, hb.2.2⟩
theorem mix_lex (hs : Region.noSelect ops = true) : ∀ (l : List Oper) (k : Nat) (listed : Array Bool) (a : Act) (w : World), (∀ j, l[j]? = ops[k + j]?) → mixFrom md ops eff l.length k listed = true → wpLex P ops C eff Q l k a w → wpMix P md ops C eff Q l.length listed a w
  | [], _, _, _, _, _, hB, h => ⟨h.1, by simpa [mixFrom] using hB, h.2⟩
  | o :: l, k, listed, a, w, hl, hB, h => by
    have h0 : ops[k]? = some o := by simpa using (hl 0).symm
    simp only [List.length_cons, mixFrom, Bool.and_eq_true] at hB
    obtain ⟨hr, hf, hc, hB'⟩ := hB
    have hl' : ∀ j, l[j]? = ops[k + 1 + j]? := fun j => by have := hl (j + 1); simpa [Nat.add_assoc, Nat.add_comm 1 j] using this
    obtain ⟨hC, h2⟩ := h
    by_cases he : eff k = true
    · rw [if_pos he] at h2
      rw [he] at hc
      refine mix_eff h0 he (Region.noSelect_spec hs) l.length listed a w hC (Region.free_spec h0 hf) (chained_spec (by simpa using hc)) (by simpa using hr) ?_
      exact Eff.turn rfl rfl (fun v w1 hk => mix_lex hs l (k + 1) _ _ _ hl' hB' hk) h2
    · rw [if_neg he] at h2
      obtain ⟨v, hy, hk⟩ := h2
      exact mix_read h0 (by simpa using he) (Region.noSelect_spec hs) l.length listed a w (Region.free_spec h0 hf) (by simpa using hr) hy (mix_lex hs l (k + 1) _ _ _ hl' hB' hk)
/-- ONE walk in the text's order serves every order. -/
theorem wp_region_mix {id : Nat} {Q' : Exit → Act → World → Prop} {a : Act} {w : World} (C : World → Prop) (eff : Nat → Bool) (hm : P.follows .mixedOrders = true) (hs : Region.noSelect ops = true) (hB : mixFrom .any ops eff ops.size 0 (Array.replicate ops.size false) = true)
    (h : wpLex P ops C eff (fun a w => Q' .normal a w) ops.toList 0 a { w with drawn := w.drawn + 1 }) : (Code.region id ops true).wp P Q' a w := by
  refine wp_region_any hm (wpAny_of_mix (C := C) (eff := eff) (Q := fun a w => Q' .normal a w) (fun _ _ h => h) _ _ _ _ ?_)
  have := mix_lex (md := .any) hs ops.toList 0 (Array.replicate ops.size false) a _ (by simp) (by simpa using hB) h
  simpa using this
end
end Go.Proofs.Ytdbngkjgaglngaa
namespace Go.Proofs.Ytdbngkjgaglngaa
open Go.RowKit Go.PlainAid
section
variable {ops : Array Oper} {C : World → Prop} {eff : Nat → Bool} {Q : Act → World → Prop} {a : Act} {w w1 : World} {rest : List Oper} {o : Oper} {f : Nat → Value} {N d k : Nat}
/-- A read. -/
theorem ly (hF : Fr N a f) (he : eff k = false) (hC : C w) (hd : o.dst = some d) (hN : d < N) (hw : Region.wanted o (yielded ops a.tmps) = true) {v : Value} (hr : ∀ w, C w → (execOp a.eval o).run Try.prog w = .ok (.value v) w)
    (h : ∀ a', Fr N a' (upd f d v) → wpLex Try.prog ops C eff Q rest (k + 1) a' w) : wpLex Try.prog ops C eff Q (o :: rest) k a w := by
  refine ⟨hC, ?_⟩
  rw [if_neg (by rw [he]; simp)]
  exact ⟨v, Or.inl ⟨hw, hr⟩, by rw [hd]; exact h _ (hF.put d v hN)⟩
/-- One that is passed over. -/
theorem ln (hF : Fr N a f) (he : eff k = false) (hC : C w) (hd : o.dst = some d) (hN : d < N) (hw : Region.wanted o (yielded ops a.tmps) = false)
    (h : ∀ a', Fr N a' (upd f d undef) → wpLex Try.prog ops C eff Q rest (k + 1) a' w) : wpLex Try.prog ops C eff Q (o :: rest) k a w := by
  refine ⟨hC, ?_⟩
  rw [if_neg (by rw [he]; simp)]
  exact ⟨undef, Or.inr ⟨hw, rfl⟩, by rw [hd]; exact h _ (hF.put d undef hN)⟩
/-- An effect that is no call. -/
theorem le (hF : Fr N a f) (he : eff k = true) (hC : C w) (hd : o.dst = some d) (hN : d < N) (hw : Region.wanted o (yielded ops a.tmps) = true) {v : Value} (hr : (execOp a.eval o).run Try.prog w = .ok (.value v) w1)
    (h : ∀ a', Fr N a' (upd f d v) → wpLex Try.prog ops C eff Q rest (k + 1) a' w1) : wpLex Try.prog ops C eff Q (o :: rest) k a w := by
  refine ⟨hC, ?_⟩
  rw [if_pos he]
  exact Or.inl ⟨hw, Or.inl ⟨v, w1, hr, by rw [hd]; exact h _ (hF.put d v hN)⟩⟩
/-- A call. -/
theorem lc (hF : Fr N a f) (he : eff k = true) (hC : C w) (hd : o.dst = some d) (hN : d < N) (hw : Region.wanted o (yielded ops a.tmps) = true) {g : Nat} {args : Array Value} {Post : Ending → World → Prop} (hr : (execOp a.eval o).run Try.prog w = .ok (.enter g args) w) (hc : Calls Try.prog g args w Post)
    (h : ∀ e w', Post e w' → ∃ v, e = .returned v ∧ ∀ a', Fr N a' (upd f d v) → wpLex Try.prog ops C eff Q rest (k + 1) a' w') : wpLex Try.prog ops C eff Q (o :: rest) k a w := by
  refine ⟨hC, ?_⟩
  rw [if_pos he]
  refine Or.inl ⟨hw, Or.inr ⟨g, args, hr, hc.mono fun e w' hp => ?_⟩⟩
  obtain ⟨v, rfl, h'⟩ := h e w' hp
  exact ⟨v, rfl, by rw [hd]; exact h' _ (hF.put d v hN)⟩
end
end Go.Proofs.Ytdbngkjgaglngaa
