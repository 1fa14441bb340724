import Derived.Deep.Quiet
import Derived.Test.YtfgnlfemckdfnaaBare2
import Derived.Test.YtfgnlfemckdfnaaJoinN
import Derived.Test.YtfgnlfemckdfnaaOne0
namespace Go.Proofs.Ytfgnlfemckdfnaa
/- A region that draws its order: reads that yield the same in every world of a class, beside a chain of operations with an effect, each of which waits for the one ahead of it. -/
section
variable {P : Program} {ops : Array Oper} {md : Region.Mode} {C : World → Prop} {eff : Nat → Bool} {Q : Act → World → Prop}

def Yld (P : Program) (ops : Array Oper) (C : World → Prop) (o : Oper) (v : Value) (a : Act) : Prop :=
  (Region.wanted o (yielded ops a.tmps) = true ∧ ∀ w, C w → (execOp a.eval o).run P w = .ok (.value v) w) ∨ (Region.wanted o (yielded ops a.tmps) = false ∧ v = undef)
def Eff (P : Program) (ops : Array Oper) (o : Oper) (K : Act → World → Prop) (a : Act) (w : World) : Prop :=
  (Region.wanted o (yielded ops a.tmps) = true ∧ ((∃ v w1, (execOp a.eval o).run P w = .ok (.value v) w1 ∧ K (a.put o.dst v) w1) ∨ (∃ f args, (execOp a.eval o).run P w = .ok (.enter f args) w ∧ Calls P f args w fun e w' => ∃ v, e = .returned v ∧ K (a.put o.dst v) w')))
  ∨ (Region.wanted o (yielded ops a.tmps) = false ∧ K (a.put o.dst undef) w)
def mOp (P : Program) (ops : Array Oper) (C : World → Prop) (eff : Nat → Bool) (i : Nat) (K : Act → World → Prop) (a : Act) (w : World) : Prop :=
  ∀ o, ops[i]? = some o → if eff i then Eff P ops o K a w else ∃ v, Yld P ops C o v a ∧ K (a.put o.dst v) w
def wpMix (P : Program) (md : Region.Mode) (ops : Array Oper) (C : World → Prop) (eff : Nat → Bool) (Q : Act → World → Prop) : Nat → Array Bool → Act → World → Prop
  | 0, listed, a, w => C w ∧ Region.ready md ops listed = [] ∧ Q a w
  | fuel + 1, listed, a, w => C w ∧ (Region.ready md ops listed = [] → Q a w) ∧ ∀ i ∈ Region.ready md ops listed, mOp P ops C eff i (wpMix P md ops C eff Q fuel (listed.setIfInBounds i true)) a w

theorem wpMix.cls : ∀ {n : Nat} {listed : Array Bool} {a : Act} {w : World}, wpMix P md ops C eff Q n listed a w → C w
  | 0, _, _, _, h => h.1
  | _ + 1, _, _, _, h => h.1
theorem Eff.some {o : Oper} {K : Act → World → Prop} {a : Act} {w : World} (h : Eff P ops o K a w) : ∃ v w1, K (a.put o.dst v) w1 := by
  rcases h with ⟨_, ⟨v, w1, _, hk⟩ | ⟨f, args, _, hc⟩⟩ | ⟨_, hk⟩
  · exact ⟨v, w1, hk⟩
  · obtain ⟨e, w', _, ⟨v, _, hk⟩, _⟩ := hc []
    exact ⟨v, w', hk⟩
  · exact ⟨undef, w, hk⟩
theorem Eff.turn {o : Oper} {K K' : Act → World → Prop} {a a' : Act} {w : World} (he : execOp a'.eval o = execOp a.eval o) (hw : Region.wanted o (yielded ops a'.tmps) = Region.wanted o (yielded ops a.tmps))
    (hK : ∀ v w1, K (a.put o.dst v) w1 → K' (a'.put o.dst v) w1) (h : Eff P ops o K a w) : Eff P ops o K' a' w := by
  unfold Eff at *
  rw [he, hw]
  rcases h with ⟨h0, ⟨v, w1, h1, hk⟩ | ⟨f, args, h1, hc⟩⟩ | ⟨h0, hk⟩
  · exact Or.inl ⟨h0, Or.inl ⟨v, w1, h1, hK _ _ hk⟩⟩
  · exact Or.inl ⟨h0, Or.inr ⟨f, args, h1, hc.mono fun e w' ⟨v, he, hk⟩ => ⟨v, he, hK _ _ hk⟩⟩⟩
  · exact Or.inr ⟨h0, hK _ _ hk⟩
theorem Yld.turn {o : Oper} {v : Value} {a a' : Act} (he : execOp a'.eval o = execOp a.eval o) (hw : Region.wanted o (yielded ops a'.tmps) = Region.wanted o (yielded ops a.tmps)) (h : Yld P ops C o v a) : Yld P ops C o v a' := by
  unfold Yld at *
  rw [he, hw]
  exact h
theorem Yld.one {o : Oper} {v v' : Value} {a : Act} {w : World} (hC : C w) (h : Yld P ops C o v a) (h' : Yld P ops C o v' a) : v' = v := by
  rcases h with ⟨h0, h1⟩ | ⟨h0, h1⟩ <;> rcases h' with ⟨k0, k1⟩ | ⟨k0, k1⟩
  · have := (h1 w hC).symm.trans (k1 w hC)
    cases this
    rfl
  · rw [h0] at k0; cases k0
  · rw [h0] at k0; cases k0
  · rw [h1, k1]

/-- It is a wpAny. -/
theorem wpAny_of_mix {Q' : Exit → Act → World → Prop} (hQ : ∀ a w, Q a w → Q' .normal a w) : ∀ (n : Nat) (listed : Array Bool) (a : Act) (w : World), wpMix P md ops C eff Q n listed a w → wpAny P md ops Q' n listed a w
  | 0, _, _, _, h => ⟨h.2.1, hQ _ _ h.2.2⟩
  | n + 1, listed, a, w, h => by
    refine ⟨fun h0 => hQ _ _ (h.2.1 h0), fun i hi => ?_⟩
    have h1 := h.2.2 i hi
    obtain ⟨_, o, ho, _⟩ := mem_ready.1 hi
    have h2 := h1 o ho
    unfold wpOp
    simp only [ho]
    by_cases he : eff i = true
    · rw [if_pos he] at h2
      rcases h2 with ⟨h0, ⟨v, w1, hr, hk⟩ | ⟨f, args, hr, hc⟩⟩ | ⟨h0, hk⟩
      · rw [if_pos h0]
        refine Or.inl ?_
        unfold Oper.wp
        rw [hr]
        exact wpAny_of_mix hQ n _ _ _ hk
      · rw [if_pos h0]
        refine Or.inl ?_
        unfold Oper.wp
        rw [hr]
        exact hc.mono fun e w' ⟨v, he, hk⟩ => by subst he; exact wpAny_of_mix hQ n _ _ _ hk
      · rw [if_neg (by rw [h0]; simp)]
        exact wpAny_of_mix hQ n _ _ _ hk
    · rw [if_neg he] at h2
      obtain ⟨v, hy, hk⟩ := h2
      rcases hy with ⟨h0, hr⟩ | ⟨h0, rfl⟩
      · rw [if_pos h0]
        refine Or.inl ?_
        unfold Oper.wp
        rw [hr w h.1]
        exact wpAny_of_mix hQ n _ _ _ hk
      · rw [if_neg (by rw [h0]; simp)]
        exact wpAny_of_mix hQ n _ _ _ hk
theorem notOn {i : Nat} {oj : Oper} {listed : Array Bool} (hr : i ∈ Region.ready md ops listed) (hall : ∀ e ∈ oj.after, Region.binds md e = true → listed.getD e.on false = true) : ∀ e ∈ oj.after, Region.binds md e = true → e.on ≠ i := fun e he hb heq => by
  have h1 := hall e he hb
  have h0 := (mem_ready.1 hr).1
  rw [heq] at h1
  rcases Nat.lt_or_ge i listed.size with h' | h'
  · simp [h'] at h0 h1; rw [h0] at h1; cases h1
  · simp [Array.getElem?_eq_none h'] at h1
theorem mix_read {i : Nat} {oi : Oper} {v : Value} (hi : ops[i]? = some oi) (he : eff i = false) (hsel : ∀ (j : Nat) (o : Oper) cs b, ops[j]? = some o → o.op ≠ .select cs b) :
    ∀ (n : Nat) (listed : Array Bool) (a : Act) (w : World),
      (∀ j oj, ops[j]? = some oj → j ≠ i → listed.getD j true = false → (∀ e ∈ oj.after, Region.binds md e = true → e.on ≠ i) → oi.apart ops oj = true) →
      i ∈ Region.ready md ops listed → Yld P ops C oi v a → wpMix P md ops C eff Q n (listed.setIfInBounds i true) (a.put oi.dst v) w → wpMix P md ops C eff Q (n + 1) listed a w := by
  intro n
  induction n with
  | zero =>
    intro listed a w _ hr hy H
    refine ⟨H.1, fun h => (by rw [h] at hr; cases hr), fun j hj => ?_⟩
    by_cases hji : j = i
    · subst hji
      intro o ho
      rw [hi] at ho
      cases ho
      rw [if_neg (by rw [he]; simp)]
      exact ⟨v, hy, H⟩
    · have := ready_mono hj hji
      rw [H.2.1] at this
      cases this
  | succ n ih =>
    intro listed a w hfree hr hy H
    refine ⟨H.1, fun h => (by rw [h] at hr; cases hr), fun j hj => ?_⟩
    by_cases hji : j = i
    · subst hji
      intro o ho
      rw [hi] at ho
      cases ho
      rw [if_neg (by rw [he]; simp)]
      exact ⟨v, hy, H⟩
    · obtain ⟨hjun, oj, hoj, hall⟩ := mem_ready.1 hj
      have h1 := H.2.2 j (ready_mono hj hji) oj hoj
      obtain ⟨p1, p2, p3⟩ := Oper.apart_spec (hfree j oj hoj hji hjun (notOn hr hall))
      have hfree' : ∀ k ok, ops[k]? = some ok → k ≠ i → (listed.setIfInBounds j true).getD k true = false → (∀ e ∈ ok.after, Region.binds md e = true → e.on ≠ i) → oi.apart ops ok = true := fun k ok hk hki hun hno => by
        refine hfree k ok hk hki ?_ hno
        by_cases hjk : j = k
        · subst hjk; exact hjun
        · rw [getD_set_ne true hjk] at hun; exact hun
      have go : ∀ u w1, wpMix P md ops C eff Q n ((listed.setIfInBounds i true).setIfInBounds j true) ((a.put oi.dst v).put oj.dst u) w1 → wpMix P md ops C eff Q (n + 1) (listed.setIfInBounds j true) (a.put oj.dst u) w1 := fun u w1 hk => by
        refine ih (listed.setIfInBounds j true) (a.put oj.dst u) w1 hfree' (ready_mono hr (Ne.symm hji)) (hy.turn (execOp_put oi (fun cs b => hsel i oi cs b hi) a oj.dst u p3) (wanted_put oi a oj.dst u p3)) ?_
        rw [Array.setIfInBounds_comm _ _ hji, ← Act.put_comm a v u p2]
        exact hk
      intro o ho
      rw [hoj] at ho
      cases ho
      have e1 := execOp_put oj (fun cs b => hsel j oj cs b hoj) a oi.dst v p1
      have e2 := wanted_put oj a oi.dst v p1
      by_cases hej : eff j = true
      · rw [if_pos hej] at h1 ⊢
        exact Eff.turn e1.symm e2.symm go h1
      · rw [if_neg hej] at h1 ⊢
        obtain ⟨u, hu, hk⟩ := h1
        exact ⟨u, hu.turn e1.symm e2.symm, go u w hk⟩
theorem mix_eff {i : Nat} {oi : Oper} (hi : ops[i]? = some oi) (he : eff i = true) (hsel : ∀ (j : Nat) (o : Oper) cs b, ops[j]? = some o → o.op ≠ .select cs b) :
    ∀ (n : Nat) (listed : Array Bool) (a : Act) (w : World), C w →
      (∀ j oj, ops[j]? = some oj → j ≠ i → listed.getD j true = false → (∀ e ∈ oj.after, Region.binds md e = true → e.on ≠ i) → oi.apart ops oj = true) →
      (∀ j oj, ops[j]? = some oj → j ≠ i → eff j = true → listed.getD j true = false → ∃ e ∈ oj.after, Region.binds md e = true ∧ eff e.on = true ∧ listed.getD e.on false = false) →
      i ∈ Region.ready md ops listed → Eff P ops oi (wpMix P md ops C eff Q n (listed.setIfInBounds i true)) a w → wpMix P md ops C eff Q (n + 1) listed a w := by
  intro n
  induction n with
  | zero =>
    intro listed a w hC _ _ hr H
    refine ⟨hC, fun h => (by rw [h] at hr; cases hr), fun j hj => ?_⟩
    by_cases hji : j = i
    · subst hji
      intro o ho
      rw [hi] at ho
      cases ho
      rw [if_pos he]
      exact H
    · obtain ⟨v, w1, hk⟩ := H.some
      have := ready_mono hj hji
      rw [hk.2.1] at this
      cases this
  | succ n ih =>
    intro listed a w hC hfree hdep hr H
    refine ⟨hC, fun h => (by rw [h] at hr; cases hr), fun j hj => ?_⟩
    by_cases hji : j = i
    · subst hji
      intro o ho
      rw [hi] at ho
      cases ho
      rw [if_pos he]
      exact H
    · obtain ⟨hjun, oj, hoj, hall⟩ := mem_ready.1 hj
      obtain ⟨p1, p2, p3⟩ := Oper.apart_spec (hfree j oj hoj hji hjun (notOn hr hall))
      have hej : eff j = false := by
        cases hej : eff j with
        | false => rfl
        | true =>
          obtain ⟨e, hea, hb, _, hl⟩ := hdep j oj hoj hji hej hjun
          rw [hall e hea hb] at hl
          cases hl
      intro o ho
      rw [hoj] at ho
      cases ho
      rw [if_neg (by rw [hej]; simp)]
      obtain ⟨u, w1, hk⟩ := H.some
      have h1 := hk.2.2 j (ready_mono hj hji) oj hoj
      rw [if_neg (by rw [hej]; simp)] at h1
      obtain ⟨v, hy, _⟩ := h1
      have f1 := fun u => execOp_put oj (fun cs b => hsel j oj cs b hoj) a oi.dst u p1
      have f2 := fun u => wanted_put oj a oi.dst u p1
      have hya : Yld P ops C oj v a := hy.turn (f1 u).symm (f2 u).symm
      refine ⟨v, hya, ?_⟩
      refine ih (listed.setIfInBounds j true) (a.put oj.dst v) w hC ?_ ?_ (ready_mono hr (Ne.symm hji)) ?_
      · intro k ok hk hki hun hno
        refine hfree k ok hk hki ?_ hno
        by_cases hjk : j = k
        · subst hjk; exact hjun
        · rw [getD_set_ne true hjk] at hun; exact hun
      · intro k ok hk hki hek hun
        have hjk : j ≠ k := by intro e; subst e; rw [hej] at hek; cases hek
        rw [getD_set_ne true hjk] at hun
        obtain ⟨e, hea, hb, hee, hl⟩ := hdep k ok hk hki hek hun
        refine ⟨e, hea, hb, hee, ?_⟩
        have : j ≠ e.on := by intro h; rw [← h, hej] at hee; cases hee
        rw [getD_set_ne false this]
        exact hl
      · refine Eff.turn (execOp_put oi (fun cs b => hsel i oi cs b hi) a oj.dst v p3) (wanted_put oi a oj.dst v p3) (fun u' w' hk' => ?_) H
        have h2 := hk'.2.2 j (ready_mono hj hji) oj hoj
        rw [if_neg (by rw [hej]; simp)] at h2
        obtain ⟨v', hy', hk2⟩ := h2
        have hv : v' = v := Yld.one hk'.1 hya (hy'.turn (f1 u').symm (f2 u').symm)
        subst hv
        rw [Array.setIfInBounds_comm _ _ hji, ← Act.put_comm a u' v' p2]
        exact hk2
/-- The walk in the text's order. -/
def wpLex (P : Program) (ops : Array Oper) (C : World → Prop) (eff : Nat → Bool) (Q : Act → World → Prop) : List Oper → Nat → Act → World → Prop
  | [], _, a, w => C w ∧ Q a w
  | o :: rest, k, a, w => C w ∧ if eff k then Eff P ops o (wpLex P ops C eff Q rest (k + 1)) a w else ∃ v, Yld P ops C o v a ∧ wpLex P ops C eff Q rest (k + 1) (a.put o.dst v) w
/-- Each effect that has not come up, but for the first, waits for another one. -/
def chained (md : Region.Mode) (ops : Array Oper) (eff : Nat → Bool) (listed : Array Bool) (k : Nat) : Bool :=
  (List.range ops.size).all fun j => j == k || !eff j || listed.getD j true || match ops[j]? with
    | some oj => oj.after.any (fun e => Region.binds md e && (eff e.on && !listed.getD e.on false))
    | none => true
def mixFrom (md : Region.Mode) (ops : Array Oper) (eff : Nat → Bool) : Nat → Nat → Array Bool → Bool
  | 0, _, listed => (Region.ready md ops listed).isEmpty
  | fuel + 1, k, listed => (Region.ready md ops listed).contains k && (Region.free md ops listed k && ((!eff k || chained md ops eff listed k) && mixFrom md ops eff fuel (k + 1) (listed.setIfInBounds k true)))
theorem chained_spec {listed : Array Bool} {k : Nat} (h : chained md ops eff listed k = true) (j : Nat) (oj : Oper) (hj : ops[j]? = some oj) (hne : j ≠ k) (he : eff j = true) (hun : listed.getD j true = false) :
    ∃ e ∈ oj.after, Region.binds md e = true ∧ eff e.on = true ∧ listed.getD e.on false = false := by
  simp only [chained, List.all_eq_true, List.mem_range] at h
  have h1 := h j (Array.getElem?_eq_some_iff.1 hj).1
  simp only [hj, Bool.or_eq_true, beq_iff_eq, hne, false_or, he, hun, Bool.not_true, Bool.false_eq_true] at h1
  rw [← Array.any_toList, List.any_eq_true] at h1
  obtain ⟨e, hea, hb⟩ := h1
  simp only [Bool.and_eq_true, Bool.not_eq_true'] at hb
  exact ⟨e, by simpa using hea, hb.1, hb.2.1, hb.2.2⟩
theorem mix_lex (hs : Region.noSelect ops = true) : ∀ (l : List Oper) (k : Nat) (listed : Array Bool) (a : Act) (w : World), (∀ j, l[j]? = ops[k + j]?) → mixFrom md ops eff l.length k listed = true → wpLex P ops C eff Q l k a w → wpMix P md ops C eff Q l.length listed a w
  | [], _, _, _, _, _, hB, h => ⟨h.1, by simpa [mixFrom] using hB, h.2⟩
  | o :: l, k, listed, a, w, hl, hB, h => by
    have h0 : ops[k]? = some o := by simpa using (hl 0).symm
    simp only [List.length_cons, mixFrom, Bool.and_eq_true] at hB
    obtain ⟨hr, hf, hc, hB'⟩ := hB
    have hl' : ∀ j, l[j]? = ops[k + 1 + j]? := fun j => by have := hl (j + 1); simpa [Nat.add_assoc, Nat.add_comm 1 j] using this
    obtain ⟨hC, h2⟩ := h
    by_cases he : eff k = true
    · rw [if_pos he] at h2
      rw [he] at hc
      refine mix_eff h0 he (Region.noSelect_spec hs) l.length listed a w hC (Region.free_spec h0 hf) (chained_spec (by simpa using hc)) (by simpa using hr) ?_
      exact Eff.turn rfl rfl (fun v w1 hk => mix_lex hs l (k + 1) _ _ _ hl' hB' hk) h2
    · rw [if_neg he] at h2
      obtain ⟨v, hy, hk⟩ := h2
      exact mix_read h0 (by simpa using he) (Region.noSelect_spec hs) l.length listed a w (Region.free_spec h0 hf) (by simpa using hr) hy (mix_lex hs l (k + 1) _ _ _ hl' hB' hk)
/-- ONE walk in the text's order serves every order. -/
theorem wp_region_mix {id : Nat} {Q' : Exit → Act → World → Prop} {a : Act} {w : World} (C : World → Prop) (eff : Nat → Bool) (hm : P.follows .mixedOrders = true) (hs : Region.noSelect ops = true) (hB : mixFrom .any ops eff ops.size 0 (Array.replicate ops.size false) = true)
    (h : wpLex P ops C eff (fun a w => Q' .normal a w) ops.toList 0 a { w with drawn := w.drawn + 1 }) : (Code.region id ops true).wp P Q' a w := by
  refine wp_region_any hm (wpAny_of_mix (C := C) (eff := eff) (Q := fun a w => Q' .normal a w) (fun _ _ h => h) _ _ _ _ ?_)
  have := mix_lex (md := .any) hs ops.toList 0 (Array.replicate ops.size false) a _ (by simp) (by simpa using hB) h
  simpa using this
end
end Go.Proofs.Ytfgnlfemckdfnaa
namespace Go.Proofs.Ytfgnlfemckdfnaa
open Go.RowKit Go.PlainAid
section
variable {ops : Array Oper} {C : World → Prop} {eff : Nat → Bool} {Q : Act → World → Prop} {a : Act} {w w1 : World} {rest : List Oper} {o : Oper} {f : Nat → Value} {N d k : Nat}
/-- A read. -/
theorem ly (hF : Fr N a f) (he : eff k = false) (hC : C w) (hd : o.dst = some d) (hN : d < N) (hw : Region.wanted o (yielded ops a.tmps) = true) {v : Value} (hr : ∀ w, C w → (execOp a.eval o).run Try.prog w = .ok (.value v) w)
    (h : ∀ a', Fr N a' (upd f d v) → wpLex Try.prog ops C eff Q rest (k + 1) a' w) : wpLex Try.prog ops C eff Q (o :: rest) k a w := by
  refine ⟨hC, ?_⟩
  rw [if_neg (by rw [he]; simp)]
  exact ⟨v, Or.inl ⟨hw, hr⟩, by rw [hd]; exact h _ (hF.put d v hN)⟩
/-- One that is passed over. -/
theorem ln (hF : Fr N a f) (he : eff k = false) (hC : C w) (hd : o.dst = some d) (hN : d < N) (hw : Region.wanted o (yielded ops a.tmps) = false)
    (h : ∀ a', Fr N a' (upd f d undef) → wpLex Try.prog ops C eff Q rest (k + 1) a' w) : wpLex Try.prog ops C eff Q (o :: rest) k a w := by
  refine ⟨hC, ?_⟩
  rw [if_neg (by rw [he]; simp)]
  exact ⟨undef, Or.inr ⟨hw, rfl⟩, by rw [hd]; exact h _ (hF.put d undef hN)⟩
/-- An effect that is no call. -/
theorem le (hF : Fr N a f) (he : eff k = true) (hC : C w) (hd : o.dst = some d) (hN : d < N) (hw : Region.wanted o (yielded ops a.tmps) = true) {v : Value} (hr : (execOp a.eval o).run Try.prog w = .ok (.value v) w1)
    (h : ∀ a', Fr N a' (upd f d v) → wpLex Try.prog ops C eff Q rest (k + 1) a' w1) : wpLex Try.prog ops C eff Q (o :: rest) k a w := by
  refine ⟨hC, ?_⟩
  rw [if_pos he]
  exact Or.inl ⟨hw, Or.inl ⟨v, w1, hr, by rw [hd]; exact h _ (hF.put d v hN)⟩⟩
/-- A call. -/
theorem lc (hF : Fr N a f) (he : eff k = true) (hC : C w) (hd : o.dst = some d) (hN : d < N) (hw : Region.wanted o (yielded ops a.tmps) = true) {g : Nat} {args : Array Value} {Post : Ending → World → Prop} (hr : (execOp a.eval o).run Try.prog w = .ok (.enter g args) w) (hc : Calls Try.prog g args w Post)
    (h : ∀ e w', Post e w' → ∃ v, e = .returned v ∧ ∀ a', Fr N a' (upd f d v) → wpLex Try.prog ops C eff Q rest (k + 1) a' w') : wpLex Try.prog ops C eff Q (o :: rest) k a w := by
  refine ⟨hC, ?_⟩
  rw [if_pos he]
  refine Or.inl ⟨hw, Or.inr ⟨g, args, hr, hc.mono fun e w' hp => ?_⟩⟩
  obtain ⟨v, rfl, h'⟩ := h e w' hp
  exact ⟨v, rfl, by rw [hd]; exact h' _ (hF.put d v hN)⟩
end
end Go.Proofs.Ytfgnlfemckdfnaa
namespace Go.Proofs.Ytfgnlfemckdfnaa
open Go.RowKit Go.PlainAid
set_option linter.unusedSimpArgs false
set_option linter.unusedVariables false

theorem withFrL {ops : Array Oper} {C : World → Prop} {eff : Nat → Bool} {Q : Act → World → Prop} {l : List Oper} {k : Nat} {t : Array Value} {w : World} {N : Nat} (ht : t.size = N) (h : ∀ a f, Fr N a f → (∀ j, f j = t.getD j undef) → wpLex Try.prog ops C eff Q l k a w) : wpLex Try.prog ops C eff Q l k { tmps := t, defers := [] } w :=
  h _ _ (Fr.ofLit t ht) fun _ => rfl
def CS (w : World) (D : Array Value) (wr : World) : Prop := Below w.heap.size w wr ∧ Blk wr w.heap.size D 46
theorem seg_bytes {s : Seg} (h : segRight s = true) : ∃ a b c d : Nat, s.src = (a : Nat) ∧ s.dst = (b : Nat) ∧ s.seq = (c : Nat) ∧ s.ack = (d : Nat) ∧ a < 9223372036854775808 ∧ b < 9223372036854775808 ∧ c < 9223372036854775808 ∧ d < 9223372036854775808 ∧ s.data.length ≤ 4000 ∧ segment.wr s = some (plainW [a, b, c, d, s.data.length] ++ s.data) := by
  have h' := h
  simp only [segRight, inB, Bool.and_eq_true, decide_eq_true_eq] at h'
  obtain ⟨⟨⟨⟨⟨h1, h2⟩, h3, h4⟩, h5, h6⟩, h7, h8⟩, h9, h10⟩ := h'
  refine ⟨s.src.toNat, s.dst.toNat, s.seq.toNat, s.ack.toNat, by omega, by omega, by omega, by omega, by omega, by omega, by omega, by omega, by omega, ?_⟩
  have hs := segRight_is s
  rw [h] at hs
  obtain ⟨bs, hbs⟩ := Option.isSome_iff_exists.1 hs
  rw [hbs]
  have e : segment.wr s = join ((num 0 15).wr s.src) (join ((num 0 15).wr s.dst) (join ((num 0 maxN).wr s.seq) (join ((num 0 maxN).wr s.ack) ((dataC s.seq).wr s.data)))) := rfl
  rw [hbs, dataC_wr] at e
  have hn : ∀ (lo hi : Nat) (x : Int) (p : List UInt8), (num lo hi).wr x = some p → p = put x.toNat := fun lo hi x p hp => by
    simp only [num] at hp
    split at hp
    · exact (Option.some.inj hp).symm
    · cases hp
  have hj : ∀ {a b : Option (List UInt8)} {c : List UInt8}, some c = join a b → ∃ p q, a = some p ∧ b = some q ∧ c = p ++ q := fun {a b c} h => by
    cases a with
    | none => cases h
    | some p =>
      cases b with
      | none => cases h
      | some q => cases h; exact ⟨p, q, rfl, rfl, rfl⟩
  obtain ⟨p1, q1, e1, k1, rfl⟩ := hj e
  obtain ⟨p2, q2, e2, k2, rfl⟩ := hj k1.symm
  obtain ⟨p3, q3, e3, k3, rfl⟩ := hj k2.symm
  obtain ⟨p4, q4, e4, k4, rfl⟩ := hj k3.symm
  obtain ⟨p5, q5, e5, k5, rfl⟩ := hj k4.symm
  cases k5
  rw [hn _ _ _ _ e1, hn _ _ _ _ e2, hn _ _ _ _ e3, hn _ _ _ _ e4, hn _ _ _ _ e5]
  simp [plainW]
theorem done23 {G : Prop} {N : Nat} {a : Act} {f : Nat → Value} {v2 v3 : Value} (hF : Fr N a f) (k2 : f 2 = v2) (k3 : f 3 = v3) (h : ∀ f', Fr N a f' → f' 2 = v2 → f' 3 = v3 → G) : G := h f hF k2 k3
theorem plain_cells (W : World) (cs : Array Value) (xs : List Nat) (h : cs.toList = xs.map fun x => Value.int .i64 ((x : Nat) : Int)) : ∀ i x, xs[i]? = some x → (W.alloc (.cells cs 3)).cell? ⟨W.heap.size, 0 + i, none⟩ = some (.int .i64 ((x : Nat) : Int)) := by
  intro i x hx
  rw [Nat.zero_add, cell_of_row _ _ _ _ _ _ (heap_alloc_new W _), ← Array.getElem?_toList, h, List.getElem?_map, hx]
  rfl
theorem append_any {w : World} {D : Array Value} {w2 : World} {v : Value} {out ps : List UInt8} {ao : Option Addr} {n c : Nat} (hC : CS w D w2) (hown : w2.ownsRow w.heap.size 5 1 v out.length (out.map B)) (hn : ps.length = n) (hnil : ao = none → n = 0 ∧ c = 0) (hf : From w ao ps) (hsb : ∀ b o, ao = some ⟨b, o, none⟩ → b < w.heap.size) (hl : n ≤ 4000) (hl4 : out.length ≤ 1000) (hne : v.ownBlock ≠ some w.heap.size) :
    ∃ v3 w3, (Builtin.append_ #[22, 22] 22 #[v, .slice ao n c]).run Try.prog w2 = .ok v3 w3 ∧ w3.ownsRow w.heap.size 5 1 v3 (out ++ ps).length ((out ++ ps).map B) ∧ CS w D w3 := by
  obtain ⟨i0, hi, hz0, hz1, hz2⟩ := info_parts Try.info5
  have hsz := hC.1.size
  cases ao with
  | none =>
    obtain ⟨rfl, rfl⟩ := hnil rfl
    obtain rfl : ps = [] := List.eq_nil_of_length_eq_zero hn
    refine ⟨v, w2, ?_, by simpa using hown, hC⟩
    rcases hown.2 with ⟨rfl, _⟩ | ⟨g, cap, cur, rfl, _, _, hcap, _⟩
    · simp [Builtin.append_, run_underlying Try.underlying22, sizeOf, typeInfo, hi, Builtin.lenOf, Builtin.firstCells, loadCells, loadCellsFrom]
    · simp [Builtin.append_, run_underlying Try.underlying22, sizeOf, typeInfo, hi, Builtin.lenOf, Builtin.firstCells, loadCells, loadCellsFrom, hcap]
      simp [storeCells]
  | some ad =>
    have hf2 : From w2 (some ad) ps := hf.keep fun b o e => hC.1.block b (hsb b o e)
    obtain ⟨v3, w3, hr, h1, h2, _⟩ := run_append_own (P := Try.prog) w2 w.heap.size 22 22 5 i0 _ 1 1 Try.underlying22 hi hz0 hz1 hz2 rfl (by decide) v out.length (out.map B) hown ad n c (ps.map B) (by simp [hn]) (news_of hf2) (oneCells ps) (by unfold maxLen; have := hl4; omega) (by have := hl4; omega) hsz
    rw [← List.map_append] at h1
    refine ⟨v3, w3, hr, by rw [List.length_append, hn]; exact h1, hC.1.grown h2 hsz (fun j e => (hown.lt j e).1), ?_⟩
    exact (h2.block _ hC.2.lt (fun e => hne e.symm)).trans hC.2
set_option maxRecDepth 100000 in
set_option maxHeartbeats 1600000 in
theorem rencSeg_any (s : Seg) (ao : Option Addr) (cc : Nat) (w : World) (hnil : ao = none → s.data.length = 0 ∧ cc = 0) (hf : From w ao s.data) (hsb : ∀ b o, ao = some ⟨b, o, none⟩ → b < w.heap.size) :
    Calls Try.prog 56 #[.agg (segCells s.src s.dst s.seq s.ack (.slice ao s.data.length cc))] w (EncPost (segment.wr s) w) := by
  have hri := rright_any s ao cc
  cases hR : segRight s
  · rw [hR] at hri
    have hwr : segment.wr s = none := by
      have := segRight_is s
      rw [hR] at this
      exact Option.not_isSome_iff_eq_none.1 (by rw [this]; simp)
    rw [hwr]
    generalize hD : segCells s.src s.dst s.seq s.ack (.slice ao s.data.length cc) = D at *
    have hsz : D.size = 5 := by rw [← hD]; rfl
    have hi46 : (Try.prog.info? 46).map (·.size) = some D.size := by rw [hsz]; kernel_rfl
    clear hD hwr hR
    have hB0 : Blk (w.alloc (.cells D 46)) w.heap.size D 46 := heap_alloc_new w _
    have hb0 : Below w.heap.size w (w.alloc (.cells D 46)) := by go_grown
    have HRI : Hid _ := hri
    clear hri
    go_enter Try.func56, Try.ntmps56
    go_wp2_with (first | (refine wpList_load_row rfl 46 (.tmp 1) rfl w.heap.size rfl 46 D (0, 0) _ hB0 Try.underlying46 rfl hi46 ?_) | (go_at_call 64; refine Calls.mono (HRI.out _) ?_; rintro e5 W0 ⟨rfl, hb5⟩) | fail)
    go_ret2
    exact ⟨hb0.trans (hb5.mono hb0.size), rfl⟩
  · rw [hR] at hri
    obtain ⟨na, nb, nc, nd, e1, e2, e3, e4, r1, r2, r3, r4, hd, hwr⟩ := seg_bytes hR
    rw [hwr]
    generalize hnn : s.data.length = nn at *
    have hrange : ∀ x ∈ [na, nb, nc, nd, nn], x < 9223372036854775808 := by intro x hx; simp at hx; omega
    generalize hD : segCells s.src s.dst s.seq s.ack (.slice ao nn cc) = D at *
    rw [e1, e2, e3, e4] at hD
    have HD : Hid _ := hD
    have hsz : D.size = 5 := by rw [← hD]; rfl
    have hi46 : (Try.prog.info? 46).map (·.size) = some D.size := by rw [hsz]; kernel_rfl
    clear hD hwr hR
    have hB0 : Blk (w.alloc (.cells D 46)) w.heap.size D 46 := heap_alloc_new w _
    have hb0 : Below w.heap.size w (w.alloc (.cells D 46)) := by go_grown
    have HRI : Hid _ := hri
    clear hri
    go_enter Try.func56, Try.ntmps56
    go_wp2_with (first | (refine wpList_load_row rfl 46 (.tmp 1) rfl w.heap.size rfl 46 D (0, 0) _ hB0 Try.underlying46 rfl hi46 ?_) | (go_at_call 64; refine Calls.mono (HRI.out _) ?_; rintro e5 W0 ⟨rfl, hb5⟩) | fail)
    have hC0 : CS w D W0 := ⟨hb0.trans (hb5.mono hb0.size), (hb5.block _ hB0.lt).trans hB0⟩
    clear hb5 hb0 hB0
    rename_i K hK
    refine wp_region_mix (CS w D) (fun i => i == 11 || i == 12 || i == 15) (by kernel_rfl) (by kernel_rfl) (by kernel_rfl) ?_
    have hC : CS w D { W0 with drawn := W0.drawn + 1 } := ⟨hC0.1.drew, hC0.2⟩
    clear hC0
    generalize ({ W0 with drawn := W0.drawn + 1 } : World) = W at *
    have hW : w.heap.size < W.heap.size := hC.2.lt
    refine withFrL (N := 23) rfl ?_
    intro a f hF hff
    have h1 : f 1 = .pointer (some ⟨w.heap.size, 0, none⟩) := hff 1
    clear hff
    refine ly hF rfl hC rfl (by omega) (wanted_none rfl) (v := Value.pointer (some ⟨w.heap.size, 0, none⟩)) (fun wr hwr => by simp only [execOp, (hF.eval 1 (by omega)).trans (show _ = Value.pointer (some ⟨w.heap.size, 0, none⟩) from by simp [upd, h1])]; simp [go_sem]) fun a1 F1 => ?_
    refine ly F1 rfl hC rfl (by omega) (wanted_none rfl) (v := Value.int .i64 ((na : Nat) : Int)) (fun wr hwr => by simp only [execOp, (F1.eval 7 (by omega)).trans (show _ = Value.pointer (some ⟨w.heap.size, 0, none⟩) from by simp [upd, h1])]; simp [go_sem, (show wr.cell? ⟨w.heap.size, 0, none⟩ = some (Value.int .i64 ((na : Nat) : Int)) from (hwr.2.cell 0).trans (by rw [← HD.out]; rfl))]) fun a2 F2 => ?_
    refine ly F2 rfl hC rfl (by omega) (wanted_none rfl) (v := Value.pointer (some ⟨w.heap.size, 1, none⟩)) (fun wr hwr => by simp only [execOp, (F2.eval 1 (by omega)).trans (show _ = Value.pointer (some ⟨w.heap.size, 0, none⟩) from by simp [upd, h1])]; simp [go_sem]) fun a3 F3 => ?_
    refine ly F3 rfl hC rfl (by omega) (wanted_none rfl) (v := Value.int .i64 ((nb : Nat) : Int)) (fun wr hwr => by simp only [execOp, (F3.eval 9 (by omega)).trans (show _ = Value.pointer (some ⟨w.heap.size, 1, none⟩) from by simp [upd, h1])]; simp [go_sem, (show wr.cell? ⟨w.heap.size, 1, none⟩ = some (Value.int .i64 ((nb : Nat) : Int)) from (hwr.2.cell 1).trans (by rw [← HD.out]; rfl))]) fun a4 F4 => ?_
    refine ly F4 rfl hC rfl (by omega) (wanted_none rfl) (v := Value.pointer (some ⟨w.heap.size, 2, none⟩)) (fun wr hwr => by simp only [execOp, (F4.eval 1 (by omega)).trans (show _ = Value.pointer (some ⟨w.heap.size, 0, none⟩) from by simp [upd, h1])]; simp [go_sem]) fun a5 F5 => ?_
    refine ly F5 rfl hC rfl (by omega) (wanted_none rfl) (v := Value.int .i64 ((nc : Nat) : Int)) (fun wr hwr => by simp only [execOp, (F5.eval 11 (by omega)).trans (show _ = Value.pointer (some ⟨w.heap.size, 2, none⟩) from by simp [upd, h1])]; simp [go_sem, (show wr.cell? ⟨w.heap.size, 2, none⟩ = some (Value.int .i64 ((nc : Nat) : Int)) from (hwr.2.cell 2).trans (by rw [← HD.out]; rfl))]) fun a6 F6 => ?_
    refine ly F6 rfl hC rfl (by omega) (wanted_none rfl) (v := Value.pointer (some ⟨w.heap.size, 3, none⟩)) (fun wr hwr => by simp only [execOp, (F6.eval 1 (by omega)).trans (show _ = Value.pointer (some ⟨w.heap.size, 0, none⟩) from by simp [upd, h1])]; simp [go_sem]) fun a7 F7 => ?_
    refine ly F7 rfl hC rfl (by omega) (wanted_none rfl) (v := Value.int .i64 ((nd : Nat) : Int)) (fun wr hwr => by simp only [execOp, (F7.eval 13 (by omega)).trans (show _ = Value.pointer (some ⟨w.heap.size, 3, none⟩) from by simp [upd, h1])]; simp [go_sem, (show wr.cell? ⟨w.heap.size, 3, none⟩ = some (Value.int .i64 ((nd : Nat) : Int)) from (hwr.2.cell 3).trans (by rw [← HD.out]; rfl))]) fun a8 F8 => ?_
    refine ly F8 rfl hC rfl (by omega) (wanted_none rfl) (v := Value.pointer (some ⟨w.heap.size, 4, none⟩)) (fun wr hwr => by simp only [execOp, (F8.eval 1 (by omega)).trans (show _ = Value.pointer (some ⟨w.heap.size, 0, none⟩) from by simp [upd, h1])]; simp [go_sem]) fun a9 F9 => ?_
    refine ly F9 rfl hC rfl (by omega) (wanted_none rfl) (v := Value.slice ao nn cc) (fun wr hwr => by simp only [execOp, (F9.eval 15 (by omega)).trans (show _ = Value.pointer (some ⟨w.heap.size, 4, none⟩) from by simp [upd, h1])]; simp [go_sem, (show wr.cell? ⟨w.heap.size, 4, none⟩ = some (Value.slice ao nn cc) from (hwr.2.cell 4).trans (by rw [← HD.out]; rfl))]) fun a10 F10 => ?_
    refine ly F10 rfl hC rfl (by omega) (wanted_none rfl) (v := Value.int .i64 ((nn : Nat) : Int)) (fun wr hwr => by simp only [execOp, resolve, List.map_toArray, List.map_cons, List.map_nil, (F10.eval 16 (by omega)).trans (show _ = Value.slice ao nn cc from by simp [upd, h1])]; simp [go_sem]) fun a11 F11 => ?_
    refine le F11 rfl hC rfl (by omega) (wanted_none rfl) (v := Value.slice (some ⟨W.heap.size, 0, none⟩) 5 5) (w1 := W.alloc (.cells #[.int .i64 ((na : Nat) : Int), .int .i64 ((nb : Nat) : Int), .int .i64 ((nc : Nat) : Int), .int .i64 ((nd : Nat) : Int), .int .i64 ((nn : Nat) : Int)] 3)) (by simp only [execOp, List.map_toArray, List.map_cons, List.map_nil, (F11.eval 8 (by omega)).trans (show _ = Value.int .i64 ((na : Nat) : Int) from by simp [upd, h1]), (F11.eval 10 (by omega)).trans (show _ = Value.int .i64 ((nb : Nat) : Int) from by simp [upd, h1]), (F11.eval 12 (by omega)).trans (show _ = Value.int .i64 ((nc : Nat) : Int) from by simp [upd, h1]), (F11.eval 14 (by omega)).trans (show _ = Value.int .i64 ((nd : Nat) : Int) from by simp [upd, h1]), (F11.eval 17 (by omega)).trans (show _ = Value.int .i64 ((nn : Nat) : Int) from by simp [upd, h1])]; simp [go_sem]) fun a12 F12 => ?_
    have hC1 : CS w D (W.alloc (.cells #[.int .i64 ((na : Nat) : Int), .int .i64 ((nb : Nat) : Int), .int .i64 ((nc : Nat) : Int), .int .i64 ((nd : Nat) : Int), .int .i64 ((nn : Nat) : Int)] 3)) := ⟨hC.1.alloc (by have := hC.1.size; omega) _, (Below.heap_alloc _ _ _ hC.2.lt).trans hC.2⟩
    have hpl := rplain_any w.heap.size (.slice none 0 0) [] (W.alloc (.cells #[.int .i64 ((na : Nat) : Int), .int .i64 ((nb : Nat) : Int), .int .i64 ((nc : Nat) : Int), .int .i64 ((nd : Nat) : Int), .int .i64 ((nn : Nat) : Int)] 3)) (World.ownsRow_nil _ _ _ _) (by have := hC.1.size; simp; omega) W.heap.size 0 5 5 [na, nb, nc, nd, nn] rfl (plain_cells W #[.int .i64 ((na : Nat) : Int), .int .i64 ((nb : Nat) : Int), .int .i64 ((nc : Nat) : Int), .int .i64 ((nd : Nat) : Int), .int .i64 ((nn : Nat) : Int)] [na, nb, nc, nd, nn] rfl) (by simp) (by simp [Value.ownBlock]) hrange (by simp)
    rw [List.nil_append] at hpl
    refine lc F12 rfl hC1 rfl (by omega) (wanted_none rfl) (g := 81) (args := #[.slice none 0 0, Value.slice (some ⟨W.heap.size, 0, none⟩) 5 5]) (by simp only [execOp, resolve, invoke, List.map_toArray, List.map_cons, List.map_nil, (F12.eval 18 (by omega)).trans (show _ = Value.slice (some ⟨W.heap.size, 0, none⟩) 5 5 from by simp [upd, h1])]; simp [go_sem, Act.eval]) hpl ?_
    rintro e2 w2 ⟨v2, rfl, hown2, hG2⟩
    refine ⟨v2, rfl, fun a13 F13 => ?_⟩
    have hb2 := hG2.below (base := W.heap.size + 1) (by intro j h; cases h) (by simp)
    have hC : CS w D w2 := ⟨hC1.1.trans (hb2.mono (by have := hC1.1.size; simp at this ⊢; omega)), (hb2.block _ (by have := hC.2.lt; omega)).trans hC1.2⟩
    refine ly F13 rfl hC rfl (by omega) (wanted_none rfl) (v := Value.pointer (some ⟨w.heap.size, 4, none⟩)) (fun wr hwr => by simp only [execOp, (F13.eval 1 (by omega)).trans (show _ = Value.pointer (some ⟨w.heap.size, 0, none⟩) from by simp [upd, h1])]; simp [go_sem]) fun a14 F14 => ?_
    refine ly F14 rfl hC rfl (by omega) (wanted_none rfl) (v := Value.slice ao nn cc) (fun wr hwr => by simp only [execOp, (F14.eval 20 (by omega)).trans (show _ = Value.pointer (some ⟨w.heap.size, 4, none⟩) from by simp [upd, h1])]; simp [go_sem, (show wr.cell? ⟨w.heap.size, 4, none⟩ = some (Value.slice ao nn cc) from (hwr.2.cell 4).trans (by rw [← HD.out]; rfl))]) fun a15 F15 => ?_
    obtain ⟨v3, w3, hr3, hown3, hC3⟩ := append_any hC hown2 hnn hnil hf hsb (by omega) (by have := plainW_len [na, nb, nc, nd, nn] hrange; simp at this; omega) (by intro h; rcases hG2.at' _ h with h | h; cases h; have := hC.2.lt; have := hC1.2.lt; rw [World.size_alloc] at h; have := hW; omega)
    refine le F15 rfl hC rfl (by omega) (wanted_none rfl) (v := v3) (w1 := w3) (by simp only [execOp, resolve, invoke, builtin, Sem.run_bind, Sem.run_pure, Result.andThen_ok, List.map_toArray, List.map_cons, List.map_nil, (F15.eval 19 (by omega)).trans (show _ = v2 from by simp [upd, h1]), (F15.eval 21 (by omega)).trans (show _ = Value.slice ao nn cc from by simp [upd, h1]), hr3]) fun a16 F16 => ?_
    have hC := hC3
    refine ly F16 rfl hC rfl (by omega) (wanted_none rfl) (v := v3) (fun wr hwr => by simp only [execOp, (F16.eval 22 (by omega)).trans (show _ = v3 from by simp [upd, h1])]; rfl) fun a17 F17 => ?_
    refine ly F17 rfl hC rfl (by omega) (wanted_none rfl) (v := Value.int .i64 0) (fun wr hwr => by simp [execOp, Act.eval]) fun a18 F18 => ?_
    refine ⟨hC, ?_⟩
    refine done23 F18 (show _ = v3 from by simp [upd]) (show _ = Value.int .i64 0 from by simp [upd]) fun f' F' k2 k3 => ?_
    show K _ _
    apply hK
    rw [F'.lit, show ((List.range 23).map f').toArray = #[f' 0, f' 1, f' 2, f' 3, f' 4, f' 5, f' 6, f' 7, f' 8, f' 9, f' 10, f' 11, f' 12, f' 13, f' 14, f' 15, f' 16, f' 17, f' 18, f' 19, f' 20, f' 21, f' 22] from rfl, k2, k3]
    go_wp2
    go_ret2
    exact ⟨hC.1, v3, rfl, hown3⟩
end Go.Proofs.Ytfgnlfemckdfnaa
