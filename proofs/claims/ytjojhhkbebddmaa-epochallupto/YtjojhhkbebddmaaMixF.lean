import Derived.Test.YtjojhhkbebddmaaMix2
namespace Go.Proofs.Ytjojhhkbebddmaa
set_option linter.unusedVariables false
set_option linter.unusedSimpArgs false
/- Long regions that draw their order: what waits for what, as the bits of a number. -/
section
variable {P : Program} {ops : Array Oper} {md : Region.Mode} {C : World → Prop} {eff : Nat → Bool} {Q : Act → World → Prop} {z : Nat}
def DepOn (md : Region.Mode) (ops : Array Oper) (j i : Nat) : Prop := ∀ listed, Closed md ops listed → (listed.getD j false = true ∨ j ∈ Region.ready md ops listed) → i = j ∨ listed.getD i false = true
def dmask (md : Region.Mode) (o : Oper) : Nat := o.after.toList.foldl (fun m e => if Region.binds md e then m ||| 2 ^ e.on else m) 0
theorem dfold (md : Region.Mode) (j : Nat) : ∀ (l : List _) (m : Nat), (l.foldl (fun m (e : Edge) => if Region.binds md e then m ||| 2 ^ e.on else m) m).testBit j = true ↔ m.testBit j = true ∨ ∃ e ∈ l, Region.binds md e = true ∧ e.on = j
  | [], m => by simp
  | e :: l, m => by
    rw [List.foldl_cons, dfold md j l]
    by_cases hb : Region.binds md e = true
    · rw [if_pos hb, Nat.testBit_or, Nat.testBit_two_pow]
      simp only [Bool.or_eq_true, decide_eq_true_eq, List.mem_cons, exists_eq_or_imp]
      constructor
      · rintro ((h | h) | h)
        · exact .inl h
        · exact .inr (.inl ⟨hb, h⟩)
        · exact .inr (.inr h)
      · rintro (h | ⟨_, h⟩ | h)
        · exact .inl (.inl h)
        · exact .inl (.inr h)
        · exact .inr h
    · rw [if_neg hb]
      simp only [List.mem_cons, exists_eq_or_imp]
      constructor
      · rintro (h | h)
        · exact .inl h
        · exact .inr (.inr h)
      · rintro (h | ⟨h, _⟩ | h)
        · exact .inl h
        · exact absurd h hb
        · exact .inr h
theorem dmask_spec (o : Oper) (j : Nat) : (dmask md o).testBit j = true ↔ ∃ e ∈ o.after, Region.binds md e = true ∧ e.on = j := by
  unfold dmask
  rw [dfold]
  simp
def rgo (ds : List Nat) : Nat → Nat → Nat
  | 0, m => m
  | i + 1, m => rgo ds i (if m.testBit i then m ||| ds.getD i 0 else m)
def rmask (ds : List Nat) (z : Nat) : Nat := rgo ds (z + 1) (2 ^ z)
theorem ds_at {ds : List Nat} (hd : ops.toList.map (dmask md) = ds) {i : Nat} {o : Oper} (ho : ops[i]? = some o) : ds.getD i 0 = dmask md o := by
  subst hd
  rw [List.getD_eq_getElem?_getD, List.getElem?_map, Array.getElem?_toList, ho]
  rfl
theorem ds_none {ds : List Nat} (hd : ops.toList.map (dmask md) = ds) {i : Nat} (ho : ops[i]? = none) : ds.getD i 0 = 0 := by
  subst hd
  rw [List.getD_eq_getElem?_getD, List.getElem?_map, Array.getElem?_toList, ho]
  rfl
theorem rgo_sound {ds : List Nat} (hd : ops.toList.map (dmask md) = ds) {listed : Array Bool} (hc : Closed md ops listed) {z : Nat} (hz : listed.getD z false = true ∨ z ∈ Region.ready md ops listed) : ∀ (i m : Nat), (∀ j, m.testBit j = true → j = z ∨ listed.getD j false = true) → ∀ j, (rgo ds i m).testBit j = true → j = z ∨ listed.getD j false = true
  | 0, m, h, j, hj => h j hj
  | i + 1, m, h, j, hj => by
    refine rgo_sound hd hc hz i _ (fun q hq => ?_) j hj
    by_cases hb : m.testBit i = true
    · rw [if_pos hb, Nat.testBit_or, Bool.or_eq_true] at hq
      rcases hq with hq | hq
      · exact h q hq
      · cases ho : ops[i]? with
        | none => rw [ds_none hd ho] at hq; simp at hq
        | some o =>
          rw [ds_at hd ho] at hq
          obtain ⟨e, he, h1, h2⟩ := (dmask_spec o q).1 hq
          refine .inr ?_
          rw [← h2]
          rcases h i hb with h3 | h3
          · subst h3
            rcases hz with hz | hz
            · exact hc.2 i o ho hz e he h1
            · obtain ⟨_, o2, ho2, hall⟩ := mem_ready.1 hz
              rw [ho] at ho2
              cases ho2
              exact hall e he h1
          · exact hc.2 i o ho h3 e he h1
    · rw [if_neg hb] at hq
      exact h q hq
theorem rmask_dep {ds : List Nat} (hd : ops.toList.map (dmask md) = ds) {j i : Nat} (h : (rmask ds j).testBit i = true) : DepOn md ops j i := fun listed hc hj =>
  rgo_sound hd hc hj (j + 1) (2 ^ j) (fun q hq => by
    rw [Nat.testBit_two_pow, decide_eq_true_eq] at hq
    exact .inl hq.symm) i h
theorem lastsF_spec {ds : List Nat} (hd : ops.toList.map (dmask md) = ds) (h : rmask ds z &&& (2 ^ ops.size - 1) = 2 ^ ops.size - 1) : Lasts md ops z := by
  intro listed hc hz j hj
  rcases Nat.lt_or_ge j ops.size with hlt | hlt
  · have h1 : (rmask ds z).testBit j = true := by
      have := congrArg (fun x => x.testBit j) h
      simp only [Nat.testBit_and, Nat.testBit_two_pow_sub_one, hlt, decide_true, Bool.and_true] at this
      exact this
    rcases rmask_dep hd h1 listed hc hz with h2 | h2
    · exact absurd h2 hj
    · have hlt' : j < listed.size := by rw [hc.1]; exact hlt
      simp [hlt'] at h2 ⊢
      exact h2
  · simp [Array.getElem?_eq_none (show listed.size ≤ j by rw [hc.1]; exact hlt)]
theorem mix_effF {i : Nat} {oi : Oper} (hi : ops[i]? = some oi) (he : eff i = true) (hz : Lasts md ops z) (hsel : ∀ (j : Nat) (o : Oper) cs b, ops[j]? = some o → o.op ≠ .select cs b) :
    ∀ (n : Nat) (listed : Array Bool) (a : Act) (w : World), C w → Closed md ops listed →
      (∀ j oj, ops[j]? = some oj → j ≠ i → listed.getD j true = false → (∀ e ∈ oj.after, Region.binds md e = true → e.on ≠ i) → oi.apart ops oj = true) →
      (∀ j oj, ops[j]? = some oj → j ≠ i → eff j = true → listed.getD j true = false → DepOn md ops j i) →
      i ∈ Region.ready md ops listed → Eff P ops oi (wpMix P md ops C eff z Q n (listed.setIfInBounds i true)) a w → wpMix P md ops C eff z Q (n + 1) listed a w := by
  intro n
  induction n with
  | zero =>
    intro listed a w hC _ _ _ hr H
    refine ⟨fun _ => hC, fun h => (by rw [h] at hr; cases hr), fun j hj => ?_⟩
    by_cases hji : j = i
    · subst hji
      intro o ho
      rw [hi] at ho
      cases ho
      rw [if_pos he]
      exact H
    · obtain ⟨v, w1, hk⟩ := H.some
      have := ready_mono hj hji
      rw [hk.2.1] at this
      cases this
  | succ n ih =>
    intro listed a w hC hcl hfree hdep hr H
    refine ⟨fun _ => hC, fun h => (by rw [h] at hr; cases hr), fun j hj => ?_⟩
    by_cases hji : j = i
    · subst hji
      intro o ho
      rw [hi] at ho
      cases ho
      rw [if_pos he]
      exact H
    · obtain ⟨hjun, oj, hoj, hall⟩ := mem_ready.1 hj
      obtain ⟨p1, p2, p3⟩ := Oper.apart_spec (hfree j oj hoj hji hjun (notOn hr hall))
      have hej : eff j = false := by
        cases hej : eff j with
        | false => rfl
        | true =>
          rcases (hdep j oj hoj hji hej hjun) _ hcl (Or.inr hj) with h | h
          · exact absurd h.symm hji
          · rw [getD_false_of_true (mem_ready.1 hr).1] at h
            cases h
      intro o ho
      rw [hoj] at ho
      cases ho
      rw [if_neg (by rw [hej]; simp)]
      obtain ⟨u, w1, hk⟩ := H.some
      have h1 := hk.2.2 j (ready_mono hj hji) oj hoj
      rw [if_neg (by rw [hej]; simp)] at h1
      obtain ⟨v, hy, _⟩ := h1
      have f1 := fun u => execOp_put oj (fun cs b => hsel j oj cs b hoj) a oi.dst u p1
      have f2 := fun u => wanted_put oj a oi.dst u p1
      have hiz : z ≠ i := fun e => by
        subst e
        have := hz listed hcl (Or.inr hr) j hji
        rw [hjun] at this
        cases this
      have hzl : listed.getD z false = false := by
        cases hq : listed.getD z false with
        | false => rfl
        | true =>
          by_cases hjz : j = z
          · subst hjz
            rw [getD_false_of_true hjun] at hq
            cases hq
          · have := hz listed hcl (Or.inl hq) j hjz
            rw [hjun] at this
            cases this
      have hya : Yld P ops C oj v a := hy.turn (f1 u).symm (f2 u).symm
      refine ⟨v, hya, ?_⟩
      refine ih (listed.setIfInBounds j true) (a.put oj.dst v) w hC (hcl.set hj) ?_ ?_ (ready_mono hr (Ne.symm hji)) ?_
      · intro k ok hk hki hun hno
        refine hfree k ok hk hki ?_ hno
        by_cases hjk : j = k
        · subst hjk; exact hjun
        · rw [getD_set_ne true hjk] at hun; exact hun
      · intro k ok hk hki hek hun
        have hjk : j ≠ k := by intro e; subst e; rw [hej] at hek; cases hek
        rw [getD_set_ne true hjk] at hun
        exact hdep k ok hk hki hek hun
      · refine Eff.turn (execOp_put oi (fun cs b => hsel i oi cs b hi) a oj.dst v p3) (wanted_put oi a oj.dst v p3) (fun u' w' hk' => ?_) H
        have h2 := hk'.2.2 j (ready_mono hj hji) oj hoj
        rw [if_neg (by rw [hej]; simp)] at h2
        obtain ⟨v', hy', hk2⟩ := h2
        have hv : v' = v := Yld.one (hk'.1 (by rw [getD_set_ne false (Ne.symm hiz)]; exact hzl)) hya (hy'.turn (f1 u').symm (f2 u').symm)
        subst hv
        rw [Array.setIfInBounds_comm _ _ hji, ← Act.put_comm a u' v' p2]
        exact hk2
def lexF (ops : Array Oper) (eff : Nat → Bool) (ds : List Nat) (n : Nat) : Bool := (List.range n).all fun k =>
  decide (ds.getD k 0 < 2 ^ k) && (((List.range n).all fun j => decide (j ≤ k) || (ds.getD j 0).testBit k || (match ops[k]?, ops[j]? with
    | some x, some y => x.apart ops y
    | _, _ => false)) && (!eff k || (List.range n).all fun j => decide (j ≤ k) || !eff j || (rmask ds j).testBit k))
theorem mix_lexF {ds : List Nat} (hs : Region.noSelect ops = true) (hz : Lasts md ops z) (hze : ∀ k, eff k = false → z ≠ k) (hzn : z < ops.size) (hd : ops.toList.map (dmask md) = ds) (hB : lexF ops eff ds ops.size = true) : ∀ (l : List Oper) (k : Nat) (listed : Array Bool) (a : Act) (w : World), (∀ j, l[j]? = ops[k + j]?) → Closed md ops listed → (∀ j, j < ops.size → listed.getD j true = decide (j < k)) → wpLex P ops C eff z Q l k a w → wpMix P md ops C eff z Q l.length listed a w
  | [], k, listed, a, w, hl, hcl, hk, h => by
    have hall : ∀ j, j < ops.size → listed.getD j true = true := fun j hj => by
      rw [hk j hj, decide_eq_true_eq]
      refine Nat.lt_of_not_le fun hle => ?_
      have h0 := hl (j - k)
      rw [show k + (j - k) = j by omega, Array.getElem?_eq_getElem hj] at h0
      simp at h0
    refine ⟨fun h0 => h.1 (Nat.le_of_not_lt fun hlt => ?_), ?_, h.2⟩
    · have h1 := hall z hzn
      have hsz : z < listed.size := by rw [hcl.1]; exact hzn
      simp [hsz] at h0 h1
      rw [h0] at h1
      cases h1
    · refine List.filter_eq_nil_iff.2 fun j hj => ?_
      rw [hall j (List.mem_range.1 hj)]
      simp
  | o :: l, k, listed, a, w, hl, hcl, hk, h => by
    have h0 : ops[k]? = some o := by simpa using (hl 0).symm
    have hkn : k < ops.size := (Array.getElem?_eq_some_iff.1 h0).1
    have hl' : ∀ j, l[j]? = ops[k + 1 + j]? := fun j => by have := hl (j + 1); simpa [Nat.add_assoc, Nat.add_comm 1 j] using this
    obtain ⟨hC, h2⟩ := h
    have hBk := List.all_eq_true.1 hB k (List.mem_range.2 hkn)
    simp only [Bool.and_eq_true, decide_eq_true_eq] at hBk
    obtain ⟨hr, hf, hc⟩ := hBk
    have hlt : ∀ j, j < k → listed.getD j false = true := fun j hj => by
      have h1 := hk j (by omega)
      have hsz : j < listed.size := by rw [hcl.1]; omega
      simp [hsz, hj] at h1 ⊢
      exact h1
    have hrk : k ∈ Region.ready md ops listed := by
      refine mem_ready.2 ⟨by rw [hk k hkn]; simp, o, h0, fun e he hb => hlt _ ?_⟩
      refine Nat.lt_of_not_le fun hle => ?_
      have h3 : (dmask md o).testBit e.on = true := (dmask_spec o e.on).2 ⟨e, he, hb, rfl⟩
      rw [← ds_at hd h0, Nat.testBit_lt_two_pow (Nat.lt_of_lt_of_le hr (Nat.pow_le_pow_right (by decide) hle))] at h3
      cases h3
    have hfree : ∀ j oj, ops[j]? = some oj → j ≠ k → listed.getD j true = false → (∀ e ∈ oj.after, Region.binds md e = true → e.on ≠ k) → o.apart ops oj = true := fun j oj hj hne hun hno => by
      have hjn : j < ops.size := (Array.getElem?_eq_some_iff.1 hj).1
      have h3 := List.all_eq_true.1 hf j (List.mem_range.2 hjn)
      simp only [Bool.or_eq_true, decide_eq_true_eq, h0, hj] at h3
      rcases h3 with (h3 | h3) | h3
      · rw [hk j hjn, decide_eq_false_iff_not] at hun
        omega
      · rw [ds_at hd hj] at h3
        obtain ⟨e, he, h4, h5⟩ := (dmask_spec oj k).1 h3
        exact absurd h5 (hno e he h4)
      · exact h3
    have hkl : k < listed.size := by rw [hcl.1]; exact hkn
    have hk' : ∀ j, j < ops.size → (listed.setIfInBounds k true).getD j true = decide (j < k + 1) := fun j hj => by
      by_cases hjk : k = j
      · subst hjk; simp [hkl]
      · rw [getD_set_ne true hjk, hk j hj]
        simp only [decide_eq_decide]
        omega
    by_cases he : eff k = true
    · rw [if_pos he] at h2
      refine mix_effF h0 he hz (Region.noSelect_spec hs) l.length listed a w hC hcl hfree (fun j oj hj hne hej hun => ?_) hrk ?_
      · have hjn : j < ops.size := (Array.getElem?_eq_some_iff.1 hj).1
        have h3 := List.all_eq_true.1 ((Bool.or_eq_true _ _).mp hc |>.resolve_left (by rw [he]; simp)) j (List.mem_range.2 hjn)
        simp only [Bool.or_eq_true, decide_eq_true_eq, hej, Bool.not_true, Bool.false_eq_true, or_false] at h3
        rcases h3 with h3 | h3
        · rw [hk j hjn, decide_eq_false_iff_not] at hun
          omega
        · exact rmask_dep hd h3
      · exact Eff.turn rfl rfl (fun v w1 hkk => mix_lexF hs hz hze hzn hd hB l (k + 1) _ _ _ hl' (hcl.set hrk) hk' hkk) h2
    · rw [if_neg he] at h2
      obtain ⟨v, hy, hkk⟩ := h2
      exact mix_read h0 (by simpa using he) (hze k (by simpa using he)) hz (Region.noSelect_spec hs) l.length listed a w hC hcl hfree hrk hy (mix_lexF hs hz hze hzn hd hB l (k + 1) _ _ _ hl' (hcl.set hrk) hk' hkk)
theorem wp_region_mixF {id : Nat} {Q' : Exit → Act → World → Prop} {a : Act} {w : World} (C : World → Prop) (eff : Nat → Bool) (z : Nat) (ds : List Nat) (hd : ops.toList.map (dmask .any) = ds) (hl : rmask ds z &&& (2 ^ ops.size - 1) = 2 ^ ops.size - 1) (hz : eff z = true) (hzn : z < ops.size) (hm : P.follows .mixedOrders = true) (hs : Region.noSelect ops = true) (hB : lexF ops eff ds ops.size = true)
    (h : wpLex P ops C eff z (fun a w => Q' .normal a w) ops.toList 0 a { w with drawn := w.drawn + 1 }) : (Code.region id ops true).wp P Q' a w := by
  have hcl : Closed .any ops (Array.replicate ops.size false) := ⟨by simp, fun j oj hj hl => by
    have := (Array.getElem?_eq_some_iff.1 hj).1
    simp [this] at hl⟩
  have hL := lastsF_spec (md := .any) hd hl
  refine wp_region_any hm (wpAny_of_mix (C := C) (eff := eff) (z := z) (Q := fun a w => Q' .normal a w) (fun _ _ h => h) hL (fun k hk e => by subst e; rw [hz] at hk; cases hk) _ _ _ _ hcl ?_)
  have := mix_lexF (md := .any) hs hL (fun k hk e => by subst e; rw [hz] at hk; cases hk) hzn hd hB ops.toList 0 (Array.replicate ops.size false) a _ (by simp) hcl (fun j hj => by simp [hj]) h
  simpa using this
end
end Go.Proofs.Ytjojhhkbebddmaa
