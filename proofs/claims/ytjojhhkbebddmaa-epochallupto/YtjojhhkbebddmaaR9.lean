import Derived.Test.YtjojhhkbebddmaaR5
namespace Go.Proofs.Ytjojhhkbebddmaa
open Go.RowKit Go.PlainAid
set_option linter.unusedVariables false
set_option linter.unusedSimpArgs false
def toldRV (x : EV) (r : RV) (e : Ep) : RV := if other x e = true then { r with kn := r.kn ++ [e] } else r
theorem other_bd {x : EV} {e : Ep} (h : other x e = true) : ∃ k : Nat, e.k = (k : Int) ∧ e.k.toNat = k ∧ k < x.n ∧ k ≠ x.me ∧ 1 ≤ e.r ∧ e.r ≤ 1099511627776 := by
  unfold other at h
  simp only [decide_eq_true_eq] at h
  exact ⟨e.k.toNat, by omega, rfl, by omega, by omega, h.1, h.2.1⟩
theorem up_at {α : Type} (f : Nat → α) (j : Nat) (v : α) : up f j v j = v := if_pos rfl
theorem up_ne {α : Type} (f : Nat → α) {j i : Nat} (v : α) (h : i ≠ j) : up f j v i = f i := if_neg h
theorem gr_up {f : Nat → Int} {l : List Ep} (hf : ∀ j : Nat, f j = gr l j) {e : Ep} {k : Nat} (hk : e.k = (k : Int)) : ∀ j : Nat, up f k (max (f k) e.r) j = gr (l ++ [e]) j := fun j => by
  rw [gr_app]
  by_cases q : j = k
  · subst q
    rw [up_at, hf j, hk]
    by_cases q2 : gr l j < e.r
    · rw [if_pos ⟨rfl, q2⟩]; omega
    · rw [if_neg (fun h => q2 h.2)]; omega
  · rw [up_ne _ _ q, hf j, if_neg]
    intro h
    have := h.1
    omega
theorem liveE_eq {x y : EV} {j : Nat} (h1 : x.kn j = y.kn j) (h2 : x.fi j = y.fi j) : liveE x j = liveE y j := by unfold liveE; rw [h1, h2]
theorem Agr.hear {x : EV} {r : RV} (ha : Agr x r) {e : Ep} (ho : other x e = true) : Agr { x with kn := up x.kn e.k.toNat (max (x.kn e.k.toNat) e.r) } { r with kn := r.kn ++ [e] } := by
  obtain ⟨k, h1, h2, h3, h4, h5, h6⟩ := other_bd ho
  rw [h2]
  have hl : liveE { x with kn := up x.kn k (max (x.kn k) e.r) } x.me = liveE x x.me := liveE_eq (up_ne _ _ (Ne.symm h4)) rfl
  have hm : up x.kn k (max (x.kn k) e.r) x.me = x.kn x.me := up_ne _ _ (Ne.symm h4)
  refine ⟨ha.me, ha.n, gr_up ha.kn h1, ha.fi, fun j => ?_, fun j => ?_, fun j hj => ?_, fun t ht => ?_, fun hne => ?_, fun hz j => ?_, ha.h0⟩
  · have := ha.fk j
    by_cases q : j = k
    · subst q
      show 0 ≤ x.fi j ∧ x.fi j ≤ up x.kn j _ j
      rw [up_at]; omega
    · show 0 ≤ x.fi j ∧ x.fi j ≤ up x.kn k _ j
      rw [up_ne _ _ q]; exact this
  · have := ha.kb j
    show up x.kn k _ j ≤ _
    by_cases q : j = k
    · subst q; rw [up_at]; omega
    · rw [up_ne _ _ q]; exact this
  · show up x.kn k _ j = 0
    have hj' : x.n ≤ j := hj
    rw [up_ne _ _ (by omega)]
    exact ha.hi j hj
  · have := ha.nt t ht
    show _ ∧ _ ∧ t.e.r ≤ up x.kn k _ x.me ∧ _
    rw [hm]
    exact this
  · rw [hl] at hne ⊢
    exact ha.rp hne
  · exact ha.zr (by rw [← hl]; exact hz) j
theorem Agr.told {x : EV} {r : RV} (ha : Agr x r) (e : Ep) : Agr (hearK x e) (toldRV x r e) := by
  unfold hearK toldRV
  by_cases h : other x e = true
  · rw [if_pos h, if_pos h]; exact ha.hear h
  · rw [if_neg h, if_neg h]; exact ha
theorem Agr.ends {x : EV} {r : RV} (ha : Agr x r) {e : Ep} (ho : other x e = true) : Agr (endK x e) { r with kn := r.kn ++ [e], ov := r.ov ++ [e] } := by
  obtain ⟨k, h1, h2, h3, h4, h5, h6⟩ := other_bd ho
  have hb := ha.hear ho
  unfold endK
  rw [if_pos ho]
  rw [h2] at hb ⊢
  have hl : liveE { x with kn := up x.kn k (max (x.kn k) e.r), fi := up x.fi k (max (x.fi k) e.r) } x.me = liveE { x with kn := up x.kn k (max (x.kn k) e.r) } x.me := liveE_eq rfl (up_ne _ _ (Ne.symm h4))
  refine ⟨hb.me, hb.n, hb.kn, gr_up ha.fi h1, fun j => ?_, hb.kb, hb.hi, hb.nt, fun hne => ?_, fun hz j => ?_, hb.h0⟩
  · have h7 := ha.fk j
    show 0 ≤ up x.fi k _ j ∧ up x.fi k _ j ≤ up x.kn k _ j
    by_cases q : j = k
    · subst q; rw [up_at, up_at]; omega
    · rw [up_ne _ _ q, up_ne _ _ q]; exact h7
  · have hne' : liveE { x with kn := up x.kn k (max (x.kn k) e.r), fi := up x.fi k (max (x.fi k) e.r) } x.me ≠ e0 := hne
    rw [hl] at hne'
    have := hb.rp hne'
    show _ ∧ ∀ j : Nat, rpt r.nt j (liveE { x with kn := up x.kn k (max (x.kn k) e.r), fi := up x.fi k (max (x.fi k) e.r) } x.me) = _
    rw [hl]
    exact this
  · have hz' : liveE { x with kn := up x.kn k (max (x.kn k) e.r), fi := up x.fi k (max (x.fi k) e.r) } x.me = e0 := hz
    rw [hl] at hz'
    exact hb.zr hz' j
theorem liveE_endX (x : EV) : liveE (endX x) x.me = e0 := by
  show (if x.kn x.me = up x.fi x.me (x.kn x.me) x.me then e0 else _) = e0
  rw [up_at]
  exact if_pos rfl
theorem Agr.own {x : EV} {r : RV} (ha : Agr x r) (ho : liveE x x.me ≠ e0) : Agr (endX x) { r with ov := r.ov ++ [liveE x x.me] } := by
  rcases liveE_nn ha x.me with q | ⟨q, q2⟩
  · exact absurd q ho
  · have hlt : x.fi x.me < x.kn x.me := by
      have h1 := ha.fk x.me
      have h2 : x.kn x.me ≠ x.fi x.me := fun e => ho (by unfold liveE; rw [if_pos e])
      omega
    have hg := gr_up ha.fi (e := liveE x x.me) (k := x.me) (by rw [q])
    have hmx : max (x.fi x.me) (liveE x x.me).r = x.kn x.me := by rw [q]; show max (x.fi x.me) (x.kn x.me) = _; omega
    rw [hmx] at hg
    refine ⟨ha.me, ha.n, ha.kn, hg, fun j => ?_, ha.kb, ha.hi, ha.nt, fun hne => absurd (liveE_endX x) hne, fun _ _ => rfl, fun _ _ => rfl⟩
    have h7 := ha.fk j
    show 0 ≤ up x.fi x.me _ j ∧ up x.fi x.me _ j ≤ x.kn j
    by_cases p : j = x.me
    · subst p; rw [up_at]; omega
    · rw [up_ne _ _ p]; exact h7
theorem Agr.noOwn {x : EV} {r : RV} (ha : Agr x r) (ho : liveE x x.me = e0) : Agr (endX x) r := by
  have hke : x.kn x.me = x.fi x.me := by
    rcases liveE_nn ha x.me with q | ⟨q, q2⟩
    · by_cases p : x.kn x.me = x.fi x.me
      · exact p
      · have h1 := ha.fk x.me
        have : liveE x x.me = ⟨x.kn x.me, x.me⟩ := by unfold liveE; rw [if_neg p]
        have h3 := congrArg Ep.r (this.symm.trans ho)
        have e1 : e0.r = 0 := rfl
        simp only [e1] at h3
        omega
    · have h3 := congrArg Ep.r (q.symm.trans ho)
      have e1 : e0.r = 0 := rfl
      simp only [e1] at h3
      omega
  have hfi : (endX x).fi = x.fi := by
    funext j
    show up x.fi x.me (x.kn x.me) j = x.fi j
    by_cases p : j = x.me
    · subst p; rw [up_at, hke]
    · rw [up_ne _ _ p]
  refine ⟨ha.me, ha.n, ha.kn, fun j => by rw [hfi]; exact ha.fi j, fun j => by rw [hfi]; exact ha.fk j, ha.kb, ha.hi, ha.nt, fun hne => absurd (liveE_endX x) hne, fun _ _ => rfl, fun _ _ => rfl⟩
def turnRV (x : EV) (r : RV) : RV := if liveE x x.me ≠ e0 ∧ tgtE x x.n ≠ liveE x x.me then { r with ov := r.ov ++ [liveE x x.me] } else r
theorem Agr.turn {x : EV} {r : RV} (ha : Agr x r) (b : Ep) : Agr (turnX x b) (turnRV x r) := by
  unfold turnX turnRV
  by_cases h : liveE x x.me ≠ e0 ∧ tgtE x x.n ≠ liveE x x.me
  · rw [if_pos h, if_pos h]; exact ha.own h.1
  · rw [if_neg h, if_neg h]; exact ha
theorem EV.Nm.turnX {x : EV} (h : x.Nm) (b : Ep) : (turnX x b).Nm := by
  unfold Go.Proofs.Ytjojhhkbebddmaa.turnX
  split
  · exact h.endX
  · exact h
/-- What is finished stays so where nothing lives. -/
theorem tgtE_zero {x : EV} {r : RV} (ha : Agr x r) : ∀ (n : Nat), tgtE x n = e0 → ∀ j, j < n → liveE x j = e0
  | 0, _, j, h => by omega
  | n + 1, ht, j, hj => by
    have e2 : tgtE x (n + 1) = if higher (liveE x n) (tgtE x n) = true then liveE x n else tgtE x n := rfl
    rw [e2] at ht
    have hb := tgtE_bd ha n
    by_cases hh : higher (liveE x n) (tgtE x n) = true
    · rw [if_pos hh] at ht
      rw [ht] at hh
      unfold higher at hh
      have e1 : e0.r = 0 := rfl
      have e3 : e0.k = 0 := rfl
      simp only [Bool.or_eq_true, Bool.and_eq_true, decide_eq_true_eq, beq_iff_eq, e1, e3] at hh
      rcases hb with q | ⟨q1, q2, q3⟩
      · rw [q] at hh
        simp only [e1, e3] at hh
        omega
      · omega
    · rw [if_neg hh] at ht
      by_cases p : j = n
      · subst p
        rcases liveE_nn ha j with q | ⟨q, q2⟩
        · exact q
        · exfalso
          apply hh
          rw [ht, q]
          unfold higher
          have e1 : e0.r = 0 := rfl
          simp only [e1, Bool.or_eq_true, decide_eq_true_eq]
          exact .inl q2
      · exact tgtE_zero ha n ht j (by omega)
theorem lastR_le {f : Nat → Int} : ∀ (n j : Nat), j < n → f j ≤ lastR f n
  | 0, j, h => by omega
  | n + 1, j, h => by
    show f j ≤ max (lastR f n) (f n)
    by_cases p : j = n
    · subst p; omega
    · have := lastR_le (f := f) n j (by omega); omega
theorem lastR_bd {f : Nat → Int} {M : Int} (h : ∀ j, 0 ≤ f j ∧ f j ≤ M) (hM : 0 ≤ M) (n : Nat) : 0 ≤ lastR f n ∧ lastR f n ≤ M := by
  induction n with
  | zero => exact ⟨Int.le_refl 0, hM⟩
  | succ n ih =>
    have := h n
    show 0 ≤ max (lastR f n) (f n) ∧ max (lastR f n) (f n) ≤ M
    omega
theorem lastR_hi {f : Nat → Int} (h0 : ∀ j, 0 ≤ f j) {n : Nat} (hz : ∀ j, n ≤ j → f j = 0) : ∀ m, n ≤ m → lastR f m = lastR f n := by
  have hn : ∀ m, 0 ≤ lastR f m := fun m => by
    induction m with
    | zero => exact Int.le_refl 0
    | succ m ih => show 0 ≤ max (lastR f m) (f m); omega
  intro m hm
  induction m with
  | zero => have : n = 0 := by omega
            subst this; rfl
  | succ m ih =>
    by_cases p : n = m + 1
    · subst p; rfl
    · show max (lastR f m) (f m) = _
      rw [hz m (by omega), ih (by omega)]
      have := hn n
      omega
theorem Agr.last {x : EV} {r : RV} (ha : Agr x r) (hx : x.Nm) : lastR x.kn 16 = lastR x.kn x.n := lastR_hi (fun j => by have := ha.fk j; omega) ha.hi 16 hx.n.2
theorem Agr.lastB {x : EV} {r : RV} (ha : Agr x r) : 0 ≤ lastR x.kn 16 ∧ lastR x.kn 16 ≤ 1099511627776 := lastR_bd (fun j => by have := ha.fk j; have := ha.kb j; omega) (by omega) 16
theorem Agr.begins {x : EV} {r : RV} (ha : Agr x r) (hx : x.Nm) (ht : tgtE x x.n = e0) (hl : lastR x.kn 16 + 1 ≤ 1099511627776) (q : Bool) : Agr (begY x q) { r with kn := r.kn ++ [⟨lastR x.kn 16 + 1, x.me⟩], need := q } := by
  have hmx : max (x.kn x.me) (lastR x.kn 16 + 1) = lastR x.kn 16 + 1 := by
    have := lastR_le (f := x.kn) 16 x.me (by have := hx.me; have := hx.n; omega)
    omega
  have hg := gr_up ha.kn (e := ⟨lastR x.kn 16 + 1, x.me⟩) (k := x.me) rfl
  simp only at hg
  rw [hmx] at hg
  have hle := lastR_le (f := x.kn) 16 x.me (by have := hx.me; have := hx.n; omega)
  have hlb := ha.lastB
  refine ⟨ha.me, ha.n, hg, ha.fi, fun j => ?_, fun j => ?_, fun j hj => ?_, fun t ht2 => ?_, fun hne => ⟨rfl, fun j => ?_⟩, fun _ _ => rfl, fun _ _ => rfl⟩
  · have h7 := ha.fk j
    show 0 ≤ x.fi j ∧ x.fi j ≤ up x.kn x.me _ j
    by_cases p : j = x.me
    · subst p; rw [up_at]; omega
    · rw [up_ne _ _ p]; exact h7
  · show up x.kn x.me _ j ≤ _
    by_cases p : j = x.me
    · subst p; rw [up_at]; exact hl
    · rw [up_ne _ _ p]; exact ha.kb j
  · show up x.kn x.me _ j = 0
    have hj' : x.n ≤ j := hj
    rw [up_ne _ _ (by have := hx.me; omega)]
    exact ha.hi j hj
  · have := ha.nt t ht2
    show _ ∧ _ ∧ t.e.r ≤ up x.kn x.me _ x.me ∧ _
    rw [up_at]
    exact ⟨this.1, this.2.1, by omega, this.2.2.2⟩
  · show rpt r.nt j (liveE (begY x q) x.me) = if false = true then _ else _
    rw [if_neg (by decide)]
    refine rpt_none (fun k u hu hh => ?_)
    have h8 := ha.nt u (List.mem_of_getElem? hu)
    have h9 : liveE (begY x q) x.me = ⟨lastR x.kn 16 + 1, x.me⟩ := by
      unfold liveE
      show (if up x.kn x.me (lastR x.kn 16 + 1) x.me = x.fi x.me then e0 else ⟨up x.kn x.me (lastR x.kn 16 + 1) x.me, x.me⟩) = _
      rw [up_at, if_neg]
      have := ha.fk x.me
      omega
    rw [h9] at hh
    have h10 := congrArg Ep.r hh.2
    simp only at h10
    omega
theorem Agr.reports {x : EV} {r : RV} (ha : Agr x r) {f h : Int} {e : Ep} (hk : repOk x f e h = true) : Agr (repX x f e h) { r with nt := r.nt ++ [⟨f, h, e⟩] } := by
  unfold repX
  rw [if_pos hk]
  unfold repOk peerB cnt at hk
  simp only [Bool.and_eq_true, Bool.not_eq_true', decide_eq_false_iff_not, decide_eq_true_eq] at hk
  obtain ⟨⟨⟨h1, h2⟩, h3⟩, h4⟩ := hk
  obtain ⟨k, hf⟩ : ∃ k : Nat, f = (k : Int) := ⟨f.toNat, by omega⟩
  have hft : f.toNat = k := by omega
  rw [hft]
  have hlv : liveE x x.me = ⟨x.kn x.me, x.me⟩ ∧ 0 < x.kn x.me := (liveE_nn ha x.me).resolve_left h1
  refine ⟨ha.me, ha.n, ha.kn, ha.fi, ha.fk, ha.kb, ha.hi, fun t ht => ?_, fun hne => ⟨(ha.rp h1).1, fun j => ?_⟩, fun hz => absurd hz h1, fun j hj => ?_⟩
  · rcases List.mem_append.1 ht with q | q
    · exact ha.nt t q
    · rw [List.mem_singleton.1 q]
      have h5 := congrArg Ep.r (h2.trans hlv.1)
      have h6 := congrArg Ep.k (h2.trans hlv.1)
      simp only at h5 h6
      show e.k = (x.me : Int) ∧ 1 ≤ e.r ∧ e.r ≤ x.kn x.me ∧ 0 ≤ f ∧ f < (x.n : Int) ∧ f ≠ (x.me : Int) ∧ 0 ≤ h ∧ h ≤ 1099511627776
      omega
  · show rpt (r.nt ++ [⟨f, h, e⟩]) j (liveE x x.me) = if up x.rep k true j = true then some (up x.hd k h j) else none
    rw [rpt_app]
    by_cases p : j = k
    · subst p
      rw [up_at, up_at, if_pos ⟨hf, h2⟩, if_pos rfl]
    · rw [up_ne _ _ p, up_ne _ _ p, if_neg (fun q => p (by have h9 : f = (j : Int) := q.1; omega))]
      exact (ha.rp h1).2 j
  · have hj' : up x.rep k true j = false := hj
    by_cases p : j = k
    · subst p
      rw [up_at] at hj'
      cases hj'
    · rw [up_ne _ _ p] at hj'
      show up x.hd k h j = 0
      rw [up_ne _ _ p]
      exact ha.h0 j hj'
theorem EV.Nm.repX {x : EV} (hx : x.Nm) (f : Int) (e : Ep) (h : Int) : (repX x f e h).Nm := by
  unfold Go.Proofs.Ytjojhhkbebddmaa.repX
  by_cases hk : repOk x f e h = true
  · rw [if_pos hk]
    refine ⟨hx.n, hx.me, fun j => ?_⟩
    unfold repOk cnt at hk
    simp only [Bool.and_eq_true, decide_eq_true_eq] at hk
    show 0 ≤ up x.hd f.toNat h j ∧ up x.hd f.toNat h j ≤ _
    by_cases p : j = f.toNat
    · subst p; rw [up_at]; exact hk.2
    · rw [up_ne _ _ p]; exact hx.hd j
  · rw [if_neg hk]; exact hx
theorem Agr.new (me n : Nat) : Agr (newX me n) ⟨me, n, [], [], [], false⟩ :=
  ⟨rfl, rfl, fun _ => rfl, fun _ => rfl, fun j => by show (0 : Int) ≤ 0 ∧ (0 : Int) ≤ 0; omega, fun j => by show (0 : Int) ≤ _; omega, fun _ _ => rfl, fun t h => (by cases h), fun h => absurd (by unfold liveE newX; exact if_pos rfl) h, fun _ _ => rfl, fun _ _ => rfl⟩
theorem newX_nm (me n : Nat) (h : newC me n = 0) : (newX me n).Nm := by
  have h1 : 2 ≤ n ∧ n ≤ 16 ∧ me < n := by
    unfold newC at h
    by_cases q : (n : Int) < 2 ∨ (16 : Int) < (n : Int)
    · rw [if_pos q] at h; cases h
    · rw [if_neg q] at h
      by_cases q2 : (me : Int) < 0 ∨ (n : Int) ≤ (me : Int)
      · rw [if_pos q2] at h; cases h
      · omega
  exact ⟨⟨h1.1, h1.2.1⟩, h1.2.2, fun j => by show (0 : Int) ≤ 0 ∧ (0 : Int) ≤ _; omega⟩
end Go.Proofs.Ytjojhhkbebddmaa
