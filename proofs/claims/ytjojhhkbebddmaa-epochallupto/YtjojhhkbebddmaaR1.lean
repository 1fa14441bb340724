import Derived.Test.YtjojhhkbebddmaaR0
namespace Go.Proofs.Ytjojhhkbebddmaa
open Go.RowKit Go.PlainAid
set_option linter.unusedVariables false
set_option linter.unusedSimpArgs false
def rpt (l : List Nt) (f : Int) (e : Ep) : Option Int := l.foldl (fun a t => if t.f = f ∧ t.e = e then some t.h else a) none
theorem rpt_app (l : List Nt) (t : Nt) (f : Int) (e : Ep) : rpt (l ++ [t]) f e = if t.f = f ∧ t.e = e then some t.h else rpt l f e := by
  unfold rpt
  rw [List.foldl_append]
  rfl
theorem rpt_take {l : List Nt} {i : Nat} {t : Nt} (h : l[i]? = some t) (f : Int) (e : Ep) : rpt (l.take (i + 1)) f e = if t.f = f ∧ t.e = e then some t.h else rpt (l.take i) f e := by
  rw [List.take_add_one, h]
  exact rpt_app _ _ _ _
/-- The program's machine and the document's agree. -/
structure Agr (x : EV) (r : RV) : Prop where
  me : r.me = x.me
  n : r.n = x.n
  kn : ∀ j : Nat, x.kn j = gr r.kn j
  fi : ∀ j : Nat, x.fi j = gr r.ov j
  fk : ∀ j, 0 ≤ x.fi j ∧ x.fi j ≤ x.kn j
  kb : ∀ j, x.kn j ≤ 1099511627776
  hi : ∀ j, x.n ≤ j → x.kn j = 0
  nt : ∀ t ∈ r.nt, t.e.k = x.me ∧ 1 ≤ t.e.r ∧ t.e.r ≤ x.kn x.me ∧ 0 ≤ t.f ∧ t.f < x.n ∧ t.f ≠ x.me ∧ 0 ≤ t.h ∧ t.h ≤ 1099511627776
  rp : liveE x x.me ≠ e0 → x.need = r.need ∧ ∀ j : Nat, rpt r.nt j (liveE x x.me) = if x.rep j = true then some (x.hd j) else none
  zr : liveE x x.me = e0 → ∀ j, x.rep j = false
  h0 : ∀ j, x.rep j = false → x.hd j = 0
set_option maxRecDepth 100000 in
set_option maxHeartbeats 3200000 in
theorem rlive_any {L : Nat} {g : RG} {x : EV} {r : RV} (w : World) (h : RM L g r w) (ha : Agr x r) (hx : x.Nm) : Calls Try.prog 66 #[.pointer (some ⟨g.rb, 0, none⟩)] w fun e w' => ∃ v, e = .returned v ∧ w'.ownsRow w.heap.size 49 2 v (liveL x x.n).length (flatE (liveL x x.n)) ∧ Below w.heap.size w w' := by
  have c1 := h.c1
  rw [ha.n] at c1
  have hn := hx.n.2
  have HM : Hid _ := h
  have HA : Hid _ := ha
  have hrb := h.b.lt
  have c2 := h.c2
  have c3 := h.c3
  have HGK : Hid (∀ (j : Nat) W, Below w.heap.size w W → Calls Try.prog 69 #[g.vk, .int .i64 (j : Int)] W fun e w' => e = .returned (.int .i64 (x.kn j)) ∧ w' = W) := fun j W hW => by rw [ha.kn]; exact greatest_any (j : Int) W (h.more hW).k
  have HGO : Hid (∀ (j : Nat) W, Below w.heap.size w W → Calls Try.prog 69 #[g.vo, .int .i64 (j : Int)] W fun e w' => e = .returned (.int .i64 (x.fi j)) ∧ w' = W) := fun j W hW => by rw [ha.fi]; exact greatest_any (j : Int) W (h.more hW).o
  clear h ha hx
  go_enter Try.func66, Try.ntmps66
  go_wp2
  go_loopw [3, 4] (fun v i wr => ∃ k : Nat, k ≤ x.n ∧ i = .int .i64 (k : Int) ∧ Hid (wr.ownsRow w.heap.size 49 2 v (liveL x k).length (flatE (liveL x k))) ∧ Hid (Below w.heap.size w wr)) (fun _ i _ => x.n - (intOf i).toNat)
  case atStart => exact ⟨0, Nat.zero_le _, rfl, World.ownsRow_nil _ _ _ _, Below.refl _ _⟩
  case round =>
    obtain ⟨k, hk, rfl, HO, HB⟩ := hrel
    have hM := HM.out.more HB.out
    have d1 := hM.c1
    rw [HA.out.n] at d1
    have d2 := hM.c2
    have d3 := hM.c3
    clear hM
    by_cases hlt : k < x.n
    · have hll := liveL_len x k
      obtain ⟨vo, vc, hv, _⟩ := own_slice HO.out
      obtain ⟨n, hn'⟩ : ∃ n, n = (liveL x k).length := ⟨_, rfl⟩
      have HHN : Hid (n = (liveL x k).length) := hn'
      rw [← hn'] at hv
      have HLL : Hid ((liveL x k).length ≤ 1000000000) := show (liveL x k).length ≤ 1000000000 from by omega
      have HGK1 : Hid _ := HGK.out k wr HB.out
      have HGO1 : Hid _ := HGO.out k wr HB.out
      have hfk := HA.out.fk k
      have HT : Hid (liveL x (k + 1) = if liveE x k = e0 then liveL x k else liveL x k ++ [liveE x k]) := show _ = _ from rfl
      have HE : Hid (liveE x k = if x.kn k = x.fi k then e0 else ⟨x.kn k, k⟩) := show _ = _ from rfl
      clear hn' hll
      generalize x.kn k = a at *
      generalize x.fi k = b at *
      by_cases hd : b < a
      · have hE : liveE x k = ⟨a, k⟩ := HE.out.trans (if_neg (by omega))
        have HT2 : Hid (liveL x (k + 1) = liveL x k ++ [⟨a, (k : Int)⟩]) := show _ = _ from by
          rw [HT.out, hE, if_neg]
          intro h
          have := congrArg Ep.r h
          simp [e0] at this
          omega
        obtain ⟨v6, w6, hr6, ho6, hg6⟩ := app_ep (⟨a, (k : Int)⟩ : Ep) HO.out HB.out.size HLL.out
        have HHR : Hid _ := hr6
        have HO6 : Hid _ := ho6
        have HG6 : Hid _ := hg6
        clear hr6 ho6 hg6 hE HT HE
        subst hv
        go_wp2_with (first
          | (go_at_call 69; refine Calls.mono HGK1.out ?_; clear HGK1; rintro e w1 ⟨rfl, hw1⟩; replace hw1 := hw1.symm; subst hw1)
          | (go_at_call 69; refine Calls.mono HGO1.out ?_; rintro e w1 ⟨rfl, hw1⟩; replace hw1 := hw1.symm; subst hw1)
          | (at_builtin; refine wpList_runs rfl _ _ 64 rfl rfl rfl HHR.out ?_)
          | fail)
        go_roundw
        case rel =>
          refine ⟨k + 1, by omega, by go_num, ?_, HB.out.trans (HG6.out.up (L := w.heap.size) (fun g e => (ownsRow_lt HO.out e).1) HB.out.size)⟩
          rw [HT2.out]
          exact HO6.out
        case measure => simp [intOf]; omega
      · have hE : liveE x k = e0 := HE.out.trans (if_pos (by omega))
        have HT2 : Hid (liveL x (k + 1) = liveL x k) := HT.out.trans (if_pos hE)
        clear hE HT HE
        subst hv
        go_wp2_with (first
          | (go_at_call 69; refine Calls.mono HGK1.out ?_; clear HGK1; rintro e w1 ⟨rfl, hw1⟩; replace hw1 := hw1.symm; subst hw1)
          | (go_at_call 69; refine Calls.mono HGO1.out ?_; rintro e w1 ⟨rfl, hw1⟩; replace hw1 := hw1.symm; subst hw1)
          | fail)
        go_roundw
        case rel =>
          refine ⟨k + 1, by omega, by go_num, ?_, HB.out⟩
          rw [HT2.out]
          exact HO.out
        case measure => simp [intOf]; omega
    · obtain rfl : k = x.n := by omega
      go_wp2
      go_ret
      exact ⟨_, rfl, HO.out, HB.out⟩
/-- What is live, and its highest. -/
theorem liveE_nn {x : EV} {r : RV} (ha : Agr x r) (k : Nat) : liveE x k = e0 ∨ (liveE x k = ⟨x.kn k, k⟩ ∧ 0 < x.kn k) := by
  unfold liveE
  by_cases h : x.kn k = x.fi k
  · rw [if_pos h]; exact .inl rfl
  · rw [if_neg h]
    have := ha.fk k
    exact .inr ⟨rfl, by omega⟩
def rtg (l : List Ep) : Ep := l.foldl (fun t e => if t.r ≤ e.r then e else t) e0
theorem rtg_app (l : List Ep) (e : Ep) : rtg (l ++ [e]) = if (rtg l).r ≤ e.r then e else rtg l := by
  unfold rtg
  rw [List.foldl_append]
  rfl
theorem tgtE_bd {x : EV} {r : RV} (ha : Agr x r) (k : Nat) : tgtE x k = e0 ∨ (0 < (tgtE x k).r ∧ 0 ≤ (tgtE x k).k ∧ (tgtE x k).k < k) := by
  induction k with
  | zero => exact .inl rfl
  | succ k ih =>
    show (if higher (liveE x k) (tgtE x k) = true then liveE x k else tgtE x k) = e0 ∨ _
    by_cases hh : higher (liveE x k) (tgtE x k) = true
    · have e : tgtE x (k + 1) = liveE x k := if_pos hh
      rw [if_pos hh, e]
      rcases liveE_nn ha k with h | ⟨h, h2⟩
      · exact .inl h
      · rw [h]; exact .inr ⟨h2, by show (0 : Int) ≤ (k : Int); omega, by show (k : Int) < ((k + 1 : Nat) : Int); omega⟩
    · have e : tgtE x (k + 1) = tgtE x k := if_neg hh
      rw [if_neg hh, e]
      rcases ih with h | ⟨h1, h2, h3⟩
      · exact .inl h
      · exact .inr ⟨h1, h2, by omega⟩
theorem rtg_live {x : EV} {r : RV} (ha : Agr x r) (k : Nat) : rtg (liveL x k) = tgtE x k := by
  induction k with
  | zero => rfl
  | succ k ih =>
    show rtg (if liveE x k = e0 then liveL x k else liveL x k ++ [liveE x k]) = if higher (liveE x k) (tgtE x k) = true then liveE x k else tgtE x k
    have hb := tgtE_bd ha k
    rcases liveE_nn ha k with h | ⟨h, h2⟩
    · rw [h, if_pos rfl, ih, if_neg]
      intro q
      unfold higher at q
      rcases hb with hb | ⟨hb, _⟩
      · rw [hb] at q; simp [e0] at q
      · have e1 : e0.r = 0 := rfl
        have e2 : e0.k = 0 := rfl
        simp only [Bool.or_eq_true, Bool.and_eq_true, decide_eq_true_eq, beq_iff_eq, e1, e2] at q
        omega
    · rw [h, if_neg, rtg_app, ih]
      · by_cases q : (tgtE x k).r ≤ x.kn k
        · rw [if_pos q, if_pos]
          unfold higher
          simp only [Bool.or_eq_true, Bool.and_eq_true, decide_eq_true_eq, beq_iff_eq]
          by_cases q2 : (tgtE x k).r = x.kn k
          · refine .inr ⟨q2.symm, ?_⟩
            rcases hb with hb | ⟨_, _, hb⟩
            · rw [hb] at q2; simp [e0] at q2; omega
            · exact hb
          · exact .inl (by omega)
        · rw [if_neg q, if_neg]
          unfold higher
          simp only [Bool.or_eq_true, Bool.and_eq_true, decide_eq_true_eq, beq_iff_eq]
          omega
      · intro q
        have := congrArg Ep.r q
        simp [e0] at this
        omega
end Go.Proofs.Ytjojhhkbebddmaa
