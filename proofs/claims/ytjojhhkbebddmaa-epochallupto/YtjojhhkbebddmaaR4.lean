import Derived.Test.YtjojhhkbebddmaaR2
import Derived.Test.YtjojhhkbebddmaaR3
namespace Go.Proofs.Ytjojhhkbebddmaa
open Go.RowKit Go.PlainAid
set_option linter.unusedVariables false
set_option linter.unusedSimpArgs false
theorem eql49 (a b c d : Int) (W : World) : (binOp .eql 49 (.agg #[.int .i64 a, .int .i64 b]) (.agg #[.int .i64 c, .int .i64 d])).run Try.prog W = .ok (.bool (sameE a b c d)) W := by
  unfold sameE
  simp [go_sem]
  by_cases h1 : a = c
  · by_cases h2 : b = d <;> simp [h1, h2]
  · simp [h1]
theorem rpt_some {l : List Nt} {i : Nat} {t : Nt} {f : Int} {e : Ep} (h : l[i]? = some t) (h1 : t.f = f ∧ t.e = e) (h2 : ∀ (j : Nat) (u : Nt), i < j → l[j]? = some u → ¬ (u.f = f ∧ u.e = e)) : rpt l f e = some t.h := by
  have key : ∀ m, i < m → m ≤ l.length → rpt (l.take m) f e = some t.h := by
    intro m
    induction m with
    | zero => intro h; omega
    | succ m ih =>
      intro hm hl
      obtain ⟨u, hu⟩ : ∃ u, l[m]? = some u := ⟨_, List.getElem?_eq_getElem (by omega)⟩
      rw [rpt_take hu]
      by_cases q : i = m
      · subst q
        rw [h] at hu
        cases hu
        rw [if_pos h1]
      · rw [if_neg (h2 m u (by omega) hu)]
        exact ih (by omega) (by omega)
  have hl := (List.getElem?_eq_some_iff.1 h).1
  have := key l.length (by omega) (Nat.le_refl _)
  rwa [List.take_length] at this
theorem rpt_none {l : List Nt} {f : Int} {e : Ep} (h2 : ∀ (j : Nat) (u : Nt), l[j]? = some u → ¬ (u.f = f ∧ u.e = e)) : rpt l f e = none := by
  have key : ∀ m, m ≤ l.length → rpt (l.take m) f e = none := by
    intro m
    induction m with
    | zero => intro _; rfl
    | succ m ih =>
      intro hl
      obtain ⟨u, hu⟩ : ∃ u, l[m]? = some u := ⟨_, List.getElem?_eq_getElem (by omega)⟩
      rw [rpt_take hu, if_neg (h2 m u hu)]
      exact ih (by omega)
  have := key l.length (Nat.le_refl _)
  rwa [List.take_length] at this
theorem Agr.hit {x : EV} {r : RV} (ha : Agr x r) {i j : Nat} {t : Nt} (h : r.nt[i]? = some t) (h1 : t.f = (j : Int) ∧ t.e = liveE x x.me) (h0 : 0 < (liveE x x.me).r) (h2 : ∀ (k : Nat) (u : Nt), i < k → r.nt[k]? = some u → ¬ (u.f = (j : Int) ∧ u.e = liveE x x.me)) : x.rep j = true ∧ x.hd j = t.h := by
  have hne : liveE x x.me ≠ e0 := fun e => by rw [e] at h0; exact absurd h0 (by decide)
  have := (ha.rp hne).2 j
  rw [rpt_some h h1 h2] at this
  by_cases q : x.rep j = true
  · rw [if_pos q] at this
    exact ⟨q, (Option.some.inj this).symm⟩
  · rw [if_neg q] at this
    cases this
theorem Agr.nohit {x : EV} {r : RV} (ha : Agr x r) {j : Nat} (h2 : ∀ (k : Nat) (u : Nt), r.nt[k]? = some u → ¬ (u.f = (j : Int) ∧ u.e = liveE x x.me ∧ 0 < (liveE x x.me).r)) : x.rep j = false ∧ x.hd j = 0 := by
  have hr : x.rep j = false := by
    rcases liveE_nn ha x.me with q | ⟨q, q2⟩
    · exact ha.zr q j
    · have hne : liveE x x.me ≠ e0 := fun e => by
        have := congrArg Ep.r (q.symm.trans e)
        simp only [e0] at this
        omega
      have hp : 0 < (liveE x x.me).r := by rw [q]; exact q2
      have := (ha.rp hne).2 j
      rw [rpt_none (fun k u hu hh => h2 k u hu ⟨hh.1, hh.2, hp⟩)] at this
      by_cases q : x.rep j = true
      · rw [if_pos q] at this
        cases this
      · simpa using q
  exact ⟨hr, ha.h0 j hr⟩
set_option maxRecDepth 100000 in
set_option maxHeartbeats 6400000 in
theorem rreport_any {L : Nat} {g : RG} {x : EV} {r : RV} (j : Nat) (w : World) (h : RM L g r w) (ha : Agr x r) (hx : x.Nm) : Calls Try.prog 83 #[.pointer (some ⟨g.rb, 0, none⟩), .int .i64 (j : Int)] w fun e w' => e = .returned (.tuple #[.int .i64 (x.hd j), .bool (x.rep j)]) ∧ Below w.heap.size w w' := by
  have HO : Hid (Calls Try.prog 46 #[.pointer (some ⟨g.rb, 0, none⟩)] w fun e w' => e = .returned (epV (liveE x x.me)) ∧ Below w.heap.size w w') := rown_any w h ha hx
  have HIT : Hid _ := @Agr.hit x r ha
  have HNO : Hid _ := @Agr.nohit x r ha j
  obtain ⟨ao, cap, hv, hc1, hc2, hrd⟩ := own_read h.t
  have c4 := h.c4
  obtain ⟨n, hn⟩ : ∃ n, n = r.nt.length := ⟨_, rfl⟩
  have HN : Hid (n = r.nt.length) := hn
  rw [← hn] at hv hc1 hrd
  rw [hv] at c4
  have HRD : Hid _ := hrd
  have hrb := h.b.lt
  unfold maxLen at hc2
  have H3 := eql49
  generalize liveE x x.me = E at *
  obtain ⟨er, ek⟩ := E
  clear h ha hx hn hv hrd
  unfold epV at *
  go_enter Try.func83, Try.ntmps83
  go_upto_region 2 with (first
    | (go_at_call 46; refine Calls.mono HO.out ?_; rintro e w1 ⟨rfl, hb1⟩)
    | fail)
  obtain ⟨W, hW⟩ : ∃ W, W = w1.alloc (.cells #[.int .i64 er, .int .i64 ek] 49) := ⟨_, rfl⟩
  have hbW : Below w.heap.size w W := by rw [hW]; exact bal hb1 (Nat.le_refl _) _
  have hbk : Blk W w1.heap.size #[.int .i64 er, .int .i64 ek] 49 := by rw [hW]; exact heap_alloc_new w1 _
  have k0 := hbk.cell 0
  have k1 := hbk.cell 1
  have k4 : W.cell? ⟨g.rb, 4, none⟩ = some (.slice ao n cap) := (hbW.cell (p := ⟨g.rb, 4, none⟩) hrb).trans c4
  rw [← hW]
  have HBW : Hid _ := hbW
  clear hW hbW hbk HO
  go_wp2_with fail
  go_loopw [7] (fun i wr => ∃ m z : Nat, m ≤ n ∧ i = .int .i64 ((m : Int) - 1) ∧ wr = W.drewN z ∧ Hid (∀ (k : Nat) (u : Nt), m ≤ k → r.nt[k]? = some u → ¬ (u.f = (j : Int) ∧ u.e = ⟨er, ek⟩ ∧ 0 < er))) (fun i _ => (intOf i + 1).toNat)
  case atStart =>
    refine ⟨n, 0, Nat.le_refl _, ?_, rfl, fun k u h1 h2 => ?_⟩
    · go_num
    · have := (List.getElem?_eq_some_iff.1 h2).1
      have := HN.out
      omega
  case round =>
    obtain ⟨m, z, hm, rfl, rfl, HD⟩ := hrel
    have k0' : (W.drewN z).cell? ⟨w1.heap.size, 0, none⟩ = some (.int .i64 er) := k0
    have k1' : (W.drewN z).cell? ⟨w1.heap.size, 1, none⟩ = some (.int .i64 ek) := k1
    have k4' : (W.drewN z).cell? ⟨g.rb, 4, none⟩ = some (.slice ao n cap) := k4
    rcases m with _ | k
    · have hi : ((0 : Nat) : Int) - 1 = -1 := by omega
      simp only [hi]
      obtain ⟨hr1, hr2⟩ := HNO.out (fun k u h2 => HD.out k u (Nat.zero_le _) h2)
      have HR1 : Hid _ := hr1
      have HR2 : Hid _ := hr2
      go_wp2_with fail
      go_ret2
      exact ⟨by rw [HR1.out, HR2.out]; rfl, below_drewN HBW.out _⟩
    · have hi : ((k + 1 : Nat) : Int) - 1 = (k : Int) := by omega
      simp only [hi]
      obtain ⟨t, ht⟩ : ∃ t, r.nt[k]? = some t := ⟨_, List.getElem?_eq_getElem (by rw [← HN.out]; omega)⟩
      obtain ⟨q, rfl, hq1, hq2, hcell⟩ := HRD.out (by omega)
      obtain ⟨f1, f2, f3, f4⟩ := flatN_at ht
      have d0 : W.cell? ⟨q, k * 4, none⟩ = some (.int .i64 t.f) := (HBW.out.cell (p := ⟨q, k * 4, none⟩) hq2).trans (hcell _ _ f1)
      have d1 : W.cell? ⟨q, k * 4 + 1, none⟩ = some (.int .i64 t.h) := (HBW.out.cell (p := ⟨q, k * 4 + 1, none⟩) hq2).trans (hcell _ _ f2)
      have d2 : W.cell? ⟨q, k * 4 + 2, none⟩ = some (.int .i64 t.e.r) := (HBW.out.cell (p := ⟨q, k * 4 + 2, none⟩) hq2).trans (hcell _ _ f3)
      have d3 : W.cell? ⟨q, k * 4 + 3, none⟩ = some (.int .i64 t.e.k) := (HBW.out.cell (p := ⟨q, k * 4 + 3, none⟩) hq2).trans (hcell _ _ f4)
      have d0' : (W.drewN z).cell? ⟨q, k * 4, none⟩ = some (.int .i64 t.f) := d0
      have d1' : (W.drewN z).cell? ⟨q, k * 4 + 1, none⟩ = some (.int .i64 t.h) := d1
      have d2' : (W.drewN z).cell? ⟨q, k * 4 + 2, none⟩ = some (.int .i64 t.e.r) := d2
      have d3' : (W.drewN z).cell? ⟨q, k * 4 + 3, none⟩ = some (.int .i64 t.e.k) := d3
      have HT : Hid _ := ht
      have hkn : k < n := by omega
      obtain ⟨tf, th, ⟨tr, tk⟩⟩ := t
      simp only at d0 d1 d2 d3 d0' d1' d2' d3'
      clear hcell hq1 hq2 f1 f2 f3 f4 ht
      by_cases h1 : tf = (j : Int)
      · have h1b : (tf == (j : Int)) = true := by simpa using h1
        subst h1
        by_cases h2 : (⟨tr, tk⟩ : Ep) = ⟨er, ek⟩
        · have h2b : sameE tr tk er ek = true := by unfold sameE; simpa using h2
          by_cases h3 : 0 < er
          · have HRP : Hid (x.rep j = true ∧ x.hd j = th) := HIT.out HT.out ⟨rfl, h2⟩ h3 (fun k' u hk hu hh => HD.out k' u (by omega) hu ⟨hh.1, hh.2, h3⟩)
            clear h2
            go_wp2_with fail
            go_quiet (fail)
            go_wp2_with fail
            go_ret2
            exact ⟨by rw [HRP.out.1, HRP.out.2]; rfl, below_drewN HBW.out _⟩
          · clear h2
            go_wp2_with fail
            go_quiet (fail)
            go_wp2_with fail
            go_roundw
            case rel =>
              refine ⟨k, _, by omega, by go_num, rfl, fun k' u hk hu hh => ?_⟩
              have := hh.2.2
              omega
            case measure => first | (simp [intOf]; done) | (simp [intOf]; omega)
        · have h2b : sameE tr tk er ek = false := by unfold sameE; simpa using h2
          have H2 : Hid _ := h2
          clear h2
          go_wp2_with fail
          go_quiet (fail)
          go_wp2_with fail
          go_roundw
          case rel =>
            refine ⟨k, _, by omega, by go_num, rfl, fun k' u hk hu hh => ?_⟩
            by_cases hkk : k' = k
            · subst hkk
              rw [HT.out] at hu
              cases hu
              exact H2.out hh.2.1
            · exact HD.out k' u (by omega) hu hh
          case measure => first | (simp [intOf]; done) | (simp [intOf]; omega)
      · have h1b : (tf == (j : Int)) = false := by simpa using h1
        go_wp2_with fail
        go_quiet (fail)
        go_wp2_with fail
        go_roundw
        case rel =>
          refine ⟨k, _, by omega, by go_num, rfl, fun k' u hk hu hh => ?_⟩
          by_cases hkk : k' = k
          · subst hkk
            rw [HT.out] at hu
            cases hu
            exact h1 hh.1
          · exact HD.out k' u (by omega) hu hh
        case measure => first | (simp [intOf]; done) | (simp [intOf]; omega)
end Go.Proofs.Ytjojhhkbebddmaa
