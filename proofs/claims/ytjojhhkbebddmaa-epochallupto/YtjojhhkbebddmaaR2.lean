import Derived.Test.YtjojhhkbebddmaaR1
namespace Go.Proofs.Ytjojhhkbebddmaa
open Go.RowKit Go.PlainAid
set_option linter.unusedVariables false
set_option linter.unusedSimpArgs false
theorem rtg_take {l : List Ep} {i : Nat} {e : Ep} (h : l[i]? = some e) : rtg (l.take (i + 1)) = if (rtg (l.take i)).r ≤ e.r then e else rtg (l.take i) := by
  rw [List.take_add_one, h]
  exact rtg_app _ _
set_option maxRecDepth 100000 in
set_option maxHeartbeats 3200000 in
theorem rtarget_any {L : Nat} {g : RG} {x : EV} {r : RV} (w : World) (h : RM L g r w) (ha : Agr x r) (hx : x.Nm) : Calls Try.prog 70 #[.pointer (some ⟨g.rb, 0, none⟩)] w fun e w' => e = .returned (epV (tgtE x x.n)) ∧ Below w.heap.size w w' := by
  have HV : Hid (∀ W, Below w.heap.size w W → Calls Try.prog 66 #[.pointer (some ⟨g.rb, 0, none⟩)] W fun e w' => ∃ v, e = .returned v ∧ w'.ownsRow W.heap.size 49 2 v (liveL x x.n).length (flatE (liveL x x.n)) ∧ Below W.heap.size W w') := fun W hW => rlive_any W (h.more hW) ha hx
  have HT0 : Hid (rtg (liveL x x.n) = tgtE x x.n) := rtg_live ha x.n
  obtain ⟨l, hl⟩ : ∃ l, l = liveL x x.n := ⟨_, rfl⟩
  have hll := liveL_len x x.n
  have hn := hx.n.2
  rw [← hl] at HV HT0 hll
  clear h ha hx hl
  go_enter Try.func70, Try.ntmps70
  go_wp2_with (first
    | (go_at_call 66; refine Calls.mono (HV.out _ (((Below.refl _ _).alloc (Nat.le_refl _) _).alloc (by simp) _)) ?_; rintro e w1 ⟨v, rfl, ho, hb⟩; obtain ⟨ao, cap, hv, hc1, hc2, hrd⟩ := own_read ho; obtain ⟨n, hn'⟩ : ∃ n, n = l.length := ⟨_, rfl⟩; rw [← hn'] at hv hc1; have HR : Hid _ := hrd; have HN : Hid _ := hn'; have HB : Hid _ := hb; have hsz : w.heap.size + 1 < w1.heap.size := (by have := hb.size; simp only [World.size_alloc] at this; omega); clear hrd hn' ho hb HV; subst hv)
    | fail)
  unfold maxLen at hc2
  have hnl : n ≤ 16 := by have := HN.out; omega
  have hb0 : Blk w1 w.heap.size #[.int .i64 0, .int .i64 0] 49 := by
    have h1 : Blk (w.alloc (.cells #[.int .i64 0, .int .i64 0] 49)) w.heap.size #[.int .i64 0, .int .i64 0] 49 := heap_alloc_new w _
    exact Blk.below (h1.allc _) HB.out (by simp; omega)
  have hb1 : Blk w1 (w.heap.size + 1) #[.int .i64 0, .int .i64 0] 49 := by
    have h1 := heap_alloc_new (w.alloc (.cells #[.int .i64 0, .int .i64 0] 49)) (.cells #[.int .i64 0, .int .i64 0] 49)
    rw [World.size_alloc] at h1
    exact Blk.below h1 HB.out (by simp)
  have HB0 : Hid _ := hb0
  have HB1 : Hid _ := hb1
  have HBL : Hid (Below w.heap.size w w1) := bgo (((Below.refl _ _).alloc (Nat.le_refl _) _).alloc (by simp) _) HB.out (Nat.le_refl _)
  clear hb0 hb1
  go_loopw [5] (fun i wr => ∃ k : Nat, k ≤ n ∧ i = .int .i64 (k : Int) ∧ Hid (Blk wr w.heap.size #[.int .i64 0, .int .i64 0] 49) ∧ Hid (Blk wr (w.heap.size + 1) #[.int .i64 (rtg (l.take k)).r, .int .i64 (rtg (l.take k)).k] 49) ∧ Hid (Chg (fun b => b = w.heap.size + 1) w1 wr)) (fun i _ => n - (intOf i).toNat)
  case atStart => exact ⟨0, Nat.zero_le _, rfl, HB0, HB1, Chg.refl _ _⟩
  case round =>
    obtain ⟨k, hk, rfl, HA, HC, HD⟩ := hrel
    obtain ⟨tr, tk, hT⟩ : ∃ tr tk, rtg (l.take k) = ⟨tr, tk⟩ := ⟨_, _, rfl⟩
    rw [hT] at HC
    have b0 : wr.cell? ⟨w.heap.size + 1, 0, none⟩ = some (.int .i64 tr) := HC.out.cell 0
    have b1 : wr.cell? ⟨w.heap.size + 1, 1, none⟩ = some (.int .i64 tk) := HC.out.cell 1
    have f0 := HC.out.frozen 0
    have f1 := HC.out.frozen 1
    have hlt1 := HC.out.lt
    by_cases hlt : k < n
    · obtain ⟨e, he⟩ : ∃ e, l[k]? = some e := ⟨_, List.getElem?_eq_getElem (by rw [← HN.out]; exact hlt)⟩
      obtain ⟨q, rfl, hq1, hq2, hcell⟩ := HR.out (by have := HN.out; omega)
      have hqne : q ≠ w.heap.size + 1 := by simp only [World.size_alloc] at hq1; omega
      have d0 : wr.cell? ⟨q, k * 2, none⟩ = some (.int .i64 e.r) := (World.cell?_of_block (w := w1) (HD.out.block q hq2 hqne)).trans (hcell _ _ (flatE_at he).1)
      have d1 : wr.cell? ⟨q, k * 2 + 1, none⟩ = some (.int .i64 e.k) := (World.cell?_of_block (w := w1) (HD.out.block q hq2 hqne)).trans (hcell _ _ (flatE_at he).2)
      have HT : Hid (rtg (l.take (k + 1)) = if tr ≤ e.r then e else ⟨tr, tk⟩) := show _ = _ from by rw [rtg_take he, hT]
      obtain ⟨er, ek⟩ := e
      simp only at d0 d1 HT
      clear hT hcell he hq1 hq2 hqne
      by_cases h1 : tr ≤ er
      · have HT2 : Hid (rtg (l.take (k + 1)) = ⟨er, ek⟩) := HT.out.trans (if_pos h1)
        clear HT
        go_wp2_with fail
        go_quiet (fail)
        go_wp2_with fail
        go_roundw
        case rel =>
          refine ⟨k + 1, by omega, by go_num, ?_, ?_, ?_⟩
          · exact HA.out.oth2 (by omega) _ _
          · rw [HT2.out]; exact HC.out.set2 _ _
          · exact ((HD.out.drewN _).trans (setCell_chg _ _ _ _) (fun _ _ e => e)).trans (setCell_chg _ _ _ _) (fun _ _ e => e)
        case measure => simp [intOf]; omega
      · have HT2 : Hid (rtg (l.take (k + 1)) = ⟨tr, tk⟩) := HT.out.trans (if_neg h1)
        clear HT
        go_wp2_with fail
        go_quiet (fail)
        go_wp2_with fail
        go_roundw
        case rel =>
          refine ⟨k + 1, by omega, by go_num, ?_, ?_, ?_⟩
          · exact HA.out
          · rw [HT2.out]; exact HC.out
          · exact HD.out.drewN _
        case measure => simp [intOf]; omega
    · obtain rfl : k = n := by omega
      have HT : Hid (tgtE x x.n = ⟨tr, tk⟩) := show _ = _ from by rw [← HT0.out, ← hT, List.take_of_length_le (by rw [HN.out]; exact Nat.le_refl _)]
      clear hT
      have a0 : wr.cell? ⟨w.heap.size, 0, none⟩ = some (.int .i64 0) := HA.out.cell 0
      have a1 : wr.cell? ⟨w.heap.size, 1, none⟩ = some (.int .i64 0) := HA.out.cell 1
      have g0 := HA.out.frozen 0
      have g1 := HA.out.frozen 1
      go_wp2
      refine end_ep Try.results70 rfl (HA.out.set2 _ _) ⟨by rw [HT.out], bset2 (HBL.out.trans (HD.out.below (by omega) (fun k e => by omega))) (Nat.le_refl _) _ _⟩
set_option maxRecDepth 100000 in
set_option maxHeartbeats 3200000 in
theorem rfrozen_any {L : Nat} {g : RG} {x : EV} {r : RV} (w : World) (h : RM L g r w) (ha : Agr x r) (hx : x.Nm) : Calls Try.prog 68 #[.pointer (some ⟨g.rb, 0, none⟩)] w fun e w' => e = .returned (.bool (!decide (tgtE x x.n = e0))) ∧ Below w.heap.size w w' := by
  have HV : Hid _ := rlive_any w h ha hx
  have hT0 : tgtE x x.n = e0 ↔ (liveL x x.n).length = 0 := by
    constructor
    · intro q
      have hr := rtg_live ha x.n
      rw [q] at hr
      rcases List.eq_nil_or_concat (liveL x x.n) with h1 | ⟨l0, e, h1⟩
      · rw [h1]; rfl
      · exfalso
        have hall : ∀ k, ∀ e ∈ liveL x k, 0 < e.r := fun k => by
          induction k with
          | zero => intro e he; cases he
          | succ k ih =>
            intro e he
            have e2 : liveL x (k + 1) = if liveE x k = e0 then liveL x k else liveL x k ++ [liveE x k] := rfl
            rw [e2] at he
            rcases liveE_nn ha k with q1 | ⟨q1, q2⟩
            · rw [if_pos q1] at he; exact ih e he
            · by_cases q3 : liveE x k = e0
              · rw [if_pos q3] at he; exact ih e he
              · rw [if_neg q3] at he
                rcases List.mem_append.1 he with q4 | q4
                · exact ih e q4
                · rw [List.mem_singleton.1 q4, q1]; exact q2
        have he : 0 < e.r := hall x.n e (by rw [h1]; simp)
        rw [h1, List.concat_eq_append, rtg_app] at hr
        have e1 : e0.r = 0 := rfl
        by_cases q2 : (rtg l0).r ≤ e.r
        · rw [if_pos q2] at hr; rw [hr, e1] at he; omega
        · rw [if_neg q2] at hr; rw [hr, e1] at q2; omega
    · intro q
      rw [← rtg_live ha x.n, List.eq_nil_of_length_eq_zero q]
      rfl
  have HT : Hid ((!decide (tgtE x x.n = e0)) = decide (0 < (liveL x x.n).length)) := show _ = _ from by
    rw [Bool.eq_iff_iff]
    simp only [Bool.not_eq_true', decide_eq_false_iff_not, decide_eq_true_eq, hT0]
    omega
  have hll : (liveL x x.n).length ≤ 16 := by have := liveL_len x x.n; have := hx.n.2; omega
  clear h ha hx hT0
  go_enter Try.func68, Try.ntmps68
  go_wp2_with (first
    | (go_at_call 66; refine Calls.mono HV.out ?_; rintro e w1 ⟨v, rfl, ho, hb⟩; obtain ⟨ao, cap, hv, _⟩ := own_slice ho; have HB : Hid _ := hb; subst hv)
    | fail)
  go_ret
  refine ⟨?_, HB.out⟩
  rw [HT.out]
  simp
end Go.Proofs.Ytjojhhkbebddmaa
