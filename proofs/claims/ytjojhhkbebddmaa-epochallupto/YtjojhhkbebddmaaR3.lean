import Derived.Test.YtjojhhkbebddmaaR1
namespace Go.Proofs.Ytjojhhkbebddmaa
open Go.RowKit Go.PlainAid
set_option linter.unusedVariables false
set_option linter.unusedSimpArgs false
theorem liveL_mem {x : EV} : ∀ (k : Nat) (e : Ep), e ∈ liveL x k → ∃ j, j < k ∧ e = liveE x j ∧ e ≠ e0
  | 0, e, h => by cases h
  | k + 1, e, h => by
    have e2 : liveL x (k + 1) = if liveE x k = e0 then liveL x k else liveL x k ++ [liveE x k] := rfl
    rw [e2] at h
    by_cases q : liveE x k = e0
    · rw [if_pos q] at h
      obtain ⟨j, h1, h2⟩ := liveL_mem k e h
      exact ⟨j, by omega, h2⟩
    · rw [if_neg q] at h
      rcases List.mem_append.1 h with h | h
      · obtain ⟨j, h1, h2⟩ := liveL_mem k e h
        exact ⟨j, by omega, h2⟩
      · rw [List.mem_singleton.1 h]
        exact ⟨k, by omega, rfl, q⟩
theorem liveL_has {x : EV} : ∀ (k j : Nat), j < k → liveE x j ≠ e0 → liveE x j ∈ liveL x k
  | 0, j, h, _ => by omega
  | k + 1, j, h, hj => by
    have e2 : liveL x (k + 1) = if liveE x k = e0 then liveL x k else liveL x k ++ [liveE x k] := rfl
    rw [e2]
    by_cases q : j = k
    · subst q
      rw [if_neg hj]
      simp
    · have := liveL_has k j (by omega) hj
      split
      · exact this
      · exact List.mem_append_left _ this
theorem liveE_k {x : EV} {j : Nat} (h : liveE x j ≠ e0) : (liveE x j).k = j := by
  unfold liveE at h ⊢
  by_cases q : x.kn j = x.fi j
  · rw [if_pos q] at h; exact absurd rfl h
  · rw [if_neg q]
set_option maxRecDepth 100000 in
set_option maxHeartbeats 3200000 in
theorem rown_any {L : Nat} {g : RG} {x : EV} {r : RV} (w : World) (h : RM L g r w) (ha : Agr x r) (hx : x.Nm) : Calls Try.prog 46 #[.pointer (some ⟨g.rb, 0, none⟩)] w fun e w' => e = .returned (epV (liveE x x.me)) ∧ Below w.heap.size w w' := by
  have HV : Hid (∀ W, Below w.heap.size w W → Calls Try.prog 66 #[.pointer (some ⟨g.rb, 0, none⟩)] W fun e w' => ∃ v, e = .returned v ∧ w'.ownsRow W.heap.size 49 2 v (liveL x x.n).length (flatE (liveL x x.n)) ∧ Below W.heap.size W w') := fun W hW => rlive_any W (h.more hW) ha hx
  have HIT : Hid (∀ e ∈ liveL x x.n, e.k = x.me → e = liveE x x.me) := show ∀ e ∈ liveL x x.n, e.k = x.me → e = liveE x x.me from fun e he hk => by
    obtain ⟨j, h1, h2, h3⟩ := liveL_mem _ _ he
    rw [h2] at h3 hk ⊢
    rw [liveE_k h3] at hk
    obtain rfl : j = x.me := by omega
    rfl
  have HNO : Hid ((∀ e ∈ liveL x x.n, e.k ≠ x.me) → liveE x x.me = e0) := show (∀ e ∈ liveL x x.n, e.k ≠ x.me) → liveE x x.me = e0 from fun hn => by
    by_cases q : liveE x x.me = e0
    · exact q
    · exact absurd (liveE_k q) (hn _ (liveL_has _ _ hx.me q))
  obtain ⟨l, hl⟩ : ∃ l, l = liveL x x.n := ⟨_, rfl⟩
  have hll := liveL_len x x.n
  have hn := hx.n.2
  rw [← hl] at HV HIT HNO hll
  have HM : Hid _ := h
  have hme := ha.me
  have HME : Hid (∀ W, Below w.heap.size w W → W.cell? ⟨g.rb, 0, none⟩ = some (.int .i64 (x.me : Int))) := fun W hW => by rw [← hme]; exact (h.more hW).c0
  have hrb := h.b.lt
  generalize liveE x x.me = E at *
  obtain ⟨pr, pk⟩ := E
  clear h ha hx hl hme
  unfold epV at *
  go_enter Try.func46, Try.ntmps46
  go_wp2_with (first
    | (go_at_call 66; refine Calls.mono (HV.out _ ((Below.refl _ _).alloc (Nat.le_refl _) _)) ?_; rintro e w1 ⟨v, rfl, ho, hb⟩; obtain ⟨ao, cap, hv, hc1, hc2, hrd⟩ := own_read ho; obtain ⟨n, hn'⟩ : ∃ n, n = l.length := ⟨_, rfl⟩; rw [← hn'] at hv hc1; have HR : Hid _ := hrd; have HN : Hid _ := hn'; have HB : Hid _ := hb; have hsz : w.heap.size < w1.heap.size := (by have := hb.size; simp only [World.size_alloc] at this; omega); clear hrd hn' ho hb HV; subst hv)
    | fail)
  unfold maxLen at hc2
  have hnl : n ≤ 16 := by have := HN.out; omega
  have HBL : Hid (Below w.heap.size w w1) := bgo ((Below.refl _ _).alloc (Nat.le_refl _) _) HB.out (Nat.le_refl _)
  have hb0 : Blk w1 w.heap.size #[.int .i64 0, .int .i64 0] 49 := by
    have h1 : Blk (w.alloc (.cells #[.int .i64 0, .int .i64 0] 49)) w.heap.size #[.int .i64 0, .int .i64 0] 49 := heap_alloc_new w _
    exact Blk.below h1 HB.out (by simp)
  have HB0 : Hid _ := hb0
  have g0 := hb0.cell 0
  have g1 := hb0.cell 1
  have f0 := hb0.frozen 0
  have f1 := hb0.frozen 1
  have m0 := HME.out _ HBL.out
  clear hb0
  go_loopw [4] (fun i wr => ∃ k : Nat, ∃ z : Nat, k ≤ n ∧ i = .int .i64 (k : Int) ∧ wr = w1.drewN z ∧ Hid (∀ j e, j < k → l[j]? = some e → e.k ≠ x.me)) (fun i _ => n - (intOf i).toNat)
  case atStart => exact ⟨0, 0, Nat.zero_le _, rfl, rfl, fun j e h => by omega⟩
  case round =>
    obtain ⟨k, z, hk, rfl, rfl, HD⟩ := hrel
    have m0' : (w1.drewN z).cell? ⟨g.rb, 0, none⟩ = some (.int .i64 (x.me : Int)) := m0
    have g0' : (w1.drewN z).cell? ⟨w.heap.size, 0, none⟩ = some (.int .i64 0) := g0
    have g1' : (w1.drewN z).cell? ⟨w.heap.size, 1, none⟩ = some (.int .i64 0) := g1
    have f0' : (w1.drewN z).frozen? ⟨w.heap.size, 0, none⟩ = false := f0
    have f1' : (w1.drewN z).frozen? ⟨w.heap.size, 1, none⟩ = false := f1
    by_cases hlt : k < n
    · obtain ⟨e, he⟩ : ∃ e, l[k]? = some e := ⟨_, List.getElem?_eq_getElem (by rw [← HN.out]; exact hlt)⟩
      obtain ⟨q, rfl, hq1, hq2, hcell⟩ := HR.out (by have := HN.out; omega)
      have b0 : w1.cell? ⟨q, k * 2, none⟩ = some (.int .i64 e.r) := hcell _ _ (flatE_at he).1
      have b1 : w1.cell? ⟨q, k * 2 + 1, none⟩ = some (.int .i64 e.k) := hcell _ _ (flatE_at he).2
      have d0 : (w1.drewN z).cell? ⟨q, k * 2, none⟩ = some (.int .i64 e.r) := b0
      have d1 : (w1.drewN z).cell? ⟨q, k * 2 + 1, none⟩ = some (.int .i64 e.k) := b1
      have HE : Hid _ := he
      have hem := HIT.out e (List.mem_of_getElem? he)
      obtain ⟨er, ek⟩ := e
      simp only at b0 b1 d0 d1 hem
      clear hcell he hq1 hq2
      by_cases h1 : ek = x.me
      · have hE := hem h1
        simp only [Ep.mk.injEq] at hE
        obtain ⟨rfl, rfl⟩ := hE
        have h1b : (er == er) = true := by simp
        subst h1
        clear hem
        go_wp2_with fail
        go_quiet (fail)
        go_wp2_with fail
        refine end_ep Try.results46 rfl (Blk.set2 (w := w1.drewN _) HB0.out _ _) ⟨rfl, bset2 (below_drewN HBL.out _) (Nat.le_refl _) _ _⟩
      · have h1b : (ek == (x.me : Int)) = false := by simpa using h1
        clear hem
        go_wp2_with fail
        go_quiet (fail)
        go_wp2_with fail
        go_roundw
        case rel =>
          refine ⟨k + 1, _, by omega, by go_num, rfl, fun j e hj he => ?_⟩
          by_cases hjk : j = k
          · subst hjk
            rw [HE.out] at he
            cases he
            exact h1
          · exact HD.out j e (by omega) he
        case measure => simp [intOf]; omega
    · obtain rfl : k = n := by omega
      have hE : (⟨pr, pk⟩ : Ep) = e0 := HNO.out (fun e he => by
        obtain ⟨j, hj⟩ := List.mem_iff_getElem?.1 he
        exact HD.out j e (by have := (List.getElem?_eq_some_iff.1 hj).1; rw [HN.out]; exact this) hj)
      have q1 := congrArg Ep.r hE
      have q2 := congrArg Ep.k hE
      simp only [e0] at q1 q2
      subst q1 q2
      clear hE
      go_wp2_with fail
      refine end_ep Try.results46 rfl (Blk.set2 (w := w1.drewN _) HB0.out _ _) ⟨rfl, bset2 (below_drewN HBL.out _) (Nat.le_refl _) _ _⟩
end Go.Proofs.Ytjojhhkbebddmaa
