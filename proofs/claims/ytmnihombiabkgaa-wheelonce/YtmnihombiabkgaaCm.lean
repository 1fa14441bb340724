import Derived.Test.YtmnihombiabkgaaCm0
namespace Go.Proofs.Ytmnihombiabkgaa
open Go.RowKit Go.PlainAid Go.MapKept
set_option linter.unusedVariables false
set_option linter.unusedSimpArgs false
theorem tm_inj {a b : Tm} (h : a = b) : a.due = b.due ∧ a.num = b.num ∧ a.kind = b.kind ∧ a.id = b.id := by subst h; exact ⟨rfl, rfl, rfl, rfl⟩
set_option maxRecDepth 100000 in
set_option maxHeartbeats 6400000 in
theorem came_any {base whb mp gd N cap n : Nat} {u now last : Int} {vs : List Value} {DU : List Int} (w : World) (h : WL base whb mp u vs now last (tmsOf DU n) ((tmsOf DU n).map (kvT u)) w) (hB : WB u now last (tmsOf DU n)) (hnl : now < 1000000)
    (hr : w.ownsRow base 3 1 (.slice (some ⟨gd, 0, none⟩) N cap) N (DU.map I)) (hn : n < N) (hN : N ≤ 61) (hg : ¬ wown whb mp vs gd) :
    Calls Try.prog 15 #[.pointer (some ⟨whb, 0, none⟩), .slice (some ⟨gd, 0, none⟩) N cap, .int .i64 (n : Int)] w fun e w' => e = .returned (.bool true) ∧ ∃ vs', WL base whb mp u vs' (now + 1) last (tmsOf (zer (now + 1) DU n) n) ((tmsOf (zer (now + 1) DU n) n).map (kvT u)) w' ∧
      w'.ownsRow base 3 1 (.slice (some ⟨gd, 0, none⟩) N cap) N ((zer (now + 1) DU n).map I) ∧ Chg (fun k => wown whb mp vs k ∨ k = gd) w w' ∧ ∀ k, wown whb mp vs' k → wown whb mp vs k := by
  have hlD : DU.length = N := by simpa using hr.1
  have hgl : gd < w.heap.size := (ownsRow_lt hr rfl).2
  have hw1 := hB.hw
  have HT : Hid _ := tick_any w h hB hnl
  obtain ⟨nw, hnw⟩ : ∃ nw, nw = now + 1 := ⟨_, rfl⟩
  rw [← hnw] at HT ⊢
  have hn0 : nw ≠ 0 := by omega
  have hnr : 0 ≤ nw ∧ nw ≤ 1000000 := by omega
  have HR : Hid _ := hr
  have HG : Hid (¬ wown whb mp vs gd) := hg
  have HLD : Hid (DU.length = N) := hlD
  clear h hB hr hg hw1 hnl hnw hlD
  go_enter Try.func15, Try.ntmps15
  go_wp2_with fail
  refine Calls.mono HT.out ?_
  rintro e w1 ⟨v1, rfl, hr1, vs1, hW1, hc1, ho1⟩
  have HNOW : Hid _ := now_any w1 hW1
  rw [stay_zer nw DU hn0 n (by rw [HLD.out]; exact hn)] at hW1
  have HW1 : Hid _ := hW1
  have HC1 : Hid _ := hc1
  have HO1 : Hid _ := ho1
  have HR1 : Hid (w1.ownsRow base 3 1 (.slice (some ⟨gd, 0, none⟩) N cap) N (DU.map I)) := ownsRow_same HR.out (fun g e => hc1.block g (ownsRow_lt HR.out e).2 (fun hk => by cases e; exact HG.out hk))
  obtain ⟨ao, cp, hv1, hcp⟩ := own_slice hr1
  subst hv1
  have HRT : Hid _ := hr1
  obtain ⟨q0, hq0⟩ : ∃ q0, q0 = (comes nw (tmsOf DU n)).length := ⟨_, rfl⟩
  rw [← hq0]
  have HQ0 : Hid (q0 = (comes nw (tmsOf DU n)).length) := hq0
  have hql : q0 ≤ 61 := by
    have h1 : ∀ m, (tmsOf DU m).length ≤ m := fun m => by
      induction m with
      | zero => exact Nat.le_refl 0
      | succ m ih =>
        have : (tmAt DU (m + 1)).length ≤ 1 := by unfold tmAt; split <;> (try split) <;> simp
        rw [tmsOf, List.length_append]; omega
    have := h1 n
    have := comes_len nw (tmsOf DU n)
    omega
  clear hr1 hW1 hc1 ho1 HT HR hq0 hcp
  go_wp2_with fail
  refine Calls.mono HNOW.out ?_
  rintro e w2 ⟨rfl, hw2⟩
  replace hw2 := hw2.symm
  subst hw2
  clear HNOW
  go_wp2_with fail
  go_loopw [9, 10] (fun s9 s10 wr => ∃ m q : Nat, m ≤ n ∧ s10 = .int .i64 ((m : Int) + 1) ∧ s9 = .int .i64 (q : Int) ∧ Hid (q = (comes nw (tmsOf DU m)).length) ∧ Hid (wr.ownsRow base 3 1 (.slice (some ⟨gd, 0, none⟩) N cap) N ((zer nw DU m).map I)) ∧ Hid (Chg (fun k => k = gd) w1 wr)) (fun _ s10 _ => n + 1 - (intOf s10).toNat)
  case atStart => exact ⟨0, 0, Nat.zero_le _, rfl, rfl, rfl, by rw [zer_0]; exact HR1, Chg.refl _ _⟩
  case round =>
    clear HR1
    obtain ⟨m, q, hm, rfl, rfl, HQ, HRR, HCC⟩ := hrel
    by_cases hlt : m < n
    · obtain ⟨d, hd⟩ : ∃ d, DU[m + 1]? = some d := ⟨DU[m + 1]'(by rw [HLD.out]; omega), List.getElem?_eq_getElem _⟩
      have hzd : (zer nw DU m)[m + 1]? = some d := by
        rw [zer_get, hd]
        simp
        omega
      have hcell : wr.cell? ⟨gd, m + 1, none⟩ = some (.int .i64 d) := own_getI HRR.out hzd
      have HD : Hid (DU[m + 1]? = some d) := hd
      have hcs := comes_at (now := nw) hd hn0
      have htm : tmsOf DU (m + 1) = tmsOf DU m ++ tmAt DU (m + 1) := rfl
      by_cases hdn : d = nw
      · subst hdn
        rw [if_pos rfl] at hcs
        obtain ⟨r, hrr⟩ := tms_pre d DU (m + 1) n (by omega)
        rw [htm, comes_app, hcs] at hrr
        have hat : (comes d (tmsOf DU n))[q]? = some (tmOf (m + 1) d) := by
          rw [hrr, List.append_assoc, HQ.out, List.getElem?_append_right (Nat.le_refl _), Nat.sub_self]
          rfl
        have hqq : q < q0 := by
          rw [HQ0.out]
          exact (List.getElem?_eq_some_iff.1 hat).1
        obtain ⟨g, c, hv, _, _, _⟩ := own_some HRT.out (by rw [← HQ0.out]; omega)
        simp only [Value.slice.injEq] at hv
        obtain ⟨rfl, _, rfl⟩ := hv
        have hgne : g ≠ gd := by
          have := (ownsRow_lt (g := g) HRT.out rfl).1
          omega
        have HT1 : wr.ownsRow w.heap.size 50 4 (.slice (some ⟨g, 0, none⟩) (comes d (tmsOf DU n)).length cp) (comes d (tmsOf DU n)).length (flatT (comes d (tmsOf DU n))) := ownsRow_same HRT.out (fun k e => HCC.out.block k (ownsRow_lt HRT.out e).2 (fun e2 => by cases e; exact hgne e2))
        obtain ⟨x0, x1, x2, x3⟩ := cellT HT1 hat
        obtain ⟨hset, hfr⟩ := own_setI (k := m + 1) HRR.out (by omega) 0
        rw [← zer_put hd] at hset
        have HSET : Hid _ := hset
        have HCS : Hid (Chg (fun k => k = gd) w1 (wr.setCell ⟨gd, m + 1, none⟩ (.int .i64 0))) := HCC.out.trans (setCell_chg _ _ _ _) (fun _ _ e => e)
        have HQ1 : Hid (q + 1 = (comes d (tmsOf DU (m + 1))).length) := show q + 1 = (comes d (tmsOf DU (m + 1))).length from by rw [htm, comes_app, hcs, HQ.out]; simp
        have heq : (Go.Op.equal 50 (.agg #[.int .i64 d, .int .i64 ((m : Int) + 1), .int .i64 (99 + ((m : Int) + 1)), .int .i64 ((m : Int) + 1 - 1)]) (.agg #[.int .i64 d, .int .i64 ((m : Int) + 1), .int .i64 (99 + ((m : Int) + 1)), .int .i64 ((m : Int) + 1 - 1)])).run Try.prog wr = .ok true wr := by
          have := eqT ⟨d, (m : Int) + 1, 99 + ((m : Int) + 1), (m : Int) + 1 - 1⟩ ⟨d, (m : Int) + 1, 99 + ((m : Int) + 1), (m : Int) + 1 - 1⟩ wr
          rw [this]
          simp
        have y1 : wr.cell? ⟨g, q * 4 + 1, none⟩ = some (.int .i64 ((m : Int) + 1)) := x1
        have y2 : wr.cell? ⟨g, q * 4 + 2, none⟩ = some (.int .i64 (99 + ((m : Int) + 1))) := x2
        have y3 : wr.cell? ⟨g, q * 4 + 3, none⟩ = some (.int .i64 ((m : Int) + 1 - 1)) := x3
        have y0 : wr.cell? ⟨g, q * 4, none⟩ = some (.int .i64 d) := x0
        clear hset HT1 hat hrr htm hcs hd hzd x0 x1 x2 x3 HRR HCC HRT HQ HQ0
        go_wp2_with fail
        go_roundw
        case rel => exact ⟨m + 1, q + 1, by omega, by go_num, by go_num, HQ1, HSET, HCS⟩
        case measure => simp [intOf]; omega
      · rw [if_neg hdn] at hcs
        have HQ1 : Hid (q = (comes nw (tmsOf DU (m + 1))).length) := show q = (comes nw (tmsOf DU (m + 1))).length from by rw [htm, comes_app, hcs, HQ.out]; simp
        have HRR1 : Hid (wr.ownsRow base 3 1 (.slice (some ⟨gd, 0, none⟩) N cap) N ((zer nw DU (m + 1)).map I)) := show _ from by rw [zer_skip hd hdn]; exact HRR.out
        have hbq : (d == nw) = false := by simpa using hdn
        clear htm hcs hd hzd HRR HQ HQ0 HRT
        go_wp2_with fail
        go_roundw
        case rel => exact ⟨m + 1, q, by omega, by go_num, rfl, HQ1, HRR1, HCC⟩
        case measure => simp [intOf]; omega
    · obtain rfl : m = n := by omega
      have hqe : q = q0 := HQ.out.trans HQ0.out.symm
      subst hqe
      go_wp2_with fail
      go_ret
      refine ⟨rfl, vs1, HW1.out.keep HCC.out (fun k hk e => ?_), HRR.out, ?_, HO1.out⟩
      · subst e
        exact HG.out (HO1.out _ hk)
      · exact (HC1.out.mono (fun j _ e => Or.inl e)).trans HCC.out (fun j _ e => Or.inr e)
end Go.Proofs.Ytmnihombiabkgaa
