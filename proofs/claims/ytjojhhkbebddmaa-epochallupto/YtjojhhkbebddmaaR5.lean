import Derived.Test.YtjojhhkbebddmaaR4
namespace Go.Proofs.Ytjojhhkbebddmaa
open Go.RowKit Go.PlainAid
set_option linter.unusedVariables false
set_option linter.unusedSimpArgs false
theorem sumH_zero {f : Nat → Int} {n : Nat} (h : ∀ j, n ≤ j → f j = 0) : ∀ k, n ≤ k → sumH f k = sumH f n := by
  intro k hk
  induction k with
  | zero => have : n = 0 := by omega
            subst this; rfl
  | succ k ih =>
    by_cases q : n = k + 1
    · subst q; rfl
    · show sumH f k + f k = _
      rw [h k (by omega), ih (by omega)]
      omega
theorem Agr.hiRep {x : EV} {r : RV} (ha : Agr x r) {j : Nat} (hj : x.n ≤ j) : x.rep j = false := by
  by_cases q : liveE x x.me = e0
  · exact ha.zr q j
  · have := (ha.rp q).2 j
    rw [rpt_none (fun k u hu hh => by
      have := (ha.nt u (List.mem_of_getElem? hu)).2.2.2.2.1
      rw [hh.1] at this
      omega)] at this
    by_cases q2 : x.rep j = true
    · rw [if_pos q2] at this; cases this
    · simpa using q2
theorem Agr.sum {x : EV} {r : RV} (ha : Agr x r) (hx : x.Nm) : sumH x.hd 16 = sumH x.hd x.n := sumH_zero (fun j hj => ha.h0 j (ha.hiRep hj)) 16 hx.n.2
set_option maxRecDepth 100000 in
set_option maxHeartbeats 3200000 in
theorem rreported_any {L : Nat} {g : RG} {x : EV} {r : RV} (w : World) (h : RM L g r w) (ha : Agr x r) (hx : x.Nm) : Calls Try.prog 74 #[.pointer (some ⟨g.rb, 0, none⟩)] w fun e w' => e = .returned (.int .i64 (sumH x.hd 16)) ∧ Below w.heap.size w w' := by
  have HR : Hid (∀ (j : Nat) W, Below w.heap.size w W → Calls Try.prog 83 #[.pointer (some ⟨g.rb, 0, none⟩), .int .i64 (j : Int)] W fun e w' => e = .returned (.tuple #[.int .i64 (x.hd j), .bool (x.rep j)]) ∧ Below W.heap.size W w') := fun j W hW => rreport_any j W (h.more hW) ha hx
  have HC : Hid (∀ W, Below w.heap.size w W → W.cell? ⟨g.rb, 1, none⟩ = some (.int .i64 (x.n : Int))) := fun W hW => by rw [← ha.n]; exact (h.more hW).c1
  have HD : Hid _ := hx.hd
  have hn := hx.n.2
  rw [ha.sum hx]
  clear h ha hx
  go_enter Try.func74, Try.ntmps74
  go_wp2
  go_loopw [3, 4] (fun s i wr => ∃ k : Nat, k ≤ x.n ∧ i = .int .i64 (k : Int) ∧ s = .int .i64 (sumH x.hd k) ∧ Hid (Below w.heap.size w wr)) (fun _ i _ => x.n - (intOf i).toNat)
  case atStart => exact ⟨0, Nat.zero_le _, rfl, rfl, Below.refl _ _⟩
  case round =>
    obtain ⟨k, hk, rfl, rfl, HB⟩ := hrel
    have c1 := HC.out _ HB.out
    by_cases hlt : k < x.n
    · have hb := sumH_bd HD.out k
      have hj := HD.out k
      have HS : Hid (sumH x.hd (k + 1) = sumH x.hd k + x.hd k) := rfl
      generalize sumH x.hd k = s at *
      have HRK : Hid _ := HR.out k wr HB.out
      generalize x.hd k = v at *
      have hs : s ≤ 17592186044416 := by omega
      obtain ⟨hb1, hb2⟩ := hb
      obtain ⟨hj1, hj2⟩ := hj
      clear hb2
      go_wp2_with (first
        | (go_at_call 83; refine Calls.mono HRK.out ?_; rintro e w1 ⟨rfl, hb3⟩)
        | fail)
      go_roundw
      case rel => exact ⟨k + 1, by omega, by go_num, by rw [HS.out], HB.out.trans (hb3.mono HB.out.size)⟩
      case measure => simp [intOf]; omega
    · obtain rfl : k = x.n := by omega
      go_wp2
      go_ret
      exact ⟨rfl, HB.out⟩
set_option maxRecDepth 100000 in
set_option maxHeartbeats 3200000 in
theorem rall_any {L : Nat} {g : RG} {x : EV} {r : RV} (w : World) (h : RM L g r w) (ha : Agr x r) (hx : x.Nm) : Calls Try.prog 75 #[.pointer (some ⟨g.rb, 0, none⟩)] w fun e w' => e = .returned (.bool (allB x)) ∧ Below w.heap.size w w' := by
  have HR : Hid (∀ (j : Nat) W, Below w.heap.size w W → Calls Try.prog 83 #[.pointer (some ⟨g.rb, 0, none⟩), .int .i64 (j : Int)] W fun e w' => e = .returned (.tuple #[.int .i64 (x.hd j), .bool (x.rep j)]) ∧ Below W.heap.size W w') := fun j W hW => rreport_any j W (h.more hW) ha hx
  have HC : Hid (∀ W, Below w.heap.size w W → W.cell? ⟨g.rb, 1, none⟩ = some (.int .i64 (x.n : Int)) ∧ W.cell? ⟨g.rb, 0, none⟩ = some (.int .i64 (x.me : Int))) := fun W hW => ⟨by rw [← ha.n]; exact (h.more hW).c1, by rw [← ha.me]; exact (h.more hW).c0⟩
  have hn := hx.n.2
  clear h ha hx
  go_enter Try.func75, Try.ntmps75
  go_wp2
  go_loopw [3] (fun i wr => ∃ k : Nat, k ≤ x.n ∧ i = .int .i64 (k : Int) ∧ Hid (Below w.heap.size w wr) ∧ Hid (∀ j, j < k → j ≠ x.me → x.rep j = true)) (fun i _ => x.n - (intOf i).toNat)
  case atStart => exact ⟨0, Nat.zero_le _, rfl, Below.refl _ _, fun j h => by omega⟩
  case round =>
    obtain ⟨k, hk, rfl, HB, HJ⟩ := hrel
    obtain ⟨c1, c0⟩ := HC.out _ HB.out
    by_cases hlt : k < x.n
    · have HRK : Hid _ := HR.out k wr HB.out
      have HF : Hid (x.rep k = false → k ≠ x.me → allB x = false) := show x.rep k = false → k ≠ x.me → allB x = false from fun hr hm => decide_eq_false (fun h => by have := h k hlt hm; rw [hr] at this; cases this)
      obtain ⟨b, hbb⟩ : ∃ b, b = x.rep k := ⟨_, rfl⟩
      have HBB : Hid (b = x.rep k) := hbb
      rw [← hbb] at HRK
      clear hbb
      by_cases hm : k = x.me
      · subst hm
        cases b
        all_goals
          go_wp2_with (first
            | (go_at_call 83; refine Calls.mono HRK.out ?_; rintro e w1 ⟨rfl, hb3⟩; obtain ⟨d1, d0⟩ := HC.out _ (HB.out.trans (hb3.mono HB.out.size)))
            | fail)
          go_roundw
          case rel =>
            refine ⟨x.me + 1, by omega, by go_num, HB.out.trans (hb3.mono HB.out.size), fun j h1 h2 => HJ.out j (by omega) h2⟩
          case measure => simp [intOf]; omega
      · have hmi : ¬ (k : Int) = (x.me : Int) := by omega
        have hmb : ((k : Int) == (x.me : Int)) = false := by simpa using hmi
        cases b
        · have HFF : Hid (allB x = false) := HF.out HBB.out.symm hm
          go_wp2_with (first
            | (go_at_call 83; refine Calls.mono HRK.out ?_; rintro e w1 ⟨rfl, hb3⟩; obtain ⟨d1, d0⟩ := HC.out _ (HB.out.trans (hb3.mono HB.out.size)))
            | fail)
          go_ret
          exact ⟨by rw [HFF.out]; rfl, HB.out.trans (hb3.mono HB.out.size)⟩
        · skip
          go_wp2_with (first
            | (go_at_call 83; refine Calls.mono HRK.out ?_; rintro e w1 ⟨rfl, hb3⟩; obtain ⟨d1, d0⟩ := HC.out _ (HB.out.trans (hb3.mono HB.out.size)))
            | fail)
          go_roundw
          case rel =>
            refine ⟨k + 1, by omega, by go_num, HB.out.trans (hb3.mono HB.out.size), fun j h1 h2 => ?_⟩
            by_cases q : j = k
            · rw [q]; exact HBB.out.symm
            · exact HJ.out j (by omega) h2
          case measure => simp [intOf]; omega
    · obtain rfl : k = x.n := by omega
      have HT : Hid (allB x = true) := show _ = _ from decide_eq_true (fun j h1 h2 => HJ.out j h1 h2)
      go_wp2
      go_ret
      exact ⟨by rw [HT.out]; rfl, HB.out⟩
set_option maxRecDepth 100000 in
set_option maxHeartbeats 3200000 in
theorem right_any (l r h : Int) (w : World) : Calls Try.prog 67 #[.int .i64 l, .int .i64 r, .int .i64 h] w fun e w' => e = .returned (.bool (cnts l r h)) ∧ w' = w := by
  have e : cnts l r h = (decide (1 ≤ l) && decide (l ≤ 1099511627776) && decide (0 ≤ r) && decide (r ≤ 1099511627776) && decide (0 ≤ h) && decide (h ≤ 1099511627776)) := by
    rw [Bool.eq_iff_iff]
    unfold cnts cnt
    simp only [Bool.and_eq_true, decide_eq_true_eq]
    omega
  rw [e]
  go_enter Try.func67, Try.ntmps67
  by_cases h1 : 1 ≤ l
  · by_cases h2 : l ≤ 1099511627776
    · by_cases h3 : 0 ≤ r
      · by_cases h4 : r ≤ 1099511627776
        · by_cases h5 : 0 ≤ h
          · go_wp2
            go_ret
            exact ⟨by first | (simp [h1, h2, h3, h4, h5]; done) | (simp [h1, h2, h3, h4, h5]; omega), rfl⟩
          · go_wp2
            go_ret
            exact ⟨by first | (simp [h1, h2, h3, h4, h5]; done) | (simp [h1, h2, h3, h4, h5]; omega), rfl⟩
        · go_wp2
          go_ret
          exact ⟨by first | (simp [h1, h2, h3, h4]; done) | (simp [h1, h2, h3, h4]; omega), rfl⟩
      · go_wp2
        go_ret
        exact ⟨by first | (simp [h1, h2, h3]; done) | (simp [h1, h2, h3]; omega), rfl⟩
    · go_wp2
      go_ret
      exact ⟨by first | (simp [h1, h2]; done) | (simp [h1, h2]; omega), rfl⟩
  · go_wp2
    go_ret
    exact ⟨by first | (simp [h1]; done) | (simp [h1]; omega), rfl⟩
def oneB (n : Nat) (a b : Int) : Bool := decide (1 ≤ a) && decide (a ≤ 1099511627776) && decide (0 ≤ b) && decide (b < n)
set_option maxRecDepth 100000 in
set_option maxHeartbeats 3200000 in
theorem one_any {L : Nat} {g : RG} {r : RV} (a b : Int) (w : World) (h : RM L g r w) : Calls Try.prog 73 #[.pointer (some ⟨g.rb, 0, none⟩), .agg #[.int .i64 a, .int .i64 b]] w fun e w' => e = .returned (.bool (oneB r.n a b)) ∧ Below w.heap.size w w' := by
  have c1 : (w.alloc (.cells #[.int .i64 a, .int .i64 b] 49)).cell? ⟨g.rb, 1, none⟩ = some (.int .i64 (r.n : Int)) := (h.more ((Below.refl _ _).alloc (Nat.le_refl _) _)).c1
  have hB : Blk (w.alloc (.cells #[.int .i64 a, .int .i64 b] 49)) w.heap.size #[.int .i64 a, .int .i64 b] 49 := heap_alloc_new w _
  have k0 := hB.cell 0
  have k1 := hB.cell 1
  have hb : Below w.heap.size w (w.alloc (.cells #[.int .i64 a, .int .i64 b] 49)) := (Below.refl _ _).alloc (Nat.le_refl _) _
  obtain ⟨W, hW⟩ : ∃ W, W = w.alloc (.cells #[.int .i64 a, .int .i64 b] 49) := ⟨_, rfl⟩
  rw [← hW] at c1 k0 k1 hb
  have HB : Hid _ := hb
  have HW : Hid _ := hW
  clear h hB hb
  unfold oneB
  go_enter Try.func73, Try.ntmps73
  go_upto_region 1 with fail
  rw [← HW.out]
  clear HW hW
  by_cases h1 : 1 ≤ a
  · by_cases h2 : a ≤ 1099511627776
    · by_cases h3 : 0 ≤ b
      · go_quiet (fail)
        go_wp2
        go_ret
        exact ⟨by first | (simp [h1, h2, h3]; done) | (simp [h1, h2, h3]; omega), below_drewN HB.out _⟩
      · go_quiet (fail)
        go_wp2
        go_ret
        exact ⟨by first | (simp [h1, h2, h3]; done) | (simp [h1, h2, h3]; omega), below_drewN HB.out _⟩
    · go_quiet (fail)
      go_wp2
      go_ret
      exact ⟨by first | (simp [h1, h2]; done) | (simp [h1, h2]; omega), below_drewN HB.out _⟩
  · go_quiet (fail)
    go_wp2
    go_ret
    exact ⟨by first | (simp [h1]; done) | (simp [h1]; omega), below_drewN HB.out _⟩
end Go.Proofs.Ytjojhhkbebddmaa
