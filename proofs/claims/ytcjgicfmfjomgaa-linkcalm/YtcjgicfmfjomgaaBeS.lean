import Derived.Test.YtcjgicfmfjomgaaBe
namespace Go.Proofs.Ytcjgicfmfjomgaa
open Go.RowKit Go.PlainAid Go.MapKept
set_option linter.unusedVariables false
set_option linter.unusedSimpArgs false
set_option maxRecDepth 100000 in
set_option maxHeartbeats 3200000 in
theorem begunS_any (x0 x1 x2 : Int) (w : World) (h0 : -9223372036854775808 ≤ x0 ∧ x0 ≤ 9223372036854775807) (h1 : -9223372036854775808 ≤ x1 ∧ x1 ≤ 9223372036854775807) (h2 : -9223372036854775808 ≤ x2 ∧ x2 ≤ 9223372036854775807) :
    Calls Try.prog 21 #[.int .i64 x0, .int .i64 x1, .int .i64 x2] w fun e w' => ∃ xb S col, e = .returned (.pointer (some ⟨xb, 0, none⟩)) ∧ LNM w.heap.size xb S col w' ∧ S.sent = [] ∧ LInv S (winOf (wi x0 16) (wi x1 16)) (wi x2 20) 0 ∧ Below w.heap.size w w' := by
  have HW0 : Hid (∀ w, Calls Try.prog 15 #[.int .i64 x0, .int .i64 1, .int .i64 16] w _) := fun w => within_16 x0 w h0
  have HW1 : Hid (∀ w, Calls Try.prog 15 #[.int .i64 x1, .int .i64 1, .int .i64 16] w _) := fun w => within_16 x1 w h1
  have HW2 : Hid (∀ w, Calls Try.prog 15 #[.int .i64 x2, .int .i64 1, .int .i64 20] w _) := fun w => within_20 x2 w h2
  have g0 := wi_le x0 16 (by omega)
  have g1 := wi_le x1 16 (by omega)
  have g2 := wi_le x2 20 (by omega)
  obtain ⟨a, ha⟩ : ∃ a, a = wi x0 16 := ⟨_, rfl⟩
  obtain ⟨b, hb⟩ : ∃ b, b = wi x1 16 := ⟨_, rfl⟩
  obtain ⟨n, hn⟩ : ∃ n, n = wi x2 20 := ⟨_, rfl⟩
  rw [← ha] at HW0 g0 ⊢
  rw [← hb] at HW1 g1 ⊢
  rw [← hn] at HW2 g2 ⊢
  clear ha hb hn h0 h1 h2
  go_enter Try.func21, Try.ntmps21
  go_wp2_with fail
  refine Calls.mono (HW0.out _) ?_
  rintro e w' ⟨rfl, hw'⟩
  replace hw' := hw'.symm
  subst hw'
  go_wp2_with fail
  refine Calls.mono (HW2.out _) ?_
  rintro e w' ⟨rfl, hw'⟩
  replace hw' := hw'.symm
  subst hw'
  go_wp2_with fail
  refine Calls.mono (new_any 3 5 a n w (by omega) (by omega) (by omega) (by omega) (by omega)) ?_
  rintro e w1 ⟨rfl, hM1, hb1⟩
  have HM1 : Hid _ := hM1
  have HB1 : Hid _ := hb1
  obtain ⟨p0, hp0⟩ : ∃ p0, p0 = w.heap.size + 2 := ⟨_, rfl⟩
  have HP0 : Hid (p0 = w.heap.size + 2) := hp0
  rw [← hp0]
  clear hM1 hb1 hp0
  go_wp2_with fail
  refine Calls.mono (HW1.out _) ?_
  rintro e w' ⟨rfl, hw'⟩
  replace hw' := hw'.symm
  subst hw'
  go_wp2_with fail
  refine Calls.mono (HW2.out _) ?_
  rintro e w' ⟨rfl, hw'⟩
  replace hw' := hw'.symm
  subst hw'
  go_wp2_with fail
  refine Calls.mono (new_any 5 3 b n w1 (by omega) (by omega) (by omega) (by omega) (by omega)) ?_
  rintro e w2 ⟨rfl, hM2, hb2⟩
  have HM2 : Hid _ := hM2
  have HB2 : Hid _ := hb2
  obtain ⟨p1, hp1⟩ : ∃ p1, p1 = w1.heap.size + 2 := ⟨_, rfl⟩
  have HP1 : Hid (p1 = w1.heap.size + 2) := hp1
  rw [← hp1]
  clear hM2 hb2 hp1 HW0 HW1 HW2
  go_wp2_with fail
  go_ret
  have hbA : Below w.heap.size w w2 := HB1.out.trans (HB2.out.mono HB1.out.size)
  have hsz1 : w.heap.size + 3 ≤ w1.heap.size := by
    have := HM1.out.b.lt
    omega
  have hsz2 : w1.heap.size + 3 ≤ w2.heap.size := by
    have := HM2.out.b.lt
    omega
  obtain ⟨S, hS⟩ : ∃ S : Ln, S = ⟨fun k => if k = 0 then newE (w.heap.size + 2) w.heap.size (w.heap.size + 1) 3 5 a n else newE (w1.heap.size + 2) w1.heap.size (w1.heap.size + 1) 5 3 b n, .slice none 0 0, []⟩ := ⟨_, rfl⟩
  have e0 : S.e 0 = newE (w.heap.size + 2) w.heap.size (w.heap.size + 1) 3 5 a n := by rw [hS]; rfl
  have e1 : S.e 1 = newE (w1.heap.size + 2) w1.heap.size (w1.heap.size + 1) 5 3 b n := by rw [hS]; rfl
  have hB : Blk (w2.alloc (.cells (lnbox S) 60)) w2.heap.size (lnbox S) 60 := heap_alloc_new w2 _
  have hba : Below w2.heap.size w2 (w2.alloc (.cells (lnbox S) 60)) := (Below.refl _ _).alloc (Nat.le_refl _) _
  refine ⟨w2.heap.size, S, fun k => if k < w1.heap.size then 1 else if k < w2.heap.size then 2 else 0, rfl, ?_, by rw [hS], by rw [hS]; exact new_inv _ _ _ _ _ _ a b n (by omega) (by omega) (by omega) _, ?_⟩
  · have hx : lnbox S = #[.pointer (some ⟨p0, 0, none⟩), .pointer (some ⟨p1, 0, none⟩), .slice none 0 0, .slice none 0 0, .int .i64 0, .int .i64 0, .slice none 0 0] := by
      rw [HP0.out, HP1.out, hS]
      rfl
    rw [hx] at hB hba
    refine ⟨by rw [hx]; exact hB, fun i hi => ?_, fun i hi => ?_, by rw [hS]; exact World.ownsRow_nil _ _ _ _, (fun g hg => by rw [hS] at hg; cases hg), by omega, by simp; omega, (fun k hk => by rw [hS] at hk; cases hk), (fun g hg => by rw [hS] at hg; cases hg)⟩
    · rcases (by omega : i = 0 ∨ i = 1) with rfl | rfl
      · rw [e0]
        exact ⟨(HM1.out.more HB2.out).more hba, World.ownsRow_nil _ _ _ _, (fun d hd => by cases hd)⟩
      · rw [e1]
        exact ⟨(HM2.out.low (by omega)).more hba, World.ownsRow_nil _ _ _ _, (fun d hd => by cases hd)⟩
    · rcases (by omega : i = 0 ∨ i = 1) with rfl | rfl
      · rw [e0]
        refine ⟨fun k hk => ?_, (fun k hk => by cases hk), (fun d hd => by cases hd)⟩
        rcases new_own (.inl hk) with q | q | q
        · rw [if_pos (by omega)]
        · rw [if_pos (by omega)]
        · rw [if_pos (by omega)]
      · rw [e1]
        refine ⟨fun k hk => ?_, (fun k hk => by cases hk), (fun d hd => by cases hd)⟩
        rcases new_own (.inl hk) with q | q | q
        · rw [if_neg (by omega), if_pos (by omega)]
        · rw [if_neg (by omega), if_pos (by omega)]
        · rw [if_neg (by omega), if_pos (by omega)]
  · exact hbA.alloc hbA.size _
end Go.Proofs.Ytcjgicfmfjomgaa
