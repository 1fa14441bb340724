import Derived.Test.YtgnkkpcklljffaaDoorMade
namespace Go.Proofs.YtgnkkpcklljffaaDoor
open Go.RowKit Go.PlainAid
set_option linter.unusedVariables false
set_option linter.unusedSimpArgs false
set_option maxRecDepth 100000 in
set_option maxHeartbeats 800000 in
theorem within_any (x lo hi : Int) (w : World) (hx : IntKind.i64.wrap x = x) (h0 : 0 ≤ lo) (h1 : lo ≤ hi) (h2 : hi ≤ 1099511627776) :
    Calls Tryd.prog 10 #[.int .i64 x, .int .i64 lo, .int .i64 hi] w fun r w' => (∃ y, r = .returned (.int .i64 y) ∧ lo ≤ y ∧ y ≤ hi) ∧ w' = w := by
  rw [IntKind.wrap_i64] at hx
  have e1 : IntKind.i64.wrap (hi - lo) = hi - lo := by rw [IntKind.wrap_i64]; omega
  have e2 : IntKind.i64.wrap (hi - lo + 1) = hi - lo + 1 := by rw [IntKind.wrap_i64]; omega
  have hz : hi - lo + 1 ≠ 0 := by omega
  have hz2 : (hi - lo + 1 == 0) = false := by simpa using hz
  by_cases hn : x < 0
  · have e3 : IntKind.i64.wrap (x + 1) = x + 1 := by rw [IntKind.wrap_i64]; omega
    have e4 : IntKind.i64.wrap (-(x + 1)) = -(x + 1) := by rw [IntKind.wrap_i64]; omega
    have hp : 0 ≤ -(x + 1) := by omega
    have m1 := Int.tmod_nonneg (hi - lo + 1) hp
    have m2 := Int.tmod_lt_of_pos (-(x + 1)) (show 0 < hi - lo + 1 by omega)
    rw [Int.neg_tmod] at m1 m2
    have e6 : wrap64 (lo + -(x + 1).tmod (hi - lo + 1)) = lo + -(x + 1).tmod (hi - lo + 1) := by
      generalize (x + 1).tmod (hi - lo + 1) = m at *
      unfold wrap64; omega
    have E6 : Hid _ := e6
    have Q1 : Hid _ := m1
    have Q2 : Hid _ := m2
    clear hx e6 m1 m2
    go_enter Tryd.func10, Tryd.ntmps10
    go_wp2
    go_ret
    refine ⟨⟨_, rfl, ?_, ?_⟩, rfl⟩
    · rw [E6.out]; have q1 := Q1.out; omega
    · rw [E6.out]; have q2 := Q2.out; omega
  · have hp : 0 ≤ x := by omega
    have m1 := Int.emod_nonneg x hz
    have m2 := Int.emod_lt_of_pos x (show 0 < hi - lo + 1 by omega)
    have e6 : wrap64 (lo + x % (hi - lo + 1)) = lo + x % (hi - lo + 1) := by
      generalize x % (hi - lo + 1) = m at *
      unfold wrap64; omega
    have E6 : Hid _ := e6
    have Q1 : Hid _ := m1
    have Q2 : Hid _ := m2
    clear hx e6 m1 m2
    go_enter Tryd.func10, Tryd.ntmps10
    go_wp2
    go_ret
    refine ⟨⟨_, rfl, ?_, ?_⟩, rfl⟩
    · rw [E6.out]; have q1 := Q1.out; omega
    · rw [E6.out]; have q2 := Q2.out; omega
theorem field0 (a b : Int) (w : World) : (Instr.field 29 (.agg #[.int .i64 a, .int .i64 b]) 0).run Tryd.prog w = .ok (.int .i64 a) w := by kernel_rfl
theorem field1 (a b : Int) (w : World) : (Instr.field 29 (.agg #[.int .i64 a, .int .i64 b]) 1).run Tryd.prog w = .ok (.int .i64 b) w := by kernel_rfl
set_option maxRecDepth 100000 in
set_option maxHeartbeats 800000 in
theorem sum_any {hb : Nat} {s : LS} (w : World) (h : Blk w hb s.cs 62) (ho : s.Ok) : Calls Tryd.prog 24 #[.pointer (some ⟨hb, 0, none⟩)] w fun r w' => r = .returned (.int .i64 s.all) ∧ Below w.heap.size w w' := by
  have hr := rights_any w h
  have HH : Hid _ := h
  obtain ⟨h1, h2, h3, h4, h5, h6⟩ := ho
  have e1 : IntKind.i64.wrap (s.d + s.u) = s.d + s.u := by rw [IntKind.wrap_i64]; omega
  have e2 : IntKind.i64.wrap (s.d + s.u + s.h) = s.d + s.u + s.h := by rw [IntKind.wrap_i64]; omega
  unfold LS.all
  clear h
  have f0 := field0
  have f1 := field1
  go_enter Tryd.func24, Tryd.ntmps24
  go_wp2_with fail
  refine hr.mono ?_
  rintro e1 w1 ⟨rfl, hb1⟩
  have hB1 : Blk w1 hb s.cs 62 := Blk.below HH.out hb1 (Blk.lt HH.out)
  have hr2 := rights_any w1 hB1
  have HB1 : Hid _ := hB1
  have HL1 : Hid _ := hb1
  clear hr hb1 hB1
  go_wp2_with fail
  refine hr2.mono ?_
  rintro e2 w2 ⟨rfl, hb2⟩
  have hB2 : Blk w2 hb s.cs 62 := Blk.below HB1.out hb2 (Blk.lt HB1.out)
  have hh := held_any w2 hB2
  have HL2 : Hid _ := HL1.out.trans (hb2.mono HL1.out.size)
  clear hr2 hb2 hB2 HB1
  go_wp2_with fail
  refine hh.mono ?_
  rintro e3 w3 ⟨rfl, rfl⟩
  clear hh
  go_wp2_with fail
  go_ret
  exact ⟨rfl, HL2.out⟩
set_option maxRecDepth 100000 in
set_option maxHeartbeats 1600000 in
theorem sound_any {hb : Nat} {s : LS} (w : World) (h : Blk w hb s.cs 62) (ho : s.Ok) : Calls Tryd.prog 28 #[.pointer (some ⟨hb, 0, none⟩)] w fun r w' => r = .returned (.bool true) ∧ Below w.heap.size w w' := by
  have hc := cap_any w h
  have HH : Hid _ := h
  have hok := ho
  have hal : s.all ≤ s.c := ho.sum
  obtain ⟨h1, h2, h3, h4, h5, h6⟩ := ho
  clear h
  have f0 := field0
  have f1 := field1
  go_enter Tryd.func28, Tryd.ntmps28
  go_wp2_with fail
  refine hc.mono ?_
  rintro e0 w0 ⟨rfl, q, rfl⟩
  have hB0 : Blk (w.drewN q) hb s.cs 62 := HH.out
  have hr := rights_any _ hB0
  have hL0 : Below w.heap.size w (w.drewN q) := below_drewN q (Below.refl _ _)
  have HB0 : Hid _ := hB0
  have HL0 : Hid _ := hL0
  clear hc hB0 hL0
  go_wp2_with fail
  refine hr.mono ?_
  rintro e1 w1 ⟨rfl, hb1⟩
  have hB1 : Blk w1 hb s.cs 62 := Blk.below HB0.out hb1 (Blk.lt HB0.out)
  have hr2 := rights_any w1 hB1
  have HB1 : Hid _ := hB1
  have HL1 : Hid _ := HL0.out.trans (hb1.mono HL0.out.size)
  clear hr hb1 hB1 HB0 HL0
  go_wp2_with fail
  refine hr2.mono ?_
  rintro e2 w2 ⟨rfl, hb2⟩
  have hB2 : Blk w2 hb s.cs 62 := Blk.below HB1.out hb2 (Blk.lt HB1.out)
  have hh := held_any w2 hB2
  have HB2 : Hid _ := hB2
  have HL2 : Hid _ := HL1.out.trans (hb2.mono HL1.out.size)
  clear hr2 hb2 hB2 HB1 HL1
  go_wp2_with fail
  refine hh.mono ?_
  rintro e3 w3 ⟨rfl, rfl⟩
  have hs := sum_any w3 HB2.out hok
  clear hh
  go_wp2_with fail
  refine hs.mono ?_
  rintro e4 w4 ⟨rfl, hb4⟩
  have HL4 : Hid _ := HL2.out.trans (hb4.mono HL2.out.size)
  clear hs hb4
  go_wp2_with fail
  go_ret
  exact ⟨rfl, HL4.out⟩
end Go.Proofs.YtgnkkpcklljffaaDoor
