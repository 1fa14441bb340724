import Derived.Test.YtaiknlnjahjeiaaJoinA
import Derived.Deep.Cut
namespace Go.Proofs.Ytaiknlnjahjeiaa
open Go.RowKit Go.PlainAid Go.MapKept
set_option linter.unusedVariables false
set_option linter.unusedSimpArgs false
theorem setCell_chg (w : World) (g j : Nat) (v : Value) : Chg (fun k => k = g) w (w.setCell ⟨g, j, none⟩ v) := ⟨rfl, rfl, rfl, by simp [World.setCell], fun k _ hn => Below.heap_setCell _ _ _ _ hn⟩
set_option maxRecDepth 100000 in
set_option maxHeartbeats 1600000 in
theorem inc1_any {cb ab : Nat} {c : Ct} (a : Int) (W : World) (hC : Blk W cb c.cs 67) (ha : Blk W ab #[.int .i64 a] 3) (hw : IntKind.i64.wrap (c.val + a) = c.val + a) :
    Calls Try.prog 65 #[.pointer (some ⟨cb, 0, none⟩), .pointer (some ⟨ab, 0, none⟩)] W fun e W' => e = .returned (ctV { c with val := c.val + a }) ∧ Chg (fun k => k = cb) W W' := by
  obtain ⟨rb, hrb⟩ : ∃ rb, rb = W.heap.size := ⟨_, rfl⟩
  obtain ⟨X0, hX0⟩ : ∃ X, X = W.alloc (.cells #[.string ⟨#[]⟩, .int .i64 0, .int .i64 0, .int .i64 0, .map none] 67) := ⟨_, rfl⟩
  have hb0 : Below W.heap.size W X0 := by rw [hX0]; exact (Below.refl _ _).alloc (Nat.le_refl _) _
  have B0 : Hid (Blk X0 cb c.cs 67) := hC.below hb0 hC.lt
  have R0 : Hid (Blk X0 rb #[.string ⟨#[]⟩, .int .i64 0, .int .i64 0, .int .i64 0, .map none] 67) := show Blk X0 rb #[.string ⟨#[]⟩, .int .i64 0, .int .i64 0, .int .i64 0, .map none] 67 from by rw [hX0, hrb]; exact heap_alloc_new W _
  have Na0 : Hid (Blk X0 ab #[.int .i64 a] 3) := ha.below hb0 ha.lt
  have C0 : Hid (Chg (fun k => k = cb) W X0) := Chg.ofBelow _ hb0
  have NE : Hid (rb ≠ cb ∧ W.heap.size ≤ rb) := show rb ≠ cb ∧ W.heap.size ≤ rb from ⟨by have := hC.lt; omega, by omega⟩
  clear hC hb0 ha
  go_enter Try.func65, Try.ntmps65
  go_upto_region 1 with fail
  rw [← hX0, ← hrb]
  clear hX0 hrb
  have y0 : X0.cell? ⟨cb, 0, none⟩ = some (.string ⟨c.nm.toArray⟩) := B0.out.cell 0
  have y1 : X0.cell? ⟨cb, 1, none⟩ = some (.int .i64 c.lim) := B0.out.cell 1
  have y2 : X0.cell? ⟨cb, 2, none⟩ = some (.int .i64 c.val) := B0.out.cell 2
  have y3 : X0.cell? ⟨cb, 3, none⟩ = some (.int .i64 c.held) := B0.out.cell 3
  have y4 : X0.cell? ⟨cb, 4, none⟩ = some (.map c.hb) := B0.out.cell 4
  have na : X0.cell? ⟨ab, 0, none⟩ = some (.int .i64 a) := Na0.out.cell 0
  have g2 : X0.frozen? ⟨cb, 2, none⟩ = false := B0.out.frozen 2
  obtain ⟨X1, hX⟩ : ∃ X, X = X0.setCell ⟨cb, 2, none⟩ (.int .i64 (c.val + a)) := ⟨_, rfl⟩
  have hc : Chg (fun b => b = cb) X0 X1 := by rw [hX]; exact setCell_chg _ _ _ _
  have B1 : Hid (Blk X1 cb #[.string ⟨c.nm.toArray⟩, .int .i64 c.lim, .int .i64 (c.val + a), .int .i64 c.held, .map c.hb] 67) := show Blk X1 cb #[.string ⟨c.nm.toArray⟩, .int .i64 c.lim, .int .i64 (c.val + a), .int .i64 c.held, .map c.hb] 67 from by rw [hX]; exact B0.out.set 2 _
  have R1 : Hid (Blk X1 rb #[.string ⟨#[]⟩, .int .i64 0, .int .i64 0, .int .i64 0, .map none] 67) := hc.blk R0.out NE.out.1
  have Na1 : Hid (Blk X1 ab #[.int .i64 a] 3) := hc.blk Na0.out (Blk.ne_t Na0.out B0.out (by decide))
  have C1 : Hid (Chg (fun k => k = cb) W X1) := C0.out.trans hc (fun b _ e => e)
  go_upto_region 2 with fail
  rw [← hX]
  clear hX hc y0 y1 y2 y3 y4 na g2 B0 R0 C0 Na0
  have y0 : X1.cell? ⟨cb, 0, none⟩ = some (.string ⟨c.nm.toArray⟩) := B1.out.cell 0
  have y1 : X1.cell? ⟨cb, 1, none⟩ = some (.int .i64 c.lim) := B1.out.cell 1
  have y2 : X1.cell? ⟨cb, 2, none⟩ = some (.int .i64 (c.val + a)) := B1.out.cell 2
  have y3 : X1.cell? ⟨cb, 3, none⟩ = some (.int .i64 c.held) := B1.out.cell 3
  have y4 : X1.cell? ⟨cb, 4, none⟩ = some (.map c.hb) := B1.out.cell 4
  obtain ⟨Z, hZ⟩ : ∃ Z, Z = (((((X1.setCell ⟨rb, 0, none⟩ (.string ⟨c.nm.toArray⟩)).setCell ⟨rb, 1, none⟩ (.int .i64 c.lim)).setCell ⟨rb, 2, none⟩ (.int .i64 (c.val + a))).setCell ⟨rb, 3, none⟩ (.int .i64 c.held)).setCell ⟨rb, 4, none⟩ (.map c.hb)) := ⟨_, rfl⟩
  have HZ : Hid (Blk Z rb #[.string ⟨c.nm.toArray⟩, .int .i64 c.lim, .int .i64 (c.val + a), .int .i64 c.held, .map c.hb] 67) := show Blk Z rb #[.string ⟨c.nm.toArray⟩, .int .i64 c.lim, .int .i64 (c.val + a), .int .i64 c.held, .map c.hb] 67 from by rw [hZ]; exact (((((R1.out.set 0 (.string ⟨c.nm.toArray⟩)).set 1 (.int .i64 c.lim)).set 2 (.int .i64 (c.val + a))).set 3 (.int .i64 c.held)).set 4 (.map c.hb))
  have hcz : Chg (fun b => b = rb) X1 Z := by rw [hZ]; exact ((((setCell_chg _ _ _ _).trans (setCell_chg _ _ _ _) (fun _ _ e => e)).trans (setCell_chg _ _ _ _) (fun _ _ e => e)).trans (setCell_chg _ _ _ _) (fun _ _ e => e)).trans (setCell_chg _ _ _ _) (fun _ _ e => e)
  have HCZ : Hid (Chg (fun k => k = cb) W Z) := C1.out.trans hcz (fun b hb e => absurd hb (by have := NE.out.2; omega))
  have z0 : X1.cell? ⟨rb, 0, none⟩ = some (.string ⟨#[]⟩) := R1.out.cell 0
  have g0 : X1.frozen? ⟨rb, 0, none⟩ = false := R1.out.frozen 0
  have z1 : X1.cell? ⟨rb, 1, none⟩ = some (.int .i64 0) := R1.out.cell 1
  have g1 : X1.frozen? ⟨rb, 1, none⟩ = false := R1.out.frozen 1
  have z2 : X1.cell? ⟨rb, 2, none⟩ = some (.int .i64 0) := R1.out.cell 2
  have g2 : X1.frozen? ⟨rb, 2, none⟩ = false := R1.out.frozen 2
  have z3 : X1.cell? ⟨rb, 3, none⟩ = some (.int .i64 0) := R1.out.cell 3
  have g3 : X1.frozen? ⟨rb, 3, none⟩ = false := R1.out.frozen 3
  have z4 : X1.cell? ⟨rb, 4, none⟩ = some (.map none) := R1.out.cell 4
  have g4 : X1.frozen? ⟨rb, 4, none⟩ = false := R1.out.frozen 4
  clear hcz
  go_wp2_with fail
  rw [← hZ]
  refine bodyPost_ret (results_cell_row Try.results65 _ _ rb 67 _ (0, 0) _ rfl HZ.out Try.underlying67 rfl (by kernel_rfl)) rfl ?_
  exact ⟨rfl, HCZ.out⟩
set_option maxRecDepth 100000 in
set_option maxHeartbeats 1600000 in
theorem dec1_any {cb ab : Nat} {c : Ct} (a : Int) (W : World) (hC : Blk W cb c.cs 67) (ha : Blk W ab #[.int .i64 a] 3) (hw : IntKind.i64.wrap (c.val - a) = c.val - a) :
    Calls Try.prog 66 #[.pointer (some ⟨cb, 0, none⟩), .pointer (some ⟨ab, 0, none⟩)] W fun e W' => e = .returned (ctV { c with val := c.val - a }) ∧ Chg (fun k => k = cb) W W' := by
  obtain ⟨rb, hrb⟩ : ∃ rb, rb = W.heap.size := ⟨_, rfl⟩
  obtain ⟨X0, hX0⟩ : ∃ X, X = W.alloc (.cells #[.string ⟨#[]⟩, .int .i64 0, .int .i64 0, .int .i64 0, .map none] 67) := ⟨_, rfl⟩
  have hb0 : Below W.heap.size W X0 := by rw [hX0]; exact (Below.refl _ _).alloc (Nat.le_refl _) _
  have B0 : Hid (Blk X0 cb c.cs 67) := hC.below hb0 hC.lt
  have R0 : Hid (Blk X0 rb #[.string ⟨#[]⟩, .int .i64 0, .int .i64 0, .int .i64 0, .map none] 67) := show Blk X0 rb #[.string ⟨#[]⟩, .int .i64 0, .int .i64 0, .int .i64 0, .map none] 67 from by rw [hX0, hrb]; exact heap_alloc_new W _
  have Na0 : Hid (Blk X0 ab #[.int .i64 a] 3) := ha.below hb0 ha.lt
  have C0 : Hid (Chg (fun k => k = cb) W X0) := Chg.ofBelow _ hb0
  have NE : Hid (rb ≠ cb ∧ W.heap.size ≤ rb) := show rb ≠ cb ∧ W.heap.size ≤ rb from ⟨by have := hC.lt; omega, by omega⟩
  clear hC hb0 ha
  go_enter Try.func66, Try.ntmps66
  go_upto_region 1 with fail
  rw [← hX0, ← hrb]
  clear hX0 hrb
  have y0 : X0.cell? ⟨cb, 0, none⟩ = some (.string ⟨c.nm.toArray⟩) := B0.out.cell 0
  have y1 : X0.cell? ⟨cb, 1, none⟩ = some (.int .i64 c.lim) := B0.out.cell 1
  have y2 : X0.cell? ⟨cb, 2, none⟩ = some (.int .i64 c.val) := B0.out.cell 2
  have y3 : X0.cell? ⟨cb, 3, none⟩ = some (.int .i64 c.held) := B0.out.cell 3
  have y4 : X0.cell? ⟨cb, 4, none⟩ = some (.map c.hb) := B0.out.cell 4
  have na : X0.cell? ⟨ab, 0, none⟩ = some (.int .i64 a) := Na0.out.cell 0
  have g2 : X0.frozen? ⟨cb, 2, none⟩ = false := B0.out.frozen 2
  obtain ⟨X1, hX⟩ : ∃ X, X = X0.setCell ⟨cb, 2, none⟩ (.int .i64 (c.val - a)) := ⟨_, rfl⟩
  have hc : Chg (fun b => b = cb) X0 X1 := by rw [hX]; exact setCell_chg _ _ _ _
  have B1 : Hid (Blk X1 cb #[.string ⟨c.nm.toArray⟩, .int .i64 c.lim, .int .i64 (c.val - a), .int .i64 c.held, .map c.hb] 67) := show Blk X1 cb #[.string ⟨c.nm.toArray⟩, .int .i64 c.lim, .int .i64 (c.val - a), .int .i64 c.held, .map c.hb] 67 from by rw [hX]; exact B0.out.set 2 _
  have R1 : Hid (Blk X1 rb #[.string ⟨#[]⟩, .int .i64 0, .int .i64 0, .int .i64 0, .map none] 67) := hc.blk R0.out NE.out.1
  have Na1 : Hid (Blk X1 ab #[.int .i64 a] 3) := hc.blk Na0.out (Blk.ne_t Na0.out B0.out (by decide))
  have C1 : Hid (Chg (fun k => k = cb) W X1) := C0.out.trans hc (fun b _ e => e)
  go_upto_region 2 with fail
  rw [← hX]
  clear hX hc y0 y1 y2 y3 y4 na g2 B0 R0 C0 Na0
  have y0 : X1.cell? ⟨cb, 0, none⟩ = some (.string ⟨c.nm.toArray⟩) := B1.out.cell 0
  have y1 : X1.cell? ⟨cb, 1, none⟩ = some (.int .i64 c.lim) := B1.out.cell 1
  have y2 : X1.cell? ⟨cb, 2, none⟩ = some (.int .i64 (c.val - a)) := B1.out.cell 2
  have y3 : X1.cell? ⟨cb, 3, none⟩ = some (.int .i64 c.held) := B1.out.cell 3
  have y4 : X1.cell? ⟨cb, 4, none⟩ = some (.map c.hb) := B1.out.cell 4
  obtain ⟨Z, hZ⟩ : ∃ Z, Z = (((((X1.setCell ⟨rb, 0, none⟩ (.string ⟨c.nm.toArray⟩)).setCell ⟨rb, 1, none⟩ (.int .i64 c.lim)).setCell ⟨rb, 2, none⟩ (.int .i64 (c.val - a))).setCell ⟨rb, 3, none⟩ (.int .i64 c.held)).setCell ⟨rb, 4, none⟩ (.map c.hb)) := ⟨_, rfl⟩
  have HZ : Hid (Blk Z rb #[.string ⟨c.nm.toArray⟩, .int .i64 c.lim, .int .i64 (c.val - a), .int .i64 c.held, .map c.hb] 67) := show Blk Z rb #[.string ⟨c.nm.toArray⟩, .int .i64 c.lim, .int .i64 (c.val - a), .int .i64 c.held, .map c.hb] 67 from by rw [hZ]; exact (((((R1.out.set 0 (.string ⟨c.nm.toArray⟩)).set 1 (.int .i64 c.lim)).set 2 (.int .i64 (c.val - a))).set 3 (.int .i64 c.held)).set 4 (.map c.hb))
  have hcz : Chg (fun b => b = rb) X1 Z := by rw [hZ]; exact ((((setCell_chg _ _ _ _).trans (setCell_chg _ _ _ _) (fun _ _ e => e)).trans (setCell_chg _ _ _ _) (fun _ _ e => e)).trans (setCell_chg _ _ _ _) (fun _ _ e => e)).trans (setCell_chg _ _ _ _) (fun _ _ e => e)
  have HCZ : Hid (Chg (fun k => k = cb) W Z) := C1.out.trans hcz (fun b hb e => absurd hb (by have := NE.out.2; omega))
  have z0 : X1.cell? ⟨rb, 0, none⟩ = some (.string ⟨#[]⟩) := R1.out.cell 0
  have g0 : X1.frozen? ⟨rb, 0, none⟩ = false := R1.out.frozen 0
  have z1 : X1.cell? ⟨rb, 1, none⟩ = some (.int .i64 0) := R1.out.cell 1
  have g1 : X1.frozen? ⟨rb, 1, none⟩ = false := R1.out.frozen 1
  have z2 : X1.cell? ⟨rb, 2, none⟩ = some (.int .i64 0) := R1.out.cell 2
  have g2 : X1.frozen? ⟨rb, 2, none⟩ = false := R1.out.frozen 2
  have z3 : X1.cell? ⟨rb, 3, none⟩ = some (.int .i64 0) := R1.out.cell 3
  have g3 : X1.frozen? ⟨rb, 3, none⟩ = false := R1.out.frozen 3
  have z4 : X1.cell? ⟨rb, 4, none⟩ = some (.map none) := R1.out.cell 4
  have g4 : X1.frozen? ⟨rb, 4, none⟩ = false := R1.out.frozen 4
  clear hcz
  go_wp2_with fail
  rw [← hZ]
  refine bodyPost_ret (results_cell_row Try.results66 _ _ rb 67 _ (0, 0) _ rfl HZ.out Try.underlying67 rfl (by kernel_rfl)) rfl ?_
  exact ⟨rfl, HCZ.out⟩
set_option maxRecDepth 100000 in
set_option maxHeartbeats 1600000 in
theorem reset1_any {cb ab : Nat} {c : Ct} (a : Int) (W : World) (hC : Blk W cb c.cs 67) (ha : Blk W ab #[.int .i64 a] 3) :
    Calls Try.prog 69 #[.pointer (some ⟨ab, 0, none⟩), .pointer (some ⟨cb, 0, none⟩)] W fun e W' => e = .returned (ctV { c with val := a }) ∧ Chg (fun k => k = cb) W W' := by
  obtain ⟨rb, hrb⟩ : ∃ rb, rb = W.heap.size := ⟨_, rfl⟩
  obtain ⟨X0, hX0⟩ : ∃ X, X = W.alloc (.cells #[.string ⟨#[]⟩, .int .i64 0, .int .i64 0, .int .i64 0, .map none] 67) := ⟨_, rfl⟩
  have hb0 : Below W.heap.size W X0 := by rw [hX0]; exact (Below.refl _ _).alloc (Nat.le_refl _) _
  have B0 : Hid (Blk X0 cb c.cs 67) := hC.below hb0 hC.lt
  have R0 : Hid (Blk X0 rb #[.string ⟨#[]⟩, .int .i64 0, .int .i64 0, .int .i64 0, .map none] 67) := show Blk X0 rb #[.string ⟨#[]⟩, .int .i64 0, .int .i64 0, .int .i64 0, .map none] 67 from by rw [hX0, hrb]; exact heap_alloc_new W _
  have Na0 : Hid (Blk X0 ab #[.int .i64 a] 3) := ha.below hb0 ha.lt
  have C0 : Hid (Chg (fun k => k = cb) W X0) := Chg.ofBelow _ hb0
  have NE : Hid (rb ≠ cb ∧ W.heap.size ≤ rb) := show rb ≠ cb ∧ W.heap.size ≤ rb from ⟨by have := hC.lt; omega, by omega⟩
  clear hC hb0 ha
  go_enter Try.func69, Try.ntmps69
  go_upto_region 1 with fail
  rw [← hX0, ← hrb]
  clear hX0 hrb
  have y0 : X0.cell? ⟨cb, 0, none⟩ = some (.string ⟨c.nm.toArray⟩) := B0.out.cell 0
  have y1 : X0.cell? ⟨cb, 1, none⟩ = some (.int .i64 c.lim) := B0.out.cell 1
  have y2 : X0.cell? ⟨cb, 2, none⟩ = some (.int .i64 c.val) := B0.out.cell 2
  have y3 : X0.cell? ⟨cb, 3, none⟩ = some (.int .i64 c.held) := B0.out.cell 3
  have y4 : X0.cell? ⟨cb, 4, none⟩ = some (.map c.hb) := B0.out.cell 4
  have na : X0.cell? ⟨ab, 0, none⟩ = some (.int .i64 a) := Na0.out.cell 0
  have g2 : X0.frozen? ⟨cb, 2, none⟩ = false := B0.out.frozen 2
  obtain ⟨X1, hX⟩ : ∃ X, X = X0.setCell ⟨cb, 2, none⟩ (.int .i64 a) := ⟨_, rfl⟩
  have hc : Chg (fun b => b = cb) X0 X1 := by rw [hX]; exact setCell_chg _ _ _ _
  have B1 : Hid (Blk X1 cb #[.string ⟨c.nm.toArray⟩, .int .i64 c.lim, .int .i64 a, .int .i64 c.held, .map c.hb] 67) := show Blk X1 cb #[.string ⟨c.nm.toArray⟩, .int .i64 c.lim, .int .i64 a, .int .i64 c.held, .map c.hb] 67 from by rw [hX]; exact B0.out.set 2 _
  have R1 : Hid (Blk X1 rb #[.string ⟨#[]⟩, .int .i64 0, .int .i64 0, .int .i64 0, .map none] 67) := hc.blk R0.out NE.out.1
  have Na1 : Hid (Blk X1 ab #[.int .i64 a] 3) := hc.blk Na0.out (Blk.ne_t Na0.out B0.out (by decide))
  have C1 : Hid (Chg (fun k => k = cb) W X1) := C0.out.trans hc (fun b _ e => e)
  go_upto_region 2 with fail
  rw [← hX]
  clear hX hc y0 y1 y2 y3 y4 na g2 B0 R0 C0 Na0
  have y0 : X1.cell? ⟨cb, 0, none⟩ = some (.string ⟨c.nm.toArray⟩) := B1.out.cell 0
  have y1 : X1.cell? ⟨cb, 1, none⟩ = some (.int .i64 c.lim) := B1.out.cell 1
  have y2 : X1.cell? ⟨cb, 2, none⟩ = some (.int .i64 a) := B1.out.cell 2
  have y3 : X1.cell? ⟨cb, 3, none⟩ = some (.int .i64 c.held) := B1.out.cell 3
  have y4 : X1.cell? ⟨cb, 4, none⟩ = some (.map c.hb) := B1.out.cell 4
  obtain ⟨Z, hZ⟩ : ∃ Z, Z = (((((X1.setCell ⟨rb, 0, none⟩ (.string ⟨c.nm.toArray⟩)).setCell ⟨rb, 1, none⟩ (.int .i64 c.lim)).setCell ⟨rb, 2, none⟩ (.int .i64 a)).setCell ⟨rb, 3, none⟩ (.int .i64 c.held)).setCell ⟨rb, 4, none⟩ (.map c.hb)) := ⟨_, rfl⟩
  have HZ : Hid (Blk Z rb #[.string ⟨c.nm.toArray⟩, .int .i64 c.lim, .int .i64 a, .int .i64 c.held, .map c.hb] 67) := show Blk Z rb #[.string ⟨c.nm.toArray⟩, .int .i64 c.lim, .int .i64 a, .int .i64 c.held, .map c.hb] 67 from by rw [hZ]; exact (((((R1.out.set 0 (.string ⟨c.nm.toArray⟩)).set 1 (.int .i64 c.lim)).set 2 (.int .i64 a)).set 3 (.int .i64 c.held)).set 4 (.map c.hb))
  have hcz : Chg (fun b => b = rb) X1 Z := by rw [hZ]; exact ((((setCell_chg _ _ _ _).trans (setCell_chg _ _ _ _) (fun _ _ e => e)).trans (setCell_chg _ _ _ _) (fun _ _ e => e)).trans (setCell_chg _ _ _ _) (fun _ _ e => e)).trans (setCell_chg _ _ _ _) (fun _ _ e => e)
  have HCZ : Hid (Chg (fun k => k = cb) W Z) := C1.out.trans hcz (fun b hb e => absurd hb (by have := NE.out.2; omega))
  have z0 : X1.cell? ⟨rb, 0, none⟩ = some (.string ⟨#[]⟩) := R1.out.cell 0
  have g0 : X1.frozen? ⟨rb, 0, none⟩ = false := R1.out.frozen 0
  have z1 : X1.cell? ⟨rb, 1, none⟩ = some (.int .i64 0) := R1.out.cell 1
  have g1 : X1.frozen? ⟨rb, 1, none⟩ = false := R1.out.frozen 1
  have z2 : X1.cell? ⟨rb, 2, none⟩ = some (.int .i64 0) := R1.out.cell 2
  have g2 : X1.frozen? ⟨rb, 2, none⟩ = false := R1.out.frozen 2
  have z3 : X1.cell? ⟨rb, 3, none⟩ = some (.int .i64 0) := R1.out.cell 3
  have g3 : X1.frozen? ⟨rb, 3, none⟩ = false := R1.out.frozen 3
  have z4 : X1.cell? ⟨rb, 4, none⟩ = some (.map none) := R1.out.cell 4
  have g4 : X1.frozen? ⟨rb, 4, none⟩ = false := R1.out.frozen 4
  clear hcz
  go_wp2_with fail
  rw [← hZ]
  refine bodyPost_ret (results_cell_row Try.results69 _ _ rb 67 _ (0, 0) _ rfl HZ.out Try.underlying67 rfl (by kernel_rfl)) rfl ?_
  exact ⟨rfl, HCZ.out⟩
set_option maxRecDepth 100000 in
set_option maxHeartbeats 1600000 in
theorem recap1_any {cb ab : Nat} {c : Ct} (a : Int) (W : World) (hC : Blk W cb c.cs 67) (ha : Blk W ab #[.int .i64 a] 3) :
    Calls Try.prog 70 #[.pointer (some ⟨ab, 0, none⟩), .pointer (some ⟨cb, 0, none⟩)] W fun e W' => e = .returned (ctV { c with lim := a }) ∧ Chg (fun k => k = cb) W W' := by
  obtain ⟨rb, hrb⟩ : ∃ rb, rb = W.heap.size := ⟨_, rfl⟩
  obtain ⟨X0, hX0⟩ : ∃ X, X = W.alloc (.cells #[.string ⟨#[]⟩, .int .i64 0, .int .i64 0, .int .i64 0, .map none] 67) := ⟨_, rfl⟩
  have hb0 : Below W.heap.size W X0 := by rw [hX0]; exact (Below.refl _ _).alloc (Nat.le_refl _) _
  have B0 : Hid (Blk X0 cb c.cs 67) := hC.below hb0 hC.lt
  have R0 : Hid (Blk X0 rb #[.string ⟨#[]⟩, .int .i64 0, .int .i64 0, .int .i64 0, .map none] 67) := show Blk X0 rb #[.string ⟨#[]⟩, .int .i64 0, .int .i64 0, .int .i64 0, .map none] 67 from by rw [hX0, hrb]; exact heap_alloc_new W _
  have Na0 : Hid (Blk X0 ab #[.int .i64 a] 3) := ha.below hb0 ha.lt
  have C0 : Hid (Chg (fun k => k = cb) W X0) := Chg.ofBelow _ hb0
  have NE : Hid (rb ≠ cb ∧ W.heap.size ≤ rb) := show rb ≠ cb ∧ W.heap.size ≤ rb from ⟨by have := hC.lt; omega, by omega⟩
  clear hC hb0 ha
  go_enter Try.func70, Try.ntmps70
  go_upto_region 1 with fail
  rw [← hX0, ← hrb]
  clear hX0 hrb
  have y0 : X0.cell? ⟨cb, 0, none⟩ = some (.string ⟨c.nm.toArray⟩) := B0.out.cell 0
  have y1 : X0.cell? ⟨cb, 1, none⟩ = some (.int .i64 c.lim) := B0.out.cell 1
  have y2 : X0.cell? ⟨cb, 2, none⟩ = some (.int .i64 c.val) := B0.out.cell 2
  have y3 : X0.cell? ⟨cb, 3, none⟩ = some (.int .i64 c.held) := B0.out.cell 3
  have y4 : X0.cell? ⟨cb, 4, none⟩ = some (.map c.hb) := B0.out.cell 4
  have na : X0.cell? ⟨ab, 0, none⟩ = some (.int .i64 a) := Na0.out.cell 0
  have g1 : X0.frozen? ⟨cb, 1, none⟩ = false := B0.out.frozen 1
  obtain ⟨X1, hX⟩ : ∃ X, X = X0.setCell ⟨cb, 1, none⟩ (.int .i64 a) := ⟨_, rfl⟩
  have hc : Chg (fun b => b = cb) X0 X1 := by rw [hX]; exact setCell_chg _ _ _ _
  have B1 : Hid (Blk X1 cb #[.string ⟨c.nm.toArray⟩, .int .i64 a, .int .i64 c.val, .int .i64 c.held, .map c.hb] 67) := show Blk X1 cb #[.string ⟨c.nm.toArray⟩, .int .i64 a, .int .i64 c.val, .int .i64 c.held, .map c.hb] 67 from by rw [hX]; exact B0.out.set 1 _
  have R1 : Hid (Blk X1 rb #[.string ⟨#[]⟩, .int .i64 0, .int .i64 0, .int .i64 0, .map none] 67) := hc.blk R0.out NE.out.1
  have Na1 : Hid (Blk X1 ab #[.int .i64 a] 3) := hc.blk Na0.out (Blk.ne_t Na0.out B0.out (by decide))
  have C1 : Hid (Chg (fun k => k = cb) W X1) := C0.out.trans hc (fun b _ e => e)
  go_upto_region 2 with fail
  rw [← hX]
  clear hX hc y0 y1 y2 y3 y4 na g1 B0 R0 C0 Na0
  have y0 : X1.cell? ⟨cb, 0, none⟩ = some (.string ⟨c.nm.toArray⟩) := B1.out.cell 0
  have y1 : X1.cell? ⟨cb, 1, none⟩ = some (.int .i64 a) := B1.out.cell 1
  have y2 : X1.cell? ⟨cb, 2, none⟩ = some (.int .i64 c.val) := B1.out.cell 2
  have y3 : X1.cell? ⟨cb, 3, none⟩ = some (.int .i64 c.held) := B1.out.cell 3
  have y4 : X1.cell? ⟨cb, 4, none⟩ = some (.map c.hb) := B1.out.cell 4
  obtain ⟨Z, hZ⟩ : ∃ Z, Z = (((((X1.setCell ⟨rb, 0, none⟩ (.string ⟨c.nm.toArray⟩)).setCell ⟨rb, 1, none⟩ (.int .i64 a)).setCell ⟨rb, 2, none⟩ (.int .i64 c.val)).setCell ⟨rb, 3, none⟩ (.int .i64 c.held)).setCell ⟨rb, 4, none⟩ (.map c.hb)) := ⟨_, rfl⟩
  have HZ : Hid (Blk Z rb #[.string ⟨c.nm.toArray⟩, .int .i64 a, .int .i64 c.val, .int .i64 c.held, .map c.hb] 67) := show Blk Z rb #[.string ⟨c.nm.toArray⟩, .int .i64 a, .int .i64 c.val, .int .i64 c.held, .map c.hb] 67 from by rw [hZ]; exact (((((R1.out.set 0 (.string ⟨c.nm.toArray⟩)).set 1 (.int .i64 a)).set 2 (.int .i64 c.val)).set 3 (.int .i64 c.held)).set 4 (.map c.hb))
  have hcz : Chg (fun b => b = rb) X1 Z := by rw [hZ]; exact ((((setCell_chg _ _ _ _).trans (setCell_chg _ _ _ _) (fun _ _ e => e)).trans (setCell_chg _ _ _ _) (fun _ _ e => e)).trans (setCell_chg _ _ _ _) (fun _ _ e => e)).trans (setCell_chg _ _ _ _) (fun _ _ e => e)
  have HCZ : Hid (Chg (fun k => k = cb) W Z) := C1.out.trans hcz (fun b hb e => absurd hb (by have := NE.out.2; omega))
  have z0 : X1.cell? ⟨rb, 0, none⟩ = some (.string ⟨#[]⟩) := R1.out.cell 0
  have g0 : X1.frozen? ⟨rb, 0, none⟩ = false := R1.out.frozen 0
  have z1 : X1.cell? ⟨rb, 1, none⟩ = some (.int .i64 0) := R1.out.cell 1
  have g1 : X1.frozen? ⟨rb, 1, none⟩ = false := R1.out.frozen 1
  have z2 : X1.cell? ⟨rb, 2, none⟩ = some (.int .i64 0) := R1.out.cell 2
  have g2 : X1.frozen? ⟨rb, 2, none⟩ = false := R1.out.frozen 2
  have z3 : X1.cell? ⟨rb, 3, none⟩ = some (.int .i64 0) := R1.out.cell 3
  have g3 : X1.frozen? ⟨rb, 3, none⟩ = false := R1.out.frozen 3
  have z4 : X1.cell? ⟨rb, 4, none⟩ = some (.map none) := R1.out.cell 4
  have g4 : X1.frozen? ⟨rb, 4, none⟩ = false := R1.out.frozen 4
  clear hcz
  go_wp2_with fail
  rw [← hZ]
  refine bodyPost_ret (results_cell_row Try.results70 _ _ rb 67 _ (0, 0) _ rfl HZ.out Try.underlying67 rfl (by kernel_rfl)) rfl ?_
  exact ⟨rfl, HCZ.out⟩
set_option maxRecDepth 100000 in
set_option maxHeartbeats 1600000 in
theorem read1_any {cb : Nat} {c : Ct} (W : World) (hC : Blk W cb c.cs 67) :
    Calls Try.prog 71 #[.pointer (some ⟨cb, 0, none⟩)] W fun e W' => e = .returned (ctV c) ∧ Chg (fun k => k = cb) W W' := by
  obtain ⟨rb, hrb⟩ : ∃ rb, rb = W.heap.size := ⟨_, rfl⟩
  obtain ⟨X0, hX0⟩ : ∃ X, X = W.alloc (.cells #[.string ⟨#[]⟩, .int .i64 0, .int .i64 0, .int .i64 0, .map none] 67) := ⟨_, rfl⟩
  have hb0 : Below W.heap.size W X0 := by rw [hX0]; exact (Below.refl _ _).alloc (Nat.le_refl _) _
  have B0 : Hid (Blk X0 cb c.cs 67) := hC.below hb0 hC.lt
  have R0 : Hid (Blk X0 rb #[.string ⟨#[]⟩, .int .i64 0, .int .i64 0, .int .i64 0, .map none] 67) := show Blk X0 rb #[.string ⟨#[]⟩, .int .i64 0, .int .i64 0, .int .i64 0, .map none] 67 from by rw [hX0, hrb]; exact heap_alloc_new W _
  have C0 : Hid (Chg (fun k => k = cb) W X0) := Chg.ofBelow _ hb0
  have NE : Hid (rb ≠ cb ∧ W.heap.size ≤ rb) := show rb ≠ cb ∧ W.heap.size ≤ rb from ⟨by have := hC.lt; omega, by omega⟩
  clear hC hb0 
  go_enter Try.func71, Try.ntmps71
  go_upto_region 1 with fail
  rw [← hX0, ← hrb]
  clear hX0 hrb
  have y0 : X0.cell? ⟨cb, 0, none⟩ = some (.string ⟨c.nm.toArray⟩) := B0.out.cell 0
  have y1 : X0.cell? ⟨cb, 1, none⟩ = some (.int .i64 c.lim) := B0.out.cell 1
  have y2 : X0.cell? ⟨cb, 2, none⟩ = some (.int .i64 c.val) := B0.out.cell 2
  have y3 : X0.cell? ⟨cb, 3, none⟩ = some (.int .i64 c.held) := B0.out.cell 3
  have y4 : X0.cell? ⟨cb, 4, none⟩ = some (.map c.hb) := B0.out.cell 4
  obtain ⟨Z, hZ⟩ : ∃ Z, Z = (((((X0.setCell ⟨rb, 0, none⟩ (.string ⟨c.nm.toArray⟩)).setCell ⟨rb, 1, none⟩ (.int .i64 c.lim)).setCell ⟨rb, 2, none⟩ (.int .i64 c.val)).setCell ⟨rb, 3, none⟩ (.int .i64 c.held)).setCell ⟨rb, 4, none⟩ (.map c.hb)) := ⟨_, rfl⟩
  have HZ : Hid (Blk Z rb #[.string ⟨c.nm.toArray⟩, .int .i64 c.lim, .int .i64 c.val, .int .i64 c.held, .map c.hb] 67) := show Blk Z rb #[.string ⟨c.nm.toArray⟩, .int .i64 c.lim, .int .i64 c.val, .int .i64 c.held, .map c.hb] 67 from by rw [hZ]; exact (((((R0.out.set 0 (.string ⟨c.nm.toArray⟩)).set 1 (.int .i64 c.lim)).set 2 (.int .i64 c.val)).set 3 (.int .i64 c.held)).set 4 (.map c.hb))
  have hcz : Chg (fun b => b = rb) X0 Z := by rw [hZ]; exact ((((setCell_chg _ _ _ _).trans (setCell_chg _ _ _ _) (fun _ _ e => e)).trans (setCell_chg _ _ _ _) (fun _ _ e => e)).trans (setCell_chg _ _ _ _) (fun _ _ e => e)).trans (setCell_chg _ _ _ _) (fun _ _ e => e)
  have HCZ : Hid (Chg (fun k => k = cb) W Z) := C0.out.trans hcz (fun b hb e => absurd hb (by have := NE.out.2; omega))
  have z0 : X0.cell? ⟨rb, 0, none⟩ = some (.string ⟨#[]⟩) := R0.out.cell 0
  have g0 : X0.frozen? ⟨rb, 0, none⟩ = false := R0.out.frozen 0
  have z1 : X0.cell? ⟨rb, 1, none⟩ = some (.int .i64 0) := R0.out.cell 1
  have g1 : X0.frozen? ⟨rb, 1, none⟩ = false := R0.out.frozen 1
  have z2 : X0.cell? ⟨rb, 2, none⟩ = some (.int .i64 0) := R0.out.cell 2
  have g2 : X0.frozen? ⟨rb, 2, none⟩ = false := R0.out.frozen 2
  have z3 : X0.cell? ⟨rb, 3, none⟩ = some (.int .i64 0) := R0.out.cell 3
  have g3 : X0.frozen? ⟨rb, 3, none⟩ = false := R0.out.frozen 3
  have z4 : X0.cell? ⟨rb, 4, none⟩ = some (.map none) := R0.out.cell 4
  have g4 : X0.frozen? ⟨rb, 4, none⟩ = false := R0.out.frozen 4
  clear hcz
  go_wp2_with fail
  rw [← hZ]
  refine bodyPost_ret (results_cell_row Try.results71 _ _ rb 67 _ (0, 0) _ rfl HZ.out Try.underlying67 rfl (by kernel_rfl)) rfl ?_
  exact ⟨rfl, HCZ.out⟩
set_option maxRecDepth 100000 in
set_option maxHeartbeats 1600000 in
theorem hold1_any {cb ab qb : Nat} {hb : Nat} {c : Ct} (a q : Int) (W : World) (hC : Blk W cb c.cs 67) (ha : Blk W ab #[.int .i64 a] 3) (hq : Blk W qb #[.int .i64 q] 3) (hM : HI W hb c.H) (hhb : c.hb = some hb) (hw : IntKind.i64.wrap (c.val - a) = c.val - a) (hw2 : IntKind.i64.wrap (c.held + a) = c.held + a) :
    Calls Try.prog 67 #[.pointer (some ⟨cb, 0, none⟩), .pointer (some ⟨ab, 0, none⟩), .pointer (some ⟨qb, 0, none⟩)] W fun e W' => e = .returned (ctV { c with val := c.val - a, held := c.held + a, H := Gm.putM q a c.H }) ∧ HI W' hb (Gm.putM q a c.H) ∧ Chg (fun k => k = cb ∨ k = hb) W W' := by
  obtain ⟨rb, hrb⟩ : ∃ rb, rb = W.heap.size := ⟨_, rfl⟩
  obtain ⟨X0, hX0⟩ : ∃ X, X = W.alloc (.cells #[.string ⟨#[]⟩, .int .i64 0, .int .i64 0, .int .i64 0, .map none] 67) := ⟨_, rfl⟩
  have hb0 : Below W.heap.size W X0 := by rw [hX0]; exact (Below.refl _ _).alloc (Nat.le_refl _) _
  have B0 : Hid (Blk X0 cb #[.string ⟨c.nm.toArray⟩, .int .i64 c.lim, .int .i64 c.val, .int .i64 c.held, .map (some hb)] 67) := show Blk X0 cb #[.string ⟨c.nm.toArray⟩, .int .i64 c.lim, .int .i64 c.val, .int .i64 c.held, .map (some hb)] 67 from by have h := hC.below hb0 hC.lt; unfold Ct.cs at h; rwa [hhb] at h
  have R0 : Hid (Blk X0 rb #[.string ⟨#[]⟩, .int .i64 0, .int .i64 0, .int .i64 0, .map none] 67) := show Blk X0 rb #[.string ⟨#[]⟩, .int .i64 0, .int .i64 0, .int .i64 0, .map none] 67 from by rw [hX0, hrb]; exact heap_alloc_new W _
  have Na0 : Hid (Blk X0 ab #[.int .i64 a] 3) := ha.below hb0 ha.lt
  have Nq0 : Hid (Blk X0 qb #[.int .i64 q] 3) := hq.below hb0 hq.lt
  have M0 : Hid (HI X0 hb c.H) := hM.same (hb0.block _ hM.lt)
  have C0 : Hid (Chg (fun k => k = cb ∨ k = hb) W X0) := Chg.ofBelow _ hb0
  have NE : Hid (rb ≠ cb ∧ W.heap.size ≤ rb) := show rb ≠ cb ∧ W.heap.size ≤ rb from ⟨by have := hC.lt; omega, by omega⟩
  clear hC hb0 ha hq hM
  go_enter Try.func67, Try.ntmps67
  go_upto_region 1 with fail
  rw [← hX0, ← hrb]
  clear hX0 hrb
  have y0 : X0.cell? ⟨cb, 0, none⟩ = some (.string ⟨c.nm.toArray⟩) := B0.out.cell 0
  have y1 : X0.cell? ⟨cb, 1, none⟩ = some (.int .i64 c.lim) := B0.out.cell 1
  have y2 : X0.cell? ⟨cb, 2, none⟩ = some (.int .i64 c.val) := B0.out.cell 2
  have y3 : X0.cell? ⟨cb, 3, none⟩ = some (.int .i64 c.held) := B0.out.cell 3
  have y4 : X0.cell? ⟨cb, 4, none⟩ = some (.map (some hb)) := B0.out.cell 4
  have na : X0.cell? ⟨ab, 0, none⟩ = some (.int .i64 a) := Na0.out.cell 0
  have nq : X0.cell? ⟨qb, 0, none⟩ = some (.int .i64 q) := Nq0.out.cell 0
  have g2 : X0.frozen? ⟨cb, 2, none⟩ = false := B0.out.frozen 2
  obtain ⟨X1, hX⟩ : ∃ X, X = X0.setCell ⟨cb, 2, none⟩ (.int .i64 (c.val - a)) := ⟨_, rfl⟩
  have hc : Chg (fun b => b = cb) X0 X1 := by rw [hX]; exact setCell_chg _ _ _ _
  have B1 : Hid (Blk X1 cb #[.string ⟨c.nm.toArray⟩, .int .i64 c.lim, .int .i64 (c.val - a), .int .i64 c.held, .map (some hb)] 67) := show Blk X1 cb #[.string ⟨c.nm.toArray⟩, .int .i64 c.lim, .int .i64 (c.val - a), .int .i64 c.held, .map (some hb)] 67 from by rw [hX]; exact B0.out.set 2 _
  have R1 : Hid (Blk X1 rb #[.string ⟨#[]⟩, .int .i64 0, .int .i64 0, .int .i64 0, .map none] 67) := hc.blk R0.out NE.out.1
  have Na1 : Hid (Blk X1 ab #[.int .i64 a] 3) := hc.blk Na0.out (Blk.ne_t Na0.out B0.out (by decide))
  have Nq1 : Hid (Blk X1 qb #[.int .i64 q] 3) := hc.blk Nq0.out (Blk.ne_t Nq0.out B0.out (by decide))
  have M1 : Hid (HI X1 hb c.H) := M0.out.same (hc.block _ M0.out.lt (fun e => M0.out.ne_b B0.out e.symm))
  have C1 : Hid (Chg (fun k => k = cb ∨ k = hb) W X1) := C0.out.trans hc (fun b _ e => Or.inl e)
  go_upto_region 2 with fail
  rw [← hX]
  clear hX hc y0 y1 y2 y3 y4 na nq g2 B0 R0 C0 Na0 Nq0 M0
  have y0 : X1.cell? ⟨cb, 0, none⟩ = some (.string ⟨c.nm.toArray⟩) := B1.out.cell 0
  have y1 : X1.cell? ⟨cb, 1, none⟩ = some (.int .i64 c.lim) := B1.out.cell 1
  have y2 : X1.cell? ⟨cb, 2, none⟩ = some (.int .i64 (c.val - a)) := B1.out.cell 2
  have y3 : X1.cell? ⟨cb, 3, none⟩ = some (.int .i64 c.held) := B1.out.cell 3
  have y4 : X1.cell? ⟨cb, 4, none⟩ = some (.map (some hb)) := B1.out.cell 4
  have na : X1.cell? ⟨ab, 0, none⟩ = some (.int .i64 a) := Na1.out.cell 0
  have nq : X1.cell? ⟨qb, 0, none⟩ = some (.int .i64 q) := Nq1.out.cell 0
  have g3 : X1.frozen? ⟨cb, 3, none⟩ = false := B1.out.frozen 3
  obtain ⟨X2, hX⟩ : ∃ X, X = X1.setCell ⟨cb, 3, none⟩ (.int .i64 (c.held + a)) := ⟨_, rfl⟩
  have hc : Chg (fun b => b = cb) X1 X2 := by rw [hX]; exact setCell_chg _ _ _ _
  have B2 : Hid (Blk X2 cb #[.string ⟨c.nm.toArray⟩, .int .i64 c.lim, .int .i64 (c.val - a), .int .i64 (c.held + a), .map (some hb)] 67) := show Blk X2 cb #[.string ⟨c.nm.toArray⟩, .int .i64 c.lim, .int .i64 (c.val - a), .int .i64 (c.held + a), .map (some hb)] 67 from by rw [hX]; exact B1.out.set 3 _
  have R2 : Hid (Blk X2 rb #[.string ⟨#[]⟩, .int .i64 0, .int .i64 0, .int .i64 0, .map none] 67) := hc.blk R1.out NE.out.1
  have Na2 : Hid (Blk X2 ab #[.int .i64 a] 3) := hc.blk Na1.out (Blk.ne_t Na1.out B1.out (by decide))
  have Nq2 : Hid (Blk X2 qb #[.int .i64 q] 3) := hc.blk Nq1.out (Blk.ne_t Nq1.out B1.out (by decide))
  have M2 : Hid (HI X2 hb c.H) := M1.out.same (hc.block _ M1.out.lt (fun e => M1.out.ne_b B1.out e.symm))
  have C2 : Hid (Chg (fun k => k = cb ∨ k = hb) W X2) := C1.out.trans hc (fun b _ e => Or.inl e)
  go_upto_region 3 with fail
  rw [← hX]
  clear hX hc y0 y1 y2 y3 y4 na nq g3 B1 R1 C1 Na1 Nq1 M1
  have y0 : X2.cell? ⟨cb, 0, none⟩ = some (.string ⟨c.nm.toArray⟩) := B2.out.cell 0
  have y1 : X2.cell? ⟨cb, 1, none⟩ = some (.int .i64 c.lim) := B2.out.cell 1
  have y2 : X2.cell? ⟨cb, 2, none⟩ = some (.int .i64 (c.val - a)) := B2.out.cell 2
  have y3 : X2.cell? ⟨cb, 3, none⟩ = some (.int .i64 (c.held + a)) := B2.out.cell 3
  have y4 : X2.cell? ⟨cb, 4, none⟩ = some (.map (some hb)) := B2.out.cell 4
  have na : X2.cell? ⟨ab, 0, none⟩ = some (.int .i64 a) := Na2.out.cell 0
  have nq : X2.cell? ⟨qb, 0, none⟩ = some (.int .i64 q) := Nq2.out.cell 0
  obtain ⟨X3, hrun0, hM, hc, hsz⟩ := M2.out.putM q a
  have hrun : (Instr.mapUpdate 65 (.map (some hb)) (.int .i64 q) (.int .i64 a)).run Try.prog X2 = .ok () X3 := hrun0
  have B3 : Hid (Blk X3 cb #[.string ⟨c.nm.toArray⟩, .int .i64 c.lim, .int .i64 (c.val - a), .int .i64 (c.held + a), .map (some hb)] 67) := hc.blk B2.out (M2.out.ne_b B2.out)
  have R3 : Hid (Blk X3 rb #[.string ⟨#[]⟩, .int .i64 0, .int .i64 0, .int .i64 0, .map none] 67) := hc.blk R2.out (M2.out.ne_b R2.out)
  have Na3 : Hid (Blk X3 ab #[.int .i64 a] 3) := hc.blk Na2.out (M2.out.ne_b Na2.out)
  have Nq3 : Hid (Blk X3 qb #[.int .i64 q] 3) := hc.blk Nq2.out (M2.out.ne_b Nq2.out)
  have M3 : Hid (HI X3 hb (Gm.putM q a c.H)) := hM
  have C3 : Hid (Chg (fun k => k = cb ∨ k = hb) W X3) := C2.out.trans hc (fun b _ e => Or.inr e)
  go_upto_region 4 with fail
  clear hM hc hrun hrun0 hsz y0 y1 y2 y3 y4 na nq B2 R2 C2 Na2 Nq2 M2
  have y0 : X3.cell? ⟨cb, 0, none⟩ = some (.string ⟨c.nm.toArray⟩) := B3.out.cell 0
  have y1 : X3.cell? ⟨cb, 1, none⟩ = some (.int .i64 c.lim) := B3.out.cell 1
  have y2 : X3.cell? ⟨cb, 2, none⟩ = some (.int .i64 (c.val - a)) := B3.out.cell 2
  have y3 : X3.cell? ⟨cb, 3, none⟩ = some (.int .i64 (c.held + a)) := B3.out.cell 3
  have y4 : X3.cell? ⟨cb, 4, none⟩ = some (.map (some hb)) := B3.out.cell 4
  obtain ⟨Z, hZ⟩ : ∃ Z, Z = (((((X3.setCell ⟨rb, 0, none⟩ (.string ⟨c.nm.toArray⟩)).setCell ⟨rb, 1, none⟩ (.int .i64 c.lim)).setCell ⟨rb, 2, none⟩ (.int .i64 (c.val - a))).setCell ⟨rb, 3, none⟩ (.int .i64 (c.held + a))).setCell ⟨rb, 4, none⟩ (.map (some hb))) := ⟨_, rfl⟩
  have HZ : Hid (Blk Z rb #[.string ⟨c.nm.toArray⟩, .int .i64 c.lim, .int .i64 (c.val - a), .int .i64 (c.held + a), .map (some hb)] 67) := show Blk Z rb #[.string ⟨c.nm.toArray⟩, .int .i64 c.lim, .int .i64 (c.val - a), .int .i64 (c.held + a), .map (some hb)] 67 from by rw [hZ]; exact (((((R3.out.set 0 (.string ⟨c.nm.toArray⟩)).set 1 (.int .i64 c.lim)).set 2 (.int .i64 (c.val - a))).set 3 (.int .i64 (c.held + a))).set 4 (.map (some hb)))
  have hcz : Chg (fun b => b = rb) X3 Z := by rw [hZ]; exact ((((setCell_chg _ _ _ _).trans (setCell_chg _ _ _ _) (fun _ _ e => e)).trans (setCell_chg _ _ _ _) (fun _ _ e => e)).trans (setCell_chg _ _ _ _) (fun _ _ e => e)).trans (setCell_chg _ _ _ _) (fun _ _ e => e)
  have HCZ : Hid (Chg (fun k => k = cb ∨ k = hb) W Z) := C3.out.trans hcz (fun b hb e => absurd hb (by have := NE.out.2; omega))
  have HMZ : Hid (HI Z hb (Gm.putM q a c.H)) := M3.out.same (hcz.block _ M3.out.lt (fun e => M3.out.ne_b R3.out e.symm))
  have z0 : X3.cell? ⟨rb, 0, none⟩ = some (.string ⟨#[]⟩) := R3.out.cell 0
  have g0 : X3.frozen? ⟨rb, 0, none⟩ = false := R3.out.frozen 0
  have z1 : X3.cell? ⟨rb, 1, none⟩ = some (.int .i64 0) := R3.out.cell 1
  have g1 : X3.frozen? ⟨rb, 1, none⟩ = false := R3.out.frozen 1
  have z2 : X3.cell? ⟨rb, 2, none⟩ = some (.int .i64 0) := R3.out.cell 2
  have g2 : X3.frozen? ⟨rb, 2, none⟩ = false := R3.out.frozen 2
  have z3 : X3.cell? ⟨rb, 3, none⟩ = some (.int .i64 0) := R3.out.cell 3
  have g3 : X3.frozen? ⟨rb, 3, none⟩ = false := R3.out.frozen 3
  have z4 : X3.cell? ⟨rb, 4, none⟩ = some (.map none) := R3.out.cell 4
  have g4 : X3.frozen? ⟨rb, 4, none⟩ = false := R3.out.frozen 4
  clear hcz
  go_wp2_with fail
  rw [← hZ]
  refine bodyPost_ret (results_cell_row Try.results67 _ _ rb 67 _ (0, 0) _ rfl HZ.out Try.underlying67 rfl (by kernel_rfl)) rfl ?_
  exact ⟨by simp only [ctV, Ct.cs, hhb], HMZ.out, HCZ.out⟩
end Go.Proofs.Ytaiknlnjahjeiaa
