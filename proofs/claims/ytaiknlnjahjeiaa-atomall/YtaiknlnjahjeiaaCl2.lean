import Derived.Test.YtaiknlnjahjeiaaCl1
import Derived.Deep.Cut
namespace Go.Proofs.Ytaiknlnjahjeiaa
open Go.RowKit Go.PlainAid Go.MapKept
set_option linter.unusedVariables false
set_option linter.unusedSimpArgs false
set_option maxRecDepth 100000 in
set_option maxHeartbeats 1600000 in
theorem end1_yes {cb ab qb kdb : Nat} {hb : Nat} {c : Ct} (a q kd : Int) (W : World) (hC : Blk W cb c.cs 67) (ha : Blk W ab #[.int .i64 a] 3) (hq : Blk W qb #[.int .i64 q] 3) (hkd : Blk W kdb #[.int .i64 kd] 3) (hM : HI W hb c.H) (hhb : c.hb = some hb) (hw : IntKind.i64.wrap (c.held - a) = c.held - a) (hw2 : IntKind.i64.wrap (c.val + a) = c.val + a) (hk : kd ≠ 5) :
    Calls Try.prog 68 #[.pointer (some ⟨cb, 0, none⟩), .pointer (some ⟨ab, 0, none⟩), .pointer (some ⟨qb, 0, none⟩), .pointer (some ⟨kdb, 0, none⟩)] W fun e W' => e = .returned (ctV { c with val := c.val + a, held := c.held - a, H := Gm.putM q 0 c.H }) ∧ HI W' hb (Gm.putM q 0 c.H) ∧ Chg (fun k => k = cb ∨ k = hb) W W' := by
  obtain ⟨rb, hrb⟩ : ∃ rb, rb = W.heap.size := ⟨_, rfl⟩
  obtain ⟨X0, hX0⟩ : ∃ X, X = W.alloc (.cells #[.string ⟨#[]⟩, .int .i64 0, .int .i64 0, .int .i64 0, .map none] 67) := ⟨_, rfl⟩
  have hb0 : Below W.heap.size W X0 := by rw [hX0]; exact (Below.refl _ _).alloc (Nat.le_refl _) _
  have B0 : Hid (Blk X0 cb #[.string ⟨c.nm.toArray⟩, .int .i64 c.lim, .int .i64 c.val, .int .i64 c.held, .map (some hb)] 67) := show Blk X0 cb #[.string ⟨c.nm.toArray⟩, .int .i64 c.lim, .int .i64 c.val, .int .i64 c.held, .map (some hb)] 67 from by have h := hC.below hb0 hC.lt; unfold Ct.cs at h; rwa [hhb] at h
  have R0 : Hid (Blk X0 rb #[.string ⟨#[]⟩, .int .i64 0, .int .i64 0, .int .i64 0, .map none] 67) := show Blk X0 rb #[.string ⟨#[]⟩, .int .i64 0, .int .i64 0, .int .i64 0, .map none] 67 from by rw [hX0, hrb]; exact heap_alloc_new W _
  have Na0 : Hid (Blk X0 ab #[.int .i64 a] 3) := ha.below hb0 ha.lt
  have Nq0 : Hid (Blk X0 qb #[.int .i64 q] 3) := hq.below hb0 hq.lt
  have Nkd0 : Hid (Blk X0 kdb #[.int .i64 kd] 3) := hkd.below hb0 hkd.lt
  have M0 : Hid (HI X0 hb c.H) := hM.same (hb0.block _ hM.lt)
  have C0 : Hid (Chg (fun k => k = cb ∨ k = hb) W X0) := Chg.ofBelow _ hb0
  have NE : Hid (rb ≠ cb ∧ W.heap.size ≤ rb) := show rb ≠ cb ∧ W.heap.size ≤ rb from ⟨by have := hC.lt; omega, by omega⟩
  clear hC hb0 ha hq hkd hM
  have hk' : (kd == 5) = false := by simpa using hk
  clear hk
  go_enter Try.func68, Try.ntmps68
  go_upto_region 1 with fail
  rw [← hX0, ← hrb]
  clear hX0 hrb
  have y0 : X0.cell? ⟨cb, 0, none⟩ = some (.string ⟨c.nm.toArray⟩) := B0.out.cell 0
  have y1 : X0.cell? ⟨cb, 1, none⟩ = some (.int .i64 c.lim) := B0.out.cell 1
  have y2 : X0.cell? ⟨cb, 2, none⟩ = some (.int .i64 c.val) := B0.out.cell 2
  have y3 : X0.cell? ⟨cb, 3, none⟩ = some (.int .i64 c.held) := B0.out.cell 3
  have y4 : X0.cell? ⟨cb, 4, none⟩ = some (.map (some hb)) := B0.out.cell 4
  have na : X0.cell? ⟨ab, 0, none⟩ = some (.int .i64 a) := Na0.out.cell 0
  have nq : X0.cell? ⟨qb, 0, none⟩ = some (.int .i64 q) := Nq0.out.cell 0
  have nkd : X0.cell? ⟨kdb, 0, none⟩ = some (.int .i64 kd) := Nkd0.out.cell 0
  have g3 : X0.frozen? ⟨cb, 3, none⟩ = false := B0.out.frozen 3
  obtain ⟨X1, hX⟩ : ∃ X, X = X0.setCell ⟨cb, 3, none⟩ (.int .i64 (c.held - a)) := ⟨_, rfl⟩
  have hc : Chg (fun b => b = cb) X0 X1 := by rw [hX]; exact setCell_chg _ _ _ _
  have B1 : Hid (Blk X1 cb #[.string ⟨c.nm.toArray⟩, .int .i64 c.lim, .int .i64 c.val, .int .i64 (c.held - a), .map (some hb)] 67) := show Blk X1 cb #[.string ⟨c.nm.toArray⟩, .int .i64 c.lim, .int .i64 c.val, .int .i64 (c.held - a), .map (some hb)] 67 from by rw [hX]; exact B0.out.set 3 _
  have R1 : Hid (Blk X1 rb #[.string ⟨#[]⟩, .int .i64 0, .int .i64 0, .int .i64 0, .map none] 67) := hc.blk R0.out NE.out.1
  have Na1 : Hid (Blk X1 ab #[.int .i64 a] 3) := hc.blk Na0.out (Blk.ne_t Na0.out B0.out (by decide))
  have Nq1 : Hid (Blk X1 qb #[.int .i64 q] 3) := hc.blk Nq0.out (Blk.ne_t Nq0.out B0.out (by decide))
  have Nkd1 : Hid (Blk X1 kdb #[.int .i64 kd] 3) := hc.blk Nkd0.out (Blk.ne_t Nkd0.out B0.out (by decide))
  have M1 : Hid (HI X1 hb c.H) := M0.out.same (hc.block _ M0.out.lt (fun e => M0.out.ne_b B0.out e.symm))
  have C1 : Hid (Chg (fun k => k = cb ∨ k = hb) W X1) := C0.out.trans hc (fun b _ e => Or.inl e)
  go_upto_region 2 with fail
  rw [← hX]
  clear hX hc y0 y1 y2 y3 y4 na nq nkd g3 B0 R0 C0 Na0 Nq0 Nkd0 M0
  have y0 : X1.cell? ⟨cb, 0, none⟩ = some (.string ⟨c.nm.toArray⟩) := B1.out.cell 0
  have y1 : X1.cell? ⟨cb, 1, none⟩ = some (.int .i64 c.lim) := B1.out.cell 1
  have y2 : X1.cell? ⟨cb, 2, none⟩ = some (.int .i64 c.val) := B1.out.cell 2
  have y3 : X1.cell? ⟨cb, 3, none⟩ = some (.int .i64 (c.held - a)) := B1.out.cell 3
  have y4 : X1.cell? ⟨cb, 4, none⟩ = some (.map (some hb)) := B1.out.cell 4
  have na : X1.cell? ⟨ab, 0, none⟩ = some (.int .i64 a) := Na1.out.cell 0
  have nq : X1.cell? ⟨qb, 0, none⟩ = some (.int .i64 q) := Nq1.out.cell 0
  have nkd : X1.cell? ⟨kdb, 0, none⟩ = some (.int .i64 kd) := Nkd1.out.cell 0
  obtain ⟨X2, hrun0, hM, hc, hsz⟩ := M1.out.putM q 0
  have hrun : (Instr.mapUpdate 65 (.map (some hb)) (.int .i64 q) (.int .i64 0)).run Try.prog X1 = .ok () X2 := hrun0
  have B2 : Hid (Blk X2 cb #[.string ⟨c.nm.toArray⟩, .int .i64 c.lim, .int .i64 c.val, .int .i64 (c.held - a), .map (some hb)] 67) := hc.blk B1.out (M1.out.ne_b B1.out)
  have R2 : Hid (Blk X2 rb #[.string ⟨#[]⟩, .int .i64 0, .int .i64 0, .int .i64 0, .map none] 67) := hc.blk R1.out (M1.out.ne_b R1.out)
  have Na2 : Hid (Blk X2 ab #[.int .i64 a] 3) := hc.blk Na1.out (M1.out.ne_b Na1.out)
  have Nq2 : Hid (Blk X2 qb #[.int .i64 q] 3) := hc.blk Nq1.out (M1.out.ne_b Nq1.out)
  have Nkd2 : Hid (Blk X2 kdb #[.int .i64 kd] 3) := hc.blk Nkd1.out (M1.out.ne_b Nkd1.out)
  have M2 : Hid (HI X2 hb (Gm.putM q 0 c.H)) := hM
  have C2 : Hid (Chg (fun k => k = cb ∨ k = hb) W X2) := C1.out.trans hc (fun b _ e => Or.inr e)
  go_upto_region 3 with fail
  clear hM hc hrun hrun0 hsz y0 y1 y2 y3 y4 na nq nkd B1 R1 C1 Na1 Nq1 Nkd1 M1
  have nkd : X2.cell? ⟨kdb, 0, none⟩ = some (.int .i64 kd) := Nkd2.out.cell 0
  go_upto_region 4 with fail
  clear nkd
  have y0 : X2.cell? ⟨cb, 0, none⟩ = some (.string ⟨c.nm.toArray⟩) := B2.out.cell 0
  have y1 : X2.cell? ⟨cb, 1, none⟩ = some (.int .i64 c.lim) := B2.out.cell 1
  have y2 : X2.cell? ⟨cb, 2, none⟩ = some (.int .i64 c.val) := B2.out.cell 2
  have y3 : X2.cell? ⟨cb, 3, none⟩ = some (.int .i64 (c.held - a)) := B2.out.cell 3
  have y4 : X2.cell? ⟨cb, 4, none⟩ = some (.map (some hb)) := B2.out.cell 4
  have na : X2.cell? ⟨ab, 0, none⟩ = some (.int .i64 a) := Na2.out.cell 0
  have nq : X2.cell? ⟨qb, 0, none⟩ = some (.int .i64 q) := Nq2.out.cell 0
  have nkd : X2.cell? ⟨kdb, 0, none⟩ = some (.int .i64 kd) := Nkd2.out.cell 0
  have g2 : X2.frozen? ⟨cb, 2, none⟩ = false := B2.out.frozen 2
  obtain ⟨X3, hX⟩ : ∃ X, X = X2.setCell ⟨cb, 2, none⟩ (.int .i64 (c.val + a)) := ⟨_, rfl⟩
  have hc : Chg (fun b => b = cb) X2 X3 := by rw [hX]; exact setCell_chg _ _ _ _
  have B3 : Hid (Blk X3 cb #[.string ⟨c.nm.toArray⟩, .int .i64 c.lim, .int .i64 (c.val + a), .int .i64 (c.held - a), .map (some hb)] 67) := show Blk X3 cb #[.string ⟨c.nm.toArray⟩, .int .i64 c.lim, .int .i64 (c.val + a), .int .i64 (c.held - a), .map (some hb)] 67 from by rw [hX]; exact B2.out.set 2 _
  have R3 : Hid (Blk X3 rb #[.string ⟨#[]⟩, .int .i64 0, .int .i64 0, .int .i64 0, .map none] 67) := hc.blk R2.out NE.out.1
  have Na3 : Hid (Blk X3 ab #[.int .i64 a] 3) := hc.blk Na2.out (Blk.ne_t Na2.out B2.out (by decide))
  have Nq3 : Hid (Blk X3 qb #[.int .i64 q] 3) := hc.blk Nq2.out (Blk.ne_t Nq2.out B2.out (by decide))
  have Nkd3 : Hid (Blk X3 kdb #[.int .i64 kd] 3) := hc.blk Nkd2.out (Blk.ne_t Nkd2.out B2.out (by decide))
  have M3 : Hid (HI X3 hb (Gm.putM q 0 c.H)) := M2.out.same (hc.block _ M2.out.lt (fun e => M2.out.ne_b B2.out e.symm))
  have C3 : Hid (Chg (fun k => k = cb ∨ k = hb) W X3) := C2.out.trans hc (fun b _ e => Or.inl e)
  go_upto_region 5 with fail
  rw [← hX]
  clear hX hc y0 y1 y2 y3 y4 na nq nkd g2 B2 R2 C2 Na2 Nq2 Nkd2 M2
  have y0 : X3.cell? ⟨cb, 0, none⟩ = some (.string ⟨c.nm.toArray⟩) := B3.out.cell 0
  have y1 : X3.cell? ⟨cb, 1, none⟩ = some (.int .i64 c.lim) := B3.out.cell 1
  have y2 : X3.cell? ⟨cb, 2, none⟩ = some (.int .i64 (c.val + a)) := B3.out.cell 2
  have y3 : X3.cell? ⟨cb, 3, none⟩ = some (.int .i64 (c.held - a)) := B3.out.cell 3
  have y4 : X3.cell? ⟨cb, 4, none⟩ = some (.map (some hb)) := B3.out.cell 4
  obtain ⟨Z, hZ⟩ : ∃ Z, Z = (((((X3.setCell ⟨rb, 0, none⟩ (.string ⟨c.nm.toArray⟩)).setCell ⟨rb, 1, none⟩ (.int .i64 c.lim)).setCell ⟨rb, 2, none⟩ (.int .i64 (c.val + a))).setCell ⟨rb, 3, none⟩ (.int .i64 (c.held - a))).setCell ⟨rb, 4, none⟩ (.map (some hb))) := ⟨_, rfl⟩
  have HZ : Hid (Blk Z rb #[.string ⟨c.nm.toArray⟩, .int .i64 c.lim, .int .i64 (c.val + a), .int .i64 (c.held - a), .map (some hb)] 67) := show Blk Z rb #[.string ⟨c.nm.toArray⟩, .int .i64 c.lim, .int .i64 (c.val + a), .int .i64 (c.held - a), .map (some hb)] 67 from by rw [hZ]; exact (((((R3.out.set 0 (.string ⟨c.nm.toArray⟩)).set 1 (.int .i64 c.lim)).set 2 (.int .i64 (c.val + a))).set 3 (.int .i64 (c.held - a))).set 4 (.map (some hb)))
  have hcz : Chg (fun b => b = rb) X3 Z := by rw [hZ]; exact ((((setCell_chg _ _ _ _).trans (setCell_chg _ _ _ _) (fun _ _ e => e)).trans (setCell_chg _ _ _ _) (fun _ _ e => e)).trans (setCell_chg _ _ _ _) (fun _ _ e => e)).trans (setCell_chg _ _ _ _) (fun _ _ e => e)
  have HCZ : Hid (Chg (fun k => k = cb ∨ k = hb) W Z) := C3.out.trans hcz (fun b hb e => absurd hb (by have := NE.out.2; omega))
  have HMZ : Hid (HI Z hb (Gm.putM q 0 c.H)) := M3.out.same (hcz.block _ M3.out.lt (fun e => M3.out.ne_b R3.out e.symm))
  have z0 : X3.cell? ⟨rb, 0, none⟩ = some (.string ⟨#[]⟩) := R3.out.cell 0
  have g0 : X3.frozen? ⟨rb, 0, none⟩ = false := R3.out.frozen 0
  have z1 : X3.cell? ⟨rb, 1, none⟩ = some (.int .i64 0) := R3.out.cell 1
  have g1 : X3.frozen? ⟨rb, 1, none⟩ = false := R3.out.frozen 1
  have z2 : X3.cell? ⟨rb, 2, none⟩ = some (.int .i64 0) := R3.out.cell 2
  have g2 : X3.frozen? ⟨rb, 2, none⟩ = false := R3.out.frozen 2
  have z3 : X3.cell? ⟨rb, 3, none⟩ = some (.int .i64 0) := R3.out.cell 3
  have g3 : X3.frozen? ⟨rb, 3, none⟩ = false := R3.out.frozen 3
  have z4 : X3.cell? ⟨rb, 4, none⟩ = some (.map none) := R3.out.cell 4
  have g4 : X3.frozen? ⟨rb, 4, none⟩ = false := R3.out.frozen 4
  clear hcz
  go_wp2_with fail
  rw [← hZ]
  refine bodyPost_ret (results_cell_row Try.results68 _ _ rb 67 _ (0, 0) _ rfl HZ.out Try.underlying67 rfl (by kernel_rfl)) rfl ?_
  exact ⟨by simp only [ctV, Ct.cs, hhb], HMZ.out, HCZ.out⟩
set_option maxRecDepth 100000 in
set_option maxHeartbeats 1600000 in
theorem end1_no {cb ab qb kdb : Nat} {hb : Nat} {c : Ct} (a q kd : Int) (W : World) (hC : Blk W cb c.cs 67) (ha : Blk W ab #[.int .i64 a] 3) (hq : Blk W qb #[.int .i64 q] 3) (hkd : Blk W kdb #[.int .i64 kd] 3) (hM : HI W hb c.H) (hhb : c.hb = some hb) (hw : IntKind.i64.wrap (c.held - a) = c.held - a) (hw2 : IntKind.i64.wrap (c.val + a) = c.val + a) (hk : kd = 5) :
    Calls Try.prog 68 #[.pointer (some ⟨cb, 0, none⟩), .pointer (some ⟨ab, 0, none⟩), .pointer (some ⟨qb, 0, none⟩), .pointer (some ⟨kdb, 0, none⟩)] W fun e W' => e = .returned (ctV { c with val := c.val, held := c.held - a, H := Gm.putM q 0 c.H }) ∧ HI W' hb (Gm.putM q 0 c.H) ∧ Chg (fun k => k = cb ∨ k = hb) W W' := by
  obtain ⟨rb, hrb⟩ : ∃ rb, rb = W.heap.size := ⟨_, rfl⟩
  obtain ⟨X0, hX0⟩ : ∃ X, X = W.alloc (.cells #[.string ⟨#[]⟩, .int .i64 0, .int .i64 0, .int .i64 0, .map none] 67) := ⟨_, rfl⟩
  have hb0 : Below W.heap.size W X0 := by rw [hX0]; exact (Below.refl _ _).alloc (Nat.le_refl _) _
  have B0 : Hid (Blk X0 cb #[.string ⟨c.nm.toArray⟩, .int .i64 c.lim, .int .i64 c.val, .int .i64 c.held, .map (some hb)] 67) := show Blk X0 cb #[.string ⟨c.nm.toArray⟩, .int .i64 c.lim, .int .i64 c.val, .int .i64 c.held, .map (some hb)] 67 from by have h := hC.below hb0 hC.lt; unfold Ct.cs at h; rwa [hhb] at h
  have R0 : Hid (Blk X0 rb #[.string ⟨#[]⟩, .int .i64 0, .int .i64 0, .int .i64 0, .map none] 67) := show Blk X0 rb #[.string ⟨#[]⟩, .int .i64 0, .int .i64 0, .int .i64 0, .map none] 67 from by rw [hX0, hrb]; exact heap_alloc_new W _
  have Na0 : Hid (Blk X0 ab #[.int .i64 a] 3) := ha.below hb0 ha.lt
  have Nq0 : Hid (Blk X0 qb #[.int .i64 q] 3) := hq.below hb0 hq.lt
  have Nkd0 : Hid (Blk X0 kdb #[.int .i64 kd] 3) := hkd.below hb0 hkd.lt
  have M0 : Hid (HI X0 hb c.H) := hM.same (hb0.block _ hM.lt)
  have C0 : Hid (Chg (fun k => k = cb ∨ k = hb) W X0) := Chg.ofBelow _ hb0
  have NE : Hid (rb ≠ cb ∧ W.heap.size ≤ rb) := show rb ≠ cb ∧ W.heap.size ≤ rb from ⟨by have := hC.lt; omega, by omega⟩
  clear hC hb0 ha hq hkd hM
  have hk' : (kd == 5) = true := by simpa using hk
  clear hk
  go_enter Try.func68, Try.ntmps68
  go_upto_region 1 with fail
  rw [← hX0, ← hrb]
  clear hX0 hrb
  have y0 : X0.cell? ⟨cb, 0, none⟩ = some (.string ⟨c.nm.toArray⟩) := B0.out.cell 0
  have y1 : X0.cell? ⟨cb, 1, none⟩ = some (.int .i64 c.lim) := B0.out.cell 1
  have y2 : X0.cell? ⟨cb, 2, none⟩ = some (.int .i64 c.val) := B0.out.cell 2
  have y3 : X0.cell? ⟨cb, 3, none⟩ = some (.int .i64 c.held) := B0.out.cell 3
  have y4 : X0.cell? ⟨cb, 4, none⟩ = some (.map (some hb)) := B0.out.cell 4
  have na : X0.cell? ⟨ab, 0, none⟩ = some (.int .i64 a) := Na0.out.cell 0
  have nq : X0.cell? ⟨qb, 0, none⟩ = some (.int .i64 q) := Nq0.out.cell 0
  have nkd : X0.cell? ⟨kdb, 0, none⟩ = some (.int .i64 kd) := Nkd0.out.cell 0
  have g3 : X0.frozen? ⟨cb, 3, none⟩ = false := B0.out.frozen 3
  obtain ⟨X1, hX⟩ : ∃ X, X = X0.setCell ⟨cb, 3, none⟩ (.int .i64 (c.held - a)) := ⟨_, rfl⟩
  have hc : Chg (fun b => b = cb) X0 X1 := by rw [hX]; exact setCell_chg _ _ _ _
  have B1 : Hid (Blk X1 cb #[.string ⟨c.nm.toArray⟩, .int .i64 c.lim, .int .i64 c.val, .int .i64 (c.held - a), .map (some hb)] 67) := show Blk X1 cb #[.string ⟨c.nm.toArray⟩, .int .i64 c.lim, .int .i64 c.val, .int .i64 (c.held - a), .map (some hb)] 67 from by rw [hX]; exact B0.out.set 3 _
  have R1 : Hid (Blk X1 rb #[.string ⟨#[]⟩, .int .i64 0, .int .i64 0, .int .i64 0, .map none] 67) := hc.blk R0.out NE.out.1
  have Na1 : Hid (Blk X1 ab #[.int .i64 a] 3) := hc.blk Na0.out (Blk.ne_t Na0.out B0.out (by decide))
  have Nq1 : Hid (Blk X1 qb #[.int .i64 q] 3) := hc.blk Nq0.out (Blk.ne_t Nq0.out B0.out (by decide))
  have Nkd1 : Hid (Blk X1 kdb #[.int .i64 kd] 3) := hc.blk Nkd0.out (Blk.ne_t Nkd0.out B0.out (by decide))
  have M1 : Hid (HI X1 hb c.H) := M0.out.same (hc.block _ M0.out.lt (fun e => M0.out.ne_b B0.out e.symm))
  have C1 : Hid (Chg (fun k => k = cb ∨ k = hb) W X1) := C0.out.trans hc (fun b _ e => Or.inl e)
  go_upto_region 2 with fail
  rw [← hX]
  clear hX hc y0 y1 y2 y3 y4 na nq nkd g3 B0 R0 C0 Na0 Nq0 Nkd0 M0
  have y0 : X1.cell? ⟨cb, 0, none⟩ = some (.string ⟨c.nm.toArray⟩) := B1.out.cell 0
  have y1 : X1.cell? ⟨cb, 1, none⟩ = some (.int .i64 c.lim) := B1.out.cell 1
  have y2 : X1.cell? ⟨cb, 2, none⟩ = some (.int .i64 c.val) := B1.out.cell 2
  have y3 : X1.cell? ⟨cb, 3, none⟩ = some (.int .i64 (c.held - a)) := B1.out.cell 3
  have y4 : X1.cell? ⟨cb, 4, none⟩ = some (.map (some hb)) := B1.out.cell 4
  have na : X1.cell? ⟨ab, 0, none⟩ = some (.int .i64 a) := Na1.out.cell 0
  have nq : X1.cell? ⟨qb, 0, none⟩ = some (.int .i64 q) := Nq1.out.cell 0
  have nkd : X1.cell? ⟨kdb, 0, none⟩ = some (.int .i64 kd) := Nkd1.out.cell 0
  obtain ⟨X2, hrun0, hM, hc, hsz⟩ := M1.out.putM q 0
  have hrun : (Instr.mapUpdate 65 (.map (some hb)) (.int .i64 q) (.int .i64 0)).run Try.prog X1 = .ok () X2 := hrun0
  have B2 : Hid (Blk X2 cb #[.string ⟨c.nm.toArray⟩, .int .i64 c.lim, .int .i64 c.val, .int .i64 (c.held - a), .map (some hb)] 67) := hc.blk B1.out (M1.out.ne_b B1.out)
  have R2 : Hid (Blk X2 rb #[.string ⟨#[]⟩, .int .i64 0, .int .i64 0, .int .i64 0, .map none] 67) := hc.blk R1.out (M1.out.ne_b R1.out)
  have Na2 : Hid (Blk X2 ab #[.int .i64 a] 3) := hc.blk Na1.out (M1.out.ne_b Na1.out)
  have Nq2 : Hid (Blk X2 qb #[.int .i64 q] 3) := hc.blk Nq1.out (M1.out.ne_b Nq1.out)
  have Nkd2 : Hid (Blk X2 kdb #[.int .i64 kd] 3) := hc.blk Nkd1.out (M1.out.ne_b Nkd1.out)
  have M2 : Hid (HI X2 hb (Gm.putM q 0 c.H)) := hM
  have C2 : Hid (Chg (fun k => k = cb ∨ k = hb) W X2) := C1.out.trans hc (fun b _ e => Or.inr e)
  go_upto_region 3 with fail
  clear hM hc hrun hrun0 hsz y0 y1 y2 y3 y4 na nq nkd B1 R1 C1 Na1 Nq1 Nkd1 M1
  have nkd : X2.cell? ⟨kdb, 0, none⟩ = some (.int .i64 kd) := Nkd2.out.cell 0
  go_upto_region 5 with fail
  clear nkd
  have y0 : X2.cell? ⟨cb, 0, none⟩ = some (.string ⟨c.nm.toArray⟩) := B2.out.cell 0
  have y1 : X2.cell? ⟨cb, 1, none⟩ = some (.int .i64 c.lim) := B2.out.cell 1
  have y2 : X2.cell? ⟨cb, 2, none⟩ = some (.int .i64 c.val) := B2.out.cell 2
  have y3 : X2.cell? ⟨cb, 3, none⟩ = some (.int .i64 (c.held - a)) := B2.out.cell 3
  have y4 : X2.cell? ⟨cb, 4, none⟩ = some (.map (some hb)) := B2.out.cell 4
  obtain ⟨Z, hZ⟩ : ∃ Z, Z = (((((X2.setCell ⟨rb, 0, none⟩ (.string ⟨c.nm.toArray⟩)).setCell ⟨rb, 1, none⟩ (.int .i64 c.lim)).setCell ⟨rb, 2, none⟩ (.int .i64 c.val)).setCell ⟨rb, 3, none⟩ (.int .i64 (c.held - a))).setCell ⟨rb, 4, none⟩ (.map (some hb))) := ⟨_, rfl⟩
  have HZ : Hid (Blk Z rb #[.string ⟨c.nm.toArray⟩, .int .i64 c.lim, .int .i64 c.val, .int .i64 (c.held - a), .map (some hb)] 67) := show Blk Z rb #[.string ⟨c.nm.toArray⟩, .int .i64 c.lim, .int .i64 c.val, .int .i64 (c.held - a), .map (some hb)] 67 from by rw [hZ]; exact (((((R2.out.set 0 (.string ⟨c.nm.toArray⟩)).set 1 (.int .i64 c.lim)).set 2 (.int .i64 c.val)).set 3 (.int .i64 (c.held - a))).set 4 (.map (some hb)))
  have hcz : Chg (fun b => b = rb) X2 Z := by rw [hZ]; exact ((((setCell_chg _ _ _ _).trans (setCell_chg _ _ _ _) (fun _ _ e => e)).trans (setCell_chg _ _ _ _) (fun _ _ e => e)).trans (setCell_chg _ _ _ _) (fun _ _ e => e)).trans (setCell_chg _ _ _ _) (fun _ _ e => e)
  have HCZ : Hid (Chg (fun k => k = cb ∨ k = hb) W Z) := C2.out.trans hcz (fun b hb e => absurd hb (by have := NE.out.2; omega))
  have HMZ : Hid (HI Z hb (Gm.putM q 0 c.H)) := M2.out.same (hcz.block _ M2.out.lt (fun e => M2.out.ne_b R2.out e.symm))
  have z0 : X2.cell? ⟨rb, 0, none⟩ = some (.string ⟨#[]⟩) := R2.out.cell 0
  have g0 : X2.frozen? ⟨rb, 0, none⟩ = false := R2.out.frozen 0
  have z1 : X2.cell? ⟨rb, 1, none⟩ = some (.int .i64 0) := R2.out.cell 1
  have g1 : X2.frozen? ⟨rb, 1, none⟩ = false := R2.out.frozen 1
  have z2 : X2.cell? ⟨rb, 2, none⟩ = some (.int .i64 0) := R2.out.cell 2
  have g2 : X2.frozen? ⟨rb, 2, none⟩ = false := R2.out.frozen 2
  have z3 : X2.cell? ⟨rb, 3, none⟩ = some (.int .i64 0) := R2.out.cell 3
  have g3 : X2.frozen? ⟨rb, 3, none⟩ = false := R2.out.frozen 3
  have z4 : X2.cell? ⟨rb, 4, none⟩ = some (.map none) := R2.out.cell 4
  have g4 : X2.frozen? ⟨rb, 4, none⟩ = false := R2.out.frozen 4
  clear hcz
  go_wp2_with fail
  rw [← hZ]
  refine bodyPost_ret (results_cell_row Try.results68 _ _ rb 67 _ (0, 0) _ rfl HZ.out Try.underlying67 rfl (by kernel_rfl)) rfl ?_
  exact ⟨by simp only [ctV, Ct.cs, hhb], HMZ.out, HCZ.out⟩
end Go.Proofs.Ytaiknlnjahjeiaa
