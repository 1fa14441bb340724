import Derived.Test.YtaiknlnjahjeiaaR5a
import Derived.Deep.Cut
namespace Go.Proofs.Ytaiknlnjahjeiaa
open Go.RowKit Go.PlainAid Go.MapKept
set_option linter.unusedVariables false
set_option linter.unusedSimpArgs false
theorem amtR_le3 (q : Int) : ∀ {H : List (Int × Int)}, (∀ p ∈ H, 1 ≤ p.2) → 0 ≤ amtR q H ∧ amtR q H ≤ sumH H
  | [], _ => by simp [amtR, sumH]
  | x :: t, h => by
    have h1 := h x (by simp)
    have h2 := sum_nn (H := t) (fun p hp => by have := h p (by simp [hp]); omega)
    have h3 := amtR_le3 q (H := t) (fun p hp => h p (by simp [hp]))
    simp only [sumH] at h2 h3
    simp only [amtR, sumH, List.map_cons, List.sum_cons]
    split <;> omega
set_option maxRecDepth 100000 in
set_option maxHeartbeats 6400000 in
theorem rhold_any {B0 K : Nat} {c : RC} (A B q : Int) (n : List UInt8) (w : World) (h : c.Rd B0 w) (hok : c.Ok K) (hK : K ≤ 90000) (hA1 : 0 ≤ A) (hA2 : A ≤ 1099511627776) (hB0 : B0 ≤ w.heap.size) :
    Calls Try.prog 60 #[.agg c.cs, .agg #[.int .i64 4, .string ⟨n.toArray⟩, .int .i64 A, .int .i64 B], .int .i64 q] w (DnPost B0 w c (rholdO A q c)) := by
  obtain ⟨ho, hc, hhv, _⟩ := own_slice h.h
  obtain ⟨uo, uc, huv, _⟩ := own_slice h.u
  obtain ⟨hn, hhn⟩ : ∃ x, x = c.H.length := ⟨_, rfl⟩
  obtain ⟨un, hun⟩ : ∃ x, x = c.U.length := ⟨_, rfl⟩
  rw [← hhn] at hhv
  rw [← hun] at huv
  have HHV : Hid (c.hv = .slice ho hn hc) := hhv
  have HUV : Hid (c.uv = .slice uo un uc) := huv
  have HHN : Hid (hn = c.H.length ∧ un = c.U.length) := ⟨hhn, hun⟩
  obtain ⟨cb, hcb⟩ : ∃ b, b = w.heap.size := ⟨_, rfl⟩
  obtain ⟨ob, hob⟩ : ∃ b, b = w.heap.size + 1 := ⟨_, rfl⟩
  obtain ⟨rb, hrb⟩ : ∃ b, b = w.heap.size + 1 + 1 := ⟨_, rfl⟩
  obtain ⟨X, hX⟩ : ∃ X, X = ((w.alloc (.cells #[.string ⟨c.nm.toArray⟩, .int .i64 c.cap, .int .i64 c.val, .slice ho hn hc, .slice uo un uc] 94)).alloc (.cells #[.int .i64 4, .string ⟨n.toArray⟩, .int .i64 A, .int .i64 B] 31)).alloc (.cells #[.string ⟨#[]⟩, .int .i64 0, .int .i64 0, .slice none 0 0, .slice none 0 0] 94) := ⟨_, rfl⟩
  have hbX : Below w.heap.size w X := by rw [hX]; exact (((Below.refl _ _).alloc (Nat.le_refl _) _).alloc (by simp) _).alloc (by simp; omega) _
  have BC : Hid (Blk X cb #[.string ⟨c.nm.toArray⟩, .int .i64 c.cap, .int .i64 c.val, .slice ho hn hc, .slice uo un uc] 94) := show Blk X cb #[.string ⟨c.nm.toArray⟩, .int .i64 c.cap, .int .i64 c.val, .slice ho hn hc, .slice uo un uc] 94 from by rw [hX, hcb]; exact blk_alloc (blk_alloc (heap_alloc_new w _) _) _
  have BO : Hid (Blk X ob #[.int .i64 4, .string ⟨n.toArray⟩, .int .i64 A, .int .i64 B] 31) := show Blk X ob #[.int .i64 4, .string ⟨n.toArray⟩, .int .i64 A, .int .i64 B] 31 from by rw [hX, hob]; have h := heap_alloc_new (w.alloc (.cells #[.string ⟨c.nm.toArray⟩, .int .i64 c.cap, .int .i64 c.val, .slice ho hn hc, .slice uo un uc] 94)) (.cells #[.int .i64 4, .string ⟨n.toArray⟩, .int .i64 A, .int .i64 B] 31); simp only [World.size_alloc] at h; exact blk_alloc h _
  have BR : Hid (Blk X rb #[.string ⟨#[]⟩, .int .i64 0, .int .i64 0, .slice none 0 0, .slice none 0 0] 94) := show Blk X rb #[.string ⟨#[]⟩, .int .i64 0, .int .i64 0, .slice none 0 0, .slice none 0 0] 94 from by rw [hX, hrb]; have h := heap_alloc_new ((w.alloc (.cells #[.string ⟨c.nm.toArray⟩, .int .i64 c.cap, .int .i64 c.val, .slice ho hn hc, .slice uo un uc] 94)).alloc (.cells #[.int .i64 4, .string ⟨n.toArray⟩, .int .i64 A, .int .i64 B] 31)) (.cells #[.string ⟨#[]⟩, .int .i64 0, .int .i64 0, .slice none 0 0, .slice none 0 0] 94); simp only [World.size_alloc] at h; exact h
  have HBX : Hid (Below w.heap.size w X) := hbX
  have HLB : Hid (w.heap.size ≤ cb ∧ w.heap.size ≤ rb ∧ cb ≠ rb) := ⟨by omega, by omega, by omega⟩
  have HRd : Hid (c.Rd B0 w) := h
  have HRX : Hid (c.Rd B0 X) := h.more hbX
  have HOK : Hid (c.Ok K) := hok
  rw [show RC.cs c = #[.string ⟨c.nm.toArray⟩, .int .i64 c.cap, .int .i64 c.val, .slice ho hn hc, .slice uo un uc] from by unfold RC.cs; rw [hhv, huv]]
  clear h hok hbX hhv huv hhn hun
  have hb2 := HOK.out.val
  have hb3 := HOK.out.cap
  have hb1 := HOK.out.sum
  have hb4 : 0 ≤ sumH c.H := sum_nn (fun p hp => by have := HOK.out.pos p hp; omega)
  have w1 : IntKind.i64.wrap (c.val - A) = c.val - A := wrB (by omega) (by omega)
  have HUS : Hid (Calls Try.prog 75 #[.agg #[.string ⟨c.nm.toArray⟩, .int .i64 c.cap, .int .i64 c.val, .slice ho hn hc, .slice uo un uc], .int .i64 q] X (BoxPost X (.bool (decide (q ∈ c.U))))) := by have h := used_any q X HRX.out HOK.out (Nat.le_trans hK (by decide)); rw [HHV.out, HUV.out] at h; exact h
  have HWI : Hid (¬ c.val < A → ∀ W, Below X.heap.size X W ∨ (∃ W0, Below X.heap.size X W0 ∧ Chg (fun b => b = cb) W0 W) → Calls Try.prog 76 #[.agg #[.string ⟨c.nm.toArray⟩, .int .i64 c.cap, .int .i64 (c.val - A), .slice ho hn hc, .slice uo un uc], .agg #[.int .i64 q, .int .i64 A]] W fun e w' => ∃ v, e = .returned v ∧ w'.ownsRow W.heap.size 125 2 v (wo q c.H ++ [(q, A)]).length (flatH (wo q c.H ++ [(q, A)])) ∧ Below W.heap.size W w') := fun hq W hW => by
    have hrd : c.Rd B0 W := by
      rcases hW with hW | ⟨W0, hW, hc⟩
      · exact HRX.out.more hW
      · have h0 := HRX.out.more hW
        have hBW := BC.out.below hW BC.out.lt
        refine ⟨ownsRow_same h0.h (fun g hg => hc.block g (ownsRow_lt h0.h hg).2 (fun e => ?_)), ownsRow_same h0.u (fun g hg => hc.block g (ownsRow_lt h0.u hg).2 (fun e => ?_))⟩
        · obtain ⟨cu, hcu⟩ := ownsRow_type h0.h hg
          exact Blk.ne_t (show Blk W0 g cu 125 from hcu) hBW (by decide) e
        · obtain ⟨cu, hcu⟩ := ownsRow_type h0.u hg
          exact Blk.ne_t (show Blk W0 g cu 3 from hcu) hBW (by decide) e
    have h := with_any (B := B0) (K := K) (c := ⟨c.nm, c.cap, c.val - A, c.hv, c.H, c.uv, c.U⟩) q A W ⟨hrd.h, hrd.u⟩ ⟨HOK.out.cap, by simp only; omega, by simp only; omega, HOK.out.pos, HOK.out.kd, HOK.out.hl, HOK.out.ul⟩ (Nat.le_trans hK (by decide))
    simp only [HHV.out, HUV.out] at h
    exact h
  have hun : un ≤ 90000 := by rw [HHN.out.2]; exact Nat.le_trans HOK.out.ul hK
  clear hb1 hb2 hb3 hb4 hA1 hA2
  by_cases hq : c.val < A
  · have HR : Hid (rholdO A q c = c.no 60) := show _ = _ from by unfold rholdO; rw [if_pos hq]
    go_enter Try.func60, Try.ntmps60
    go_upto_region 1 with fail
    rw [← hX, ← hrb, ← hob, ← hcb]
    clear hX hrb hob hcb
    have c0 : X.cell? ⟨cb, 0, none⟩ = some (.string ⟨c.nm.toArray⟩) := BC.out.cell 0
    have c1 : X.cell? ⟨cb, 1, none⟩ = some (.int .i64 c.cap) := BC.out.cell 1
    have c2 : X.cell? ⟨cb, 2, none⟩ = some (.int .i64 c.val) := BC.out.cell 2
    have c3 : X.cell? ⟨cb, 3, none⟩ = some (.slice ho hn hc) := BC.out.cell 3
    have c4 : X.cell? ⟨cb, 4, none⟩ = some (.slice uo un uc) := BC.out.cell 4
    have o0 : X.cell? ⟨ob, 0, none⟩ = some (.int .i64 4) := BO.out.cell 0
    have o1 : X.cell? ⟨ob, 1, none⟩ = some (.string ⟨n.toArray⟩) := BO.out.cell 1
    have o2 : X.cell? ⟨ob, 2, none⟩ = some (.int .i64 A) := BO.out.cell 2
    have o3 : X.cell? ⟨ob, 3, none⟩ = some (.int .i64 B) := BO.out.cell 3
    have r0 : X.cell? ⟨rb, 0, none⟩ = some (.string ⟨#[]⟩) := BR.out.cell 0
    have q0 : X.frozen? ⟨rb, 0, none⟩ = false := BR.out.frozen 0
    have r1 : X.cell? ⟨rb, 1, none⟩ = some (.int .i64 0) := BR.out.cell 1
    have q1 : X.frozen? ⟨rb, 1, none⟩ = false := BR.out.frozen 1
    have r2 : X.cell? ⟨rb, 2, none⟩ = some (.int .i64 0) := BR.out.cell 2
    have q2 : X.frozen? ⟨rb, 2, none⟩ = false := BR.out.frozen 2
    have r3 : X.cell? ⟨rb, 3, none⟩ = some (.slice none 0 0) := BR.out.cell 3
    have q3 : X.frozen? ⟨rb, 3, none⟩ = false := BR.out.frozen 3
    have r4 : X.cell? ⟨rb, 4, none⟩ = some (.slice none 0 0) := BR.out.cell 4
    have q4 : X.frozen? ⟨rb, 4, none⟩ = false := BR.out.frozen 4
    obtain ⟨Z, hZ⟩ : ∃ Z, Z = (((((X.setCell ⟨rb, 0, none⟩ (.string ⟨c.nm.toArray⟩)).setCell ⟨rb, 1, none⟩ (.int .i64 c.cap)).setCell ⟨rb, 2, none⟩ (.int .i64 c.val)).setCell ⟨rb, 3, none⟩ (.slice ho hn hc)).setCell ⟨rb, 4, none⟩ (.slice uo un uc)) := ⟨_, rfl⟩
    have HZ : Hid (Blk Z rb #[.string ⟨c.nm.toArray⟩, .int .i64 c.cap, .int .i64 c.val, .slice ho hn hc, .slice uo un uc] 94) := show Blk Z rb #[.string ⟨c.nm.toArray⟩, .int .i64 c.cap, .int .i64 c.val, .slice ho hn hc, .slice uo un uc] 94 from by rw [hZ]; exact (((((BR.out.set 0 _).set 1 _).set 2 _).set 3 _).set 4 _)
    have HCZ : Hid (Chg (fun b => b = rb) X Z) := show Chg (fun b => b = rb) X Z from by rw [hZ]; exact ((((setCell_chg _ _ _ _).trans (setCell_chg _ _ _ _) (fun _ _ e => e)).trans (setCell_chg _ _ _ _) (fun _ _ e => e)).trans (setCell_chg _ _ _ _) (fun _ _ e => e)).trans (setCell_chg _ _ _ _) (fun _ _ e => e)
    have HBZ : Hid (Below w.heap.size w Z) := HBX.out.trans (HCZ.out.below HBX.out.size (fun k e => by rw [e]; exact HLB.out.2.1))
    go_wp2_with fail
    rw [← hZ]
    refine bodyPost_ret (results_done _ _ rb _ _ _ rfl rfl rfl HZ.out (by kernel_rfl)) rfl ?_
    exact DnPost.same HHV.out HUV.out (HR.out) HRd.out HBZ.out
  by_cases hq1 : q < 1
  · have HR : Hid (rholdO A q c = c.no 1) := show _ = _ from by unfold rholdO; rw [if_neg hq, if_pos (Or.inl hq1)]
    go_enter Try.func60, Try.ntmps60
    go_upto_region 1 with fail
    rw [← hX, ← hrb, ← hob, ← hcb]
    clear hX hrb hob hcb
    have c0 : X.cell? ⟨cb, 0, none⟩ = some (.string ⟨c.nm.toArray⟩) := BC.out.cell 0
    have c1 : X.cell? ⟨cb, 1, none⟩ = some (.int .i64 c.cap) := BC.out.cell 1
    have c2 : X.cell? ⟨cb, 2, none⟩ = some (.int .i64 c.val) := BC.out.cell 2
    have c3 : X.cell? ⟨cb, 3, none⟩ = some (.slice ho hn hc) := BC.out.cell 3
    have c4 : X.cell? ⟨cb, 4, none⟩ = some (.slice uo un uc) := BC.out.cell 4
    have o0 : X.cell? ⟨ob, 0, none⟩ = some (.int .i64 4) := BO.out.cell 0
    have o1 : X.cell? ⟨ob, 1, none⟩ = some (.string ⟨n.toArray⟩) := BO.out.cell 1
    have o2 : X.cell? ⟨ob, 2, none⟩ = some (.int .i64 A) := BO.out.cell 2
    have o3 : X.cell? ⟨ob, 3, none⟩ = some (.int .i64 B) := BO.out.cell 3
    have r0 : X.cell? ⟨rb, 0, none⟩ = some (.string ⟨#[]⟩) := BR.out.cell 0
    have q0 : X.frozen? ⟨rb, 0, none⟩ = false := BR.out.frozen 0
    have r1 : X.cell? ⟨rb, 1, none⟩ = some (.int .i64 0) := BR.out.cell 1
    have q1 : X.frozen? ⟨rb, 1, none⟩ = false := BR.out.frozen 1
    have r2 : X.cell? ⟨rb, 2, none⟩ = some (.int .i64 0) := BR.out.cell 2
    have q2 : X.frozen? ⟨rb, 2, none⟩ = false := BR.out.frozen 2
    have r3 : X.cell? ⟨rb, 3, none⟩ = some (.slice none 0 0) := BR.out.cell 3
    have q3 : X.frozen? ⟨rb, 3, none⟩ = false := BR.out.frozen 3
    have r4 : X.cell? ⟨rb, 4, none⟩ = some (.slice none 0 0) := BR.out.cell 4
    have q4 : X.frozen? ⟨rb, 4, none⟩ = false := BR.out.frozen 4
    obtain ⟨Z, hZ⟩ : ∃ Z, Z = (((((X.setCell ⟨rb, 0, none⟩ (.string ⟨c.nm.toArray⟩)).setCell ⟨rb, 1, none⟩ (.int .i64 c.cap)).setCell ⟨rb, 2, none⟩ (.int .i64 c.val)).setCell ⟨rb, 3, none⟩ (.slice ho hn hc)).setCell ⟨rb, 4, none⟩ (.slice uo un uc)) := ⟨_, rfl⟩
    have HZ : Hid (Blk Z rb #[.string ⟨c.nm.toArray⟩, .int .i64 c.cap, .int .i64 c.val, .slice ho hn hc, .slice uo un uc] 94) := show Blk Z rb #[.string ⟨c.nm.toArray⟩, .int .i64 c.cap, .int .i64 c.val, .slice ho hn hc, .slice uo un uc] 94 from by rw [hZ]; exact (((((BR.out.set 0 _).set 1 _).set 2 _).set 3 _).set 4 _)
    have HCZ : Hid (Chg (fun b => b = rb) X Z) := show Chg (fun b => b = rb) X Z from by rw [hZ]; exact ((((setCell_chg _ _ _ _).trans (setCell_chg _ _ _ _) (fun _ _ e => e)).trans (setCell_chg _ _ _ _) (fun _ _ e => e)).trans (setCell_chg _ _ _ _) (fun _ _ e => e)).trans (setCell_chg _ _ _ _) (fun _ _ e => e)
    have HBZ : Hid (Below w.heap.size w Z) := HBX.out.trans (HCZ.out.below HBX.out.size (fun k e => by rw [e]; exact HLB.out.2.1))
    go_wp2_with fail
    rw [← hZ]
    refine bodyPost_ret (results_done _ _ rb _ _ _ rfl rfl rfl HZ.out (by kernel_rfl)) rfl ?_
    exact DnPost.same HHV.out HUV.out (HR.out) HRd.out HBZ.out
  by_cases hm : q ∈ c.U
  · have HR : Hid (rholdO A q c = c.no 1) := show _ = _ from by unfold rholdO; rw [if_neg hq, if_pos (Or.inr hm)]
    have hmd : decide (q ∈ c.U) = true := by simpa using hm
    rw [hmd] at HUS
    have HWI2 : Hid (∀ W, _) := HWI.out hq
    clear hmd hm
    go_enter Try.func60, Try.ntmps60
    go_upto_region 1 with fail
    rw [← hX, ← hrb, ← hob, ← hcb]
    clear hX hrb hob hcb
    have c0 : X.cell? ⟨cb, 0, none⟩ = some (.string ⟨c.nm.toArray⟩) := BC.out.cell 0
    have c1 : X.cell? ⟨cb, 1, none⟩ = some (.int .i64 c.cap) := BC.out.cell 1
    have c2 : X.cell? ⟨cb, 2, none⟩ = some (.int .i64 c.val) := BC.out.cell 2
    have c3 : X.cell? ⟨cb, 3, none⟩ = some (.slice ho hn hc) := BC.out.cell 3
    have c4 : X.cell? ⟨cb, 4, none⟩ = some (.slice uo un uc) := BC.out.cell 4
    have o0 : X.cell? ⟨ob, 0, none⟩ = some (.int .i64 4) := BO.out.cell 0
    have o1 : X.cell? ⟨ob, 1, none⟩ = some (.string ⟨n.toArray⟩) := BO.out.cell 1
    have o2 : X.cell? ⟨ob, 2, none⟩ = some (.int .i64 A) := BO.out.cell 2
    have o3 : X.cell? ⟨ob, 3, none⟩ = some (.int .i64 B) := BO.out.cell 3
    have r0 : X.cell? ⟨rb, 0, none⟩ = some (.string ⟨#[]⟩) := BR.out.cell 0
    have q0 : X.frozen? ⟨rb, 0, none⟩ = false := BR.out.frozen 0
    have r1 : X.cell? ⟨rb, 1, none⟩ = some (.int .i64 0) := BR.out.cell 1
    have q1 : X.frozen? ⟨rb, 1, none⟩ = false := BR.out.frozen 1
    have r2 : X.cell? ⟨rb, 2, none⟩ = some (.int .i64 0) := BR.out.cell 2
    have q2 : X.frozen? ⟨rb, 2, none⟩ = false := BR.out.frozen 2
    have r3 : X.cell? ⟨rb, 3, none⟩ = some (.slice none 0 0) := BR.out.cell 3
    have q3 : X.frozen? ⟨rb, 3, none⟩ = false := BR.out.frozen 3
    have r4 : X.cell? ⟨rb, 4, none⟩ = some (.slice none 0 0) := BR.out.cell 4
    have q4 : X.frozen? ⟨rb, 4, none⟩ = false := BR.out.frozen 4
    go_wp2_with fail
    refine Calls.mono HUS.out ?_
    rintro e9 w3 ⟨rfl, hb3⟩
    clear c0 r0 q0 c1 r1 q1 c2 r2 q2 c3 r3 q3 c4 r4 q4 o0 o1 o2 o3
    have HB3 : Hid (Below X.heap.size X w3) := hb3
    have BC3 : Hid (Blk w3 cb #[.string ⟨c.nm.toArray⟩, .int .i64 c.cap, .int .i64 c.val, .slice ho hn hc, .slice uo un uc] 94) := BC.out.below hb3 BC.out.lt
    have BO3 : Hid (Blk w3 ob #[.int .i64 4, .string ⟨n.toArray⟩, .int .i64 A, .int .i64 B] 31) := BO.out.below hb3 BO.out.lt
    have BR3 : Hid (Blk w3 rb #[.string ⟨#[]⟩, .int .i64 0, .int .i64 0, .slice none 0 0, .slice none 0 0] 94) := BR.out.below hb3 BR.out.lt
    have HBX3 : Hid (Below w.heap.size w w3) := HBX.out.trans (hb3.mono HBX.out.size)
    clear hb3 BC BO BR HBX
    have BC := BC3
    have BO := BO3
    have BR := BR3
    have HBX := HBX3
    clear BC3 BO3 BR3 HBX3
    have c0 : w3.cell? ⟨cb, 0, none⟩ = some (.string ⟨c.nm.toArray⟩) := BC.out.cell 0
    have c1 : w3.cell? ⟨cb, 1, none⟩ = some (.int .i64 c.cap) := BC.out.cell 1
    have c2 : w3.cell? ⟨cb, 2, none⟩ = some (.int .i64 c.val) := BC.out.cell 2
    have c3 : w3.cell? ⟨cb, 3, none⟩ = some (.slice ho hn hc) := BC.out.cell 3
    have c4 : w3.cell? ⟨cb, 4, none⟩ = some (.slice uo un uc) := BC.out.cell 4
    have o0 : w3.cell? ⟨ob, 0, none⟩ = some (.int .i64 4) := BO.out.cell 0
    have o1 : w3.cell? ⟨ob, 1, none⟩ = some (.string ⟨n.toArray⟩) := BO.out.cell 1
    have o2 : w3.cell? ⟨ob, 2, none⟩ = some (.int .i64 A) := BO.out.cell 2
    have o3 : w3.cell? ⟨ob, 3, none⟩ = some (.int .i64 B) := BO.out.cell 3
    have r0 : w3.cell? ⟨rb, 0, none⟩ = some (.string ⟨#[]⟩) := BR.out.cell 0
    have q0 : w3.frozen? ⟨rb, 0, none⟩ = false := BR.out.frozen 0
    have r1 : w3.cell? ⟨rb, 1, none⟩ = some (.int .i64 0) := BR.out.cell 1
    have q1 : w3.frozen? ⟨rb, 1, none⟩ = false := BR.out.frozen 1
    have r2 : w3.cell? ⟨rb, 2, none⟩ = some (.int .i64 0) := BR.out.cell 2
    have q2 : w3.frozen? ⟨rb, 2, none⟩ = false := BR.out.frozen 2
    have r3 : w3.cell? ⟨rb, 3, none⟩ = some (.slice none 0 0) := BR.out.cell 3
    have q3 : w3.frozen? ⟨rb, 3, none⟩ = false := BR.out.frozen 3
    have r4 : w3.cell? ⟨rb, 4, none⟩ = some (.slice none 0 0) := BR.out.cell 4
    have q4 : w3.frozen? ⟨rb, 4, none⟩ = false := BR.out.frozen 4
    obtain ⟨Z, hZ⟩ : ∃ Z, Z = (((((w3.setCell ⟨rb, 0, none⟩ (.string ⟨c.nm.toArray⟩)).setCell ⟨rb, 1, none⟩ (.int .i64 c.cap)).setCell ⟨rb, 2, none⟩ (.int .i64 c.val)).setCell ⟨rb, 3, none⟩ (.slice ho hn hc)).setCell ⟨rb, 4, none⟩ (.slice uo un uc)) := ⟨_, rfl⟩
    have HZ : Hid (Blk Z rb #[.string ⟨c.nm.toArray⟩, .int .i64 c.cap, .int .i64 c.val, .slice ho hn hc, .slice uo un uc] 94) := show Blk Z rb #[.string ⟨c.nm.toArray⟩, .int .i64 c.cap, .int .i64 c.val, .slice ho hn hc, .slice uo un uc] 94 from by rw [hZ]; exact (((((BR.out.set 0 _).set 1 _).set 2 _).set 3 _).set 4 _)
    have HCZ : Hid (Chg (fun b => b = rb) w3 Z) := show Chg (fun b => b = rb) w3 Z from by rw [hZ]; exact ((((setCell_chg _ _ _ _).trans (setCell_chg _ _ _ _) (fun _ _ e => e)).trans (setCell_chg _ _ _ _) (fun _ _ e => e)).trans (setCell_chg _ _ _ _) (fun _ _ e => e)).trans (setCell_chg _ _ _ _) (fun _ _ e => e)
    have HBZ : Hid (Below w.heap.size w Z) := HBX.out.trans (HCZ.out.below HBX.out.size (fun k e => by rw [e]; exact HLB.out.2.1))
    go_wp2_with fail
    rw [← hZ]
    refine bodyPost_ret (results_done _ _ rb _ _ _ rfl rfl rfl HZ.out (by kernel_rfl)) rfl ?_
    exact DnPost.same HHV.out HUV.out (HR.out) HRd.out HBZ.out
  · have HR : Hid (rholdO A q c = ((q, 0), (c.cap, c.val - A, wo q c.H ++ [(q, A)], c.U ++ [q]))) := show _ = _ from by unfold rholdO; rw [if_neg hq, if_neg (fun e => e.elim hq1 hm)]
    have hmd : decide (q ∈ c.U) = false := by simpa using hm
    rw [hmd] at HUS
    have HWI2 : Hid (∀ W, _) := HWI.out hq
    clear hmd hm
    go_enter Try.func60, Try.ntmps60
    go_upto_region 1 with fail
    rw [← hX, ← hrb, ← hob, ← hcb]
    clear hX hrb hob hcb
    have c0 : X.cell? ⟨cb, 0, none⟩ = some (.string ⟨c.nm.toArray⟩) := BC.out.cell 0
    have c1 : X.cell? ⟨cb, 1, none⟩ = some (.int .i64 c.cap) := BC.out.cell 1
    have c2 : X.cell? ⟨cb, 2, none⟩ = some (.int .i64 c.val) := BC.out.cell 2
    have c3 : X.cell? ⟨cb, 3, none⟩ = some (.slice ho hn hc) := BC.out.cell 3
    have c4 : X.cell? ⟨cb, 4, none⟩ = some (.slice uo un uc) := BC.out.cell 4
    have o0 : X.cell? ⟨ob, 0, none⟩ = some (.int .i64 4) := BO.out.cell 0
    have o1 : X.cell? ⟨ob, 1, none⟩ = some (.string ⟨n.toArray⟩) := BO.out.cell 1
    have o2 : X.cell? ⟨ob, 2, none⟩ = some (.int .i64 A) := BO.out.cell 2
    have o3 : X.cell? ⟨ob, 3, none⟩ = some (.int .i64 B) := BO.out.cell 3
    have r0 : X.cell? ⟨rb, 0, none⟩ = some (.string ⟨#[]⟩) := BR.out.cell 0
    have q0 : X.frozen? ⟨rb, 0, none⟩ = false := BR.out.frozen 0
    have r1 : X.cell? ⟨rb, 1, none⟩ = some (.int .i64 0) := BR.out.cell 1
    have q1 : X.frozen? ⟨rb, 1, none⟩ = false := BR.out.frozen 1
    have r2 : X.cell? ⟨rb, 2, none⟩ = some (.int .i64 0) := BR.out.cell 2
    have q2 : X.frozen? ⟨rb, 2, none⟩ = false := BR.out.frozen 2
    have r3 : X.cell? ⟨rb, 3, none⟩ = some (.slice none 0 0) := BR.out.cell 3
    have q3 : X.frozen? ⟨rb, 3, none⟩ = false := BR.out.frozen 3
    have r4 : X.cell? ⟨rb, 4, none⟩ = some (.slice none 0 0) := BR.out.cell 4
    have q4 : X.frozen? ⟨rb, 4, none⟩ = false := BR.out.frozen 4
    go_wp2_with fail
    refine Calls.mono HUS.out ?_
    rintro e9 w3 ⟨rfl, hb3⟩
    clear c0 r0 q0 c1 r1 q1 c2 r2 q2 c3 r3 q3 c4 r4 q4 o0 o1 o2 o3
    have HB3 : Hid (Below X.heap.size X w3) := hb3
    have BC3 : Hid (Blk w3 cb #[.string ⟨c.nm.toArray⟩, .int .i64 c.cap, .int .i64 c.val, .slice ho hn hc, .slice uo un uc] 94) := BC.out.below hb3 BC.out.lt
    have BO3 : Hid (Blk w3 ob #[.int .i64 4, .string ⟨n.toArray⟩, .int .i64 A, .int .i64 B] 31) := BO.out.below hb3 BO.out.lt
    have BR3 : Hid (Blk w3 rb #[.string ⟨#[]⟩, .int .i64 0, .int .i64 0, .slice none 0 0, .slice none 0 0] 94) := BR.out.below hb3 BR.out.lt
    have HBX3 : Hid (Below w.heap.size w w3) := HBX.out.trans (hb3.mono HBX.out.size)
    clear hb3 BC BO BR HBX
    have BC := BC3
    have BO := BO3
    have BR := BR3
    have HBX := HBX3
    clear BC3 BO3 BR3 HBX3
    have c0 : w3.cell? ⟨cb, 0, none⟩ = some (.string ⟨c.nm.toArray⟩) := BC.out.cell 0
    have c1 : w3.cell? ⟨cb, 1, none⟩ = some (.int .i64 c.cap) := BC.out.cell 1
    have c2 : w3.cell? ⟨cb, 2, none⟩ = some (.int .i64 c.val) := BC.out.cell 2
    have c3 : w3.cell? ⟨cb, 3, none⟩ = some (.slice ho hn hc) := BC.out.cell 3
    have c4 : w3.cell? ⟨cb, 4, none⟩ = some (.slice uo un uc) := BC.out.cell 4
    have o0 : w3.cell? ⟨ob, 0, none⟩ = some (.int .i64 4) := BO.out.cell 0
    have o1 : w3.cell? ⟨ob, 1, none⟩ = some (.string ⟨n.toArray⟩) := BO.out.cell 1
    have o2 : w3.cell? ⟨ob, 2, none⟩ = some (.int .i64 A) := BO.out.cell 2
    have o3 : w3.cell? ⟨ob, 3, none⟩ = some (.int .i64 B) := BO.out.cell 3
    have r0 : w3.cell? ⟨rb, 0, none⟩ = some (.string ⟨#[]⟩) := BR.out.cell 0
    have q0 : w3.frozen? ⟨rb, 0, none⟩ = false := BR.out.frozen 0
    have r1 : w3.cell? ⟨rb, 1, none⟩ = some (.int .i64 0) := BR.out.cell 1
    have q1 : w3.frozen? ⟨rb, 1, none⟩ = false := BR.out.frozen 1
    have r2 : w3.cell? ⟨rb, 2, none⟩ = some (.int .i64 0) := BR.out.cell 2
    have q2 : w3.frozen? ⟨rb, 2, none⟩ = false := BR.out.frozen 2
    have r3 : w3.cell? ⟨rb, 3, none⟩ = some (.slice none 0 0) := BR.out.cell 3
    have q3 : w3.frozen? ⟨rb, 3, none⟩ = false := BR.out.frozen 3
    have r4 : w3.cell? ⟨rb, 4, none⟩ = some (.slice none 0 0) := BR.out.cell 4
    have q4 : w3.frozen? ⟨rb, 4, none⟩ = false := BR.out.frozen 4
    obtain ⟨V, hV⟩ : ∃ V9, V9 = w3.setCell ⟨cb, 2, none⟩ (.int .i64 (c.val - A)) := ⟨_, rfl⟩
    have BCV : Hid (Blk V cb #[.string ⟨c.nm.toArray⟩, .int .i64 c.cap, .int .i64 (c.val - A), .slice ho hn hc, .slice uo un uc] 94) := show Blk V cb #[.string ⟨c.nm.toArray⟩, .int .i64 c.cap, .int .i64 (c.val - A), .slice ho hn hc, .slice uo un uc] 94 from by rw [hV]; exact BC.out.set 2 _
    have hcV : Chg (fun b => b = cb) w3 V := by rw [hV]; exact setCell_chg _ _ _ _
    have BOV : Hid (Blk V ob #[.int .i64 4, .string ⟨n.toArray⟩, .int .i64 A, .int .i64 B] 31) := hcV.blk BO.out (Blk.ne_t BO.out BC.out (by decide))
    have BRV : Hid (Blk V rb #[.string ⟨#[]⟩, .int .i64 0, .int .i64 0, .slice none 0 0, .slice none 0 0] 94) := hcV.blk BR.out (fun e => HLB.out.2.2 e.symm)
    have HBXV : Hid (Below w.heap.size w V) := HBX.out.trans (hcV.below HBX.out.size (fun k e => by rw [e]; exact HLB.out.1))
    have fzV : w3.frozen? ⟨cb, 2, none⟩ = false := BC.out.frozen 2
    clear hcV
    have HWV : Hid _ := HWI2.out V (Or.inr ⟨w3, HB3.out, show Chg (fun b => b = cb) w3 V from by rw [hV]; exact setCell_chg _ _ _ _⟩)
    go_upto_region 18 with fail
    rw [← hV]
    clear hV fzV BC BO BR HBX
    have BC := BCV
    have BO := BOV
    have BR := BRV
    have HBX := HBXV
    clear BCV BOV BRV HBXV
    clear c0 r0 q0 c1 r1 q1 c2 r2 q2 c3 r3 q3 c4 r4 q4 o0 o1 o2 o3
    have c0 : V.cell? ⟨cb, 0, none⟩ = some (.string ⟨c.nm.toArray⟩) := BC.out.cell 0
    have c1 : V.cell? ⟨cb, 1, none⟩ = some (.int .i64 c.cap) := BC.out.cell 1
    have c2 : V.cell? ⟨cb, 2, none⟩ = some (.int .i64 (c.val - A)) := BC.out.cell 2
    have c3 : V.cell? ⟨cb, 3, none⟩ = some (.slice ho hn hc) := BC.out.cell 3
    have c4 : V.cell? ⟨cb, 4, none⟩ = some (.slice uo un uc) := BC.out.cell 4
    have o0 : V.cell? ⟨ob, 0, none⟩ = some (.int .i64 4) := BO.out.cell 0
    have o1 : V.cell? ⟨ob, 1, none⟩ = some (.string ⟨n.toArray⟩) := BO.out.cell 1
    have o2 : V.cell? ⟨ob, 2, none⟩ = some (.int .i64 A) := BO.out.cell 2
    have o3 : V.cell? ⟨ob, 3, none⟩ = some (.int .i64 B) := BO.out.cell 3
    have r0 : V.cell? ⟨rb, 0, none⟩ = some (.string ⟨#[]⟩) := BR.out.cell 0
    have q0 : V.frozen? ⟨rb, 0, none⟩ = false := BR.out.frozen 0
    have r1 : V.cell? ⟨rb, 1, none⟩ = some (.int .i64 0) := BR.out.cell 1
    have q1 : V.frozen? ⟨rb, 1, none⟩ = false := BR.out.frozen 1
    have r2 : V.cell? ⟨rb, 2, none⟩ = some (.int .i64 0) := BR.out.cell 2
    have q2 : V.frozen? ⟨rb, 2, none⟩ = false := BR.out.frozen 2
    have r3 : V.cell? ⟨rb, 3, none⟩ = some (.slice none 0 0) := BR.out.cell 3
    have q3 : V.frozen? ⟨rb, 3, none⟩ = false := BR.out.frozen 3
    have r4 : V.cell? ⟨rb, 4, none⟩ = some (.slice none 0 0) := BR.out.cell 4
    have q4 : V.frozen? ⟨rb, 4, none⟩ = false := BR.out.frozen 4
    go_wp2_with fail
    refine Calls.mono HWV.out ?_
    rintro e9 w5 ⟨nv, rfl, hnv, hb5⟩
    clear c0 r0 q0 c1 r1 q1 c2 r2 q2 c3 r3 q3 c4 r4 q4 o0 o1 o2 o3
    obtain ⟨no, nc, hnvv, _⟩ := own_slice hnv
    obtain ⟨nn, hnn⟩ : ∃ x, x = (wo q c.H ++ [(q, A)]).length := ⟨_, rfl⟩
    rw [← hnn] at hnvv
    subst hnvv
    have HNV : Hid (w5.ownsRow V.heap.size 125 2 (.slice no nn nc) (wo q c.H ++ [(q, A)]).length (flatH (wo q c.H ++ [(q, A)]))) := hnv
    have BC3 : Hid (Blk w5 cb #[.string ⟨c.nm.toArray⟩, .int .i64 c.cap, .int .i64 (c.val - A), .slice ho hn hc, .slice uo un uc] 94) := BC.out.below hb5 BC.out.lt
    have BO3 : Hid (Blk w5 ob #[.int .i64 4, .string ⟨n.toArray⟩, .int .i64 A, .int .i64 B] 31) := BO.out.below hb5 BO.out.lt
    have BR3 : Hid (Blk w5 rb #[.string ⟨#[]⟩, .int .i64 0, .int .i64 0, .slice none 0 0, .slice none 0 0] 94) := BR.out.below hb5 BR.out.lt
    have HBX3 : Hid (Below w.heap.size w w5) := HBX.out.trans (hb5.mono HBX.out.size)
    have HL3 : Hid (w.heap.size ≤ V.heap.size) := HBX.out.size
    clear hnn hnv hb5 BC BO BR HBX
    have BC := BC3
    have BO := BO3
    have BR := BR3
    have HBX := HBX3
    clear BC3 BO3 BR3 HBX3
    have c0 : w5.cell? ⟨cb, 0, none⟩ = some (.string ⟨c.nm.toArray⟩) := BC.out.cell 0
    have c1 : w5.cell? ⟨cb, 1, none⟩ = some (.int .i64 c.cap) := BC.out.cell 1
    have c2 : w5.cell? ⟨cb, 2, none⟩ = some (.int .i64 (c.val - A)) := BC.out.cell 2
    have c3 : w5.cell? ⟨cb, 3, none⟩ = some (.slice ho hn hc) := BC.out.cell 3
    have c4 : w5.cell? ⟨cb, 4, none⟩ = some (.slice uo un uc) := BC.out.cell 4
    have o0 : w5.cell? ⟨ob, 0, none⟩ = some (.int .i64 4) := BO.out.cell 0
    have o1 : w5.cell? ⟨ob, 1, none⟩ = some (.string ⟨n.toArray⟩) := BO.out.cell 1
    have o2 : w5.cell? ⟨ob, 2, none⟩ = some (.int .i64 A) := BO.out.cell 2
    have o3 : w5.cell? ⟨ob, 3, none⟩ = some (.int .i64 B) := BO.out.cell 3
    have r0 : w5.cell? ⟨rb, 0, none⟩ = some (.string ⟨#[]⟩) := BR.out.cell 0
    have q0 : w5.frozen? ⟨rb, 0, none⟩ = false := BR.out.frozen 0
    have r1 : w5.cell? ⟨rb, 1, none⟩ = some (.int .i64 0) := BR.out.cell 1
    have q1 : w5.frozen? ⟨rb, 1, none⟩ = false := BR.out.frozen 1
    have r2 : w5.cell? ⟨rb, 2, none⟩ = some (.int .i64 0) := BR.out.cell 2
    have q2 : w5.frozen? ⟨rb, 2, none⟩ = false := BR.out.frozen 2
    have r3 : w5.cell? ⟨rb, 3, none⟩ = some (.slice none 0 0) := BR.out.cell 3
    have q3 : w5.frozen? ⟨rb, 3, none⟩ = false := BR.out.frozen 3
    have r4 : w5.cell? ⟨rb, 4, none⟩ = some (.slice none 0 0) := BR.out.cell 4
    have q4 : w5.frozen? ⟨rb, 4, none⟩ = false := BR.out.frozen 4
    obtain ⟨U, hU⟩ : ∃ V9, V9 = w5.setCell ⟨cb, 3, none⟩ (.slice no nn nc) := ⟨_, rfl⟩
    have BCU : Hid (Blk U cb #[.string ⟨c.nm.toArray⟩, .int .i64 c.cap, .int .i64 (c.val - A), .slice no nn nc, .slice uo un uc] 94) := show Blk U cb #[.string ⟨c.nm.toArray⟩, .int .i64 c.cap, .int .i64 (c.val - A), .slice no nn nc, .slice uo un uc] 94 from by rw [hU]; exact BC.out.set 3 _
    have hcU : Chg (fun b => b = cb) w5 U := by rw [hU]; exact setCell_chg _ _ _ _
    have BOU : Hid (Blk U ob #[.int .i64 4, .string ⟨n.toArray⟩, .int .i64 A, .int .i64 B] 31) := hcU.blk BO.out (Blk.ne_t BO.out BC.out (by decide))
    have BRU : Hid (Blk U rb #[.string ⟨#[]⟩, .int .i64 0, .int .i64 0, .slice none 0 0, .slice none 0 0] 94) := hcU.blk BR.out (fun e => HLB.out.2.2 e.symm)
    have HBXU : Hid (Below w.heap.size w U) := HBX.out.trans (hcU.below HBX.out.size (fun k e => by rw [e]; exact HLB.out.1))
    have fzU : w5.frozen? ⟨cb, 3, none⟩ = false := BC.out.frozen 3
    clear hcU
    have HNU : Hid (U.ownsRow V.heap.size 125 2 (.slice no nn nc) (wo q c.H ++ [(q, A)]).length (flatH (wo q c.H ++ [(q, A)]))) := show World.ownsRow U V.heap.size 125 2 (.slice no nn nc) (wo q c.H ++ [(q, A)]).length (flatH (wo q c.H ++ [(q, A)])) from by rw [hU]; exact ownsRow_same HNV.out (fun g hg => (setCell_chg _ _ _ _).block g (ownsRow_lt HNV.out hg).2 (fun e => by obtain ⟨cu, hcu⟩ := ownsRow_type HNV.out hg; exact Blk.ne_t (show Blk w5 g cu 125 from hcu) BC.out (by decide) e))
    go_upto_region 20 with fail
    rw [← hU]
    clear hU fzU BC BO BR HBX
    have BC := BCU
    have BO := BOU
    have BR := BRU
    have HBX := HBXU
    clear BCU BOU BRU HBXU
    clear c0 r0 q0 c1 r1 q1 c2 r2 q2 c3 r3 q3 c4 r4 q4 o0 o1 o2 o3
    have hUr : U.ownsRow B0 3 1 (.slice uo un uc) un (c.U.map I) := by have h := HRd.out.more HBX.out; have h2 := h.u; rw [HUV.out, ← HHN.out.2] at h2; exact h2
    have HUR : Hid (U.ownsRow B0 3 1 (.slice uo un uc) un (c.U.map I)) := hUr
    clear hUr
    go_wp2_with fail
    go_loopw [9, 10] (fun s9 s10 wr => ∃ (m : Nat) (u : Value), u = s9 ∧ m ≤ un ∧ s10 = .int .i64 m ∧ wr.ownsRow U.heap.size 3 1 u m ((c.U.take m).map I) ∧ Below U.heap.size U wr) (fun _ s10 _ => un - (intOf s10).toNat)
    case atStart => exact ⟨0, _, rfl, Nat.zero_le _, rfl, World.ownsRow_nil _ _ _ _, Below.refl _ _⟩
    case round =>
      obtain ⟨m, u, rfl, hmu, rfl, hu, hbw⟩ := hrel
      have HU1 : Hid (wr.ownsRow U.heap.size 3 1 u m ((c.U.take m).map I)) := hu
      have HBW : Hid (Below U.heap.size U wr) := hbw
      obtain ⟨vo, vc, hvv, _⟩ := own_slice hu
      subst hvv
      have BCw : Hid (Blk wr cb #[.string ⟨c.nm.toArray⟩, .int .i64 c.cap, .int .i64 (c.val - A), .slice no nn nc, .slice uo un uc] 94) := BC.out.below hbw BC.out.lt
      have BOw : Hid (Blk wr ob #[.int .i64 4, .string ⟨n.toArray⟩, .int .i64 A, .int .i64 B] 31) := BO.out.below hbw BO.out.lt
      have BRw : Hid (Blk wr rb #[.string ⟨#[]⟩, .int .i64 0, .int .i64 0, .slice none 0 0, .slice none 0 0] 94) := BR.out.below hbw BR.out.lt
      have cw4 : wr.cell? ⟨cb, 4, none⟩ = some (.slice uo un uc) := BCw.out.cell 4
      clear hu hbw
      by_cases hlt : m < un
      · obtain ⟨p, hp⟩ : ∃ p, c.U[m]? = some p := ⟨_, List.getElem?_eq_getElem (by rw [← HHN.out.2]; exact hlt)⟩
        obtain ⟨g, gc, hg, _, _, hgl, hcell⟩ := own_at' HUR.out (by omega)
        cases hg
        have k0 : wr.cell? ⟨g, m, none⟩ = some (.int .i64 p) := (HBW.out.cell (p := ⟨g, m, none⟩) hgl).trans (hcell m _ (by rw [List.getElem?_map, hp]; rfl))
        obtain ⟨v', w', h1, h2, h3⟩ := app_one 92 3 (.int .i64 0) 1 8 Try.underlying92 info3 rfl (by decide) (by decide) HU1.out #[.int .i64 p] rfl (fun u hu => by simp at hu; subst hu; rfl) (by omega) HBW.out.size
        have HT : Hid (w'.ownsRow U.heap.size 3 1 v' (m + 1) ((c.U.take (m + 1)).map I)) := show World.ownsRow w' U.heap.size 3 1 v' (m + 1) ((c.U.take (m + 1)).map I) from by rw [show c.U.take (m + 1) = c.U.take m ++ [p] from by rw [List.take_add_one, hp]; rfl, List.map_append]; exact h2
        have HB2 : Hid (Below U.heap.size U w') := HBW.out.trans (h3.below (fun j hj => (ownsRow_lt HU1.out hj).1) HBW.out.size)
        have HRN : Hid _ := h1
        clear hcell hgl hp h1 h2 h3
        go_wp2_with (at_builtin; refine wpList_runs rfl _ _ 92 rfl rfl rfl HRN.out ?_)
        go_roundw
        case rel => exact ⟨m + 1, _, rfl, by omega, by go_num, HT.out, HB2.out⟩
        case measure => simp [intOf]; omega
      · have hmu2 : m = un := by omega
        have htk : c.U.take m = c.U := List.take_of_length_le (by rw [← HHN.out.2]; omega)
        obtain ⟨v', w7, h1, h2, h3⟩ := app_one 92 3 (.int .i64 0) 1 8 Try.underlying92 info3 rfl (by decide) (by decide) HU1.out #[.int .i64 q] rfl (fun u hu => by simp at hu; subst hu; rfl) (by omega) HBW.out.size
        rw [htk] at h2
        obtain ⟨zo, zc, hzv, _⟩ := own_slice h2
        subst hzv
        have HT : Hid (w7.ownsRow U.heap.size 3 1 (.slice zo (m + 1) zc) (m + 1) ((c.U ++ [q]).map I)) := show World.ownsRow w7 U.heap.size 3 1 (.slice zo (m + 1) zc) (m + 1) ((c.U ++ [q]).map I) from by rw [List.map_append]; exact h2
        have HB7 : Hid (Below U.heap.size U w7) := HBW.out.trans (h3.below (fun j hj => (ownsRow_lt HU1.out hj).1) HBW.out.size)
        have HRN : Hid _ := h1
        have HMU : Hid (m = un) := hmu2
        have BC7 : Hid (Blk w7 cb #[.string ⟨c.nm.toArray⟩, .int .i64 c.cap, .int .i64 (c.val - A), .slice no nn nc, .slice uo un uc] 94) := BC.out.below HB7.out BC.out.lt
        have BO7 : Hid (Blk w7 ob #[.int .i64 4, .string ⟨n.toArray⟩, .int .i64 A, .int .i64 B] 31) := BO.out.below HB7.out BO.out.lt
        have BR7 : Hid (Blk w7 rb #[.string ⟨#[]⟩, .int .i64 0, .int .i64 0, .slice none 0 0, .slice none 0 0] 94) := BR.out.below HB7.out BR.out.lt
        have HBX7 : Hid (Below w.heap.size w w7) := HBX.out.trans (HB7.out.mono HBX.out.size)
        have HLU : Hid (w.heap.size ≤ U.heap.size) := HBX.out.size
        have HN7 : Hid (w7.ownsRow V.heap.size 125 2 (.slice no nn nc) (wo q c.H ++ [(q, A)]).length (flatH (wo q c.H ++ [(q, A)]))) := ownsRow_same HNU.out (fun g hg => HB7.out.block g (ownsRow_lt HNU.out hg).2)
        clear BC BO BR HBX BCw BOw BRw h1 h2 h3 hmu2 htk
        have BC := BC7
        have BO := BO7
        have BR := BR7
        have HBX := HBX7
        clear BC7 BO7 BR7 HBX7
        have c0 : w7.cell? ⟨cb, 0, none⟩ = some (.string ⟨c.nm.toArray⟩) := BC.out.cell 0
        have c1 : w7.cell? ⟨cb, 1, none⟩ = some (.int .i64 c.cap) := BC.out.cell 1
        have c2 : w7.cell? ⟨cb, 2, none⟩ = some (.int .i64 (c.val - A)) := BC.out.cell 2
        have c3 : w7.cell? ⟨cb, 3, none⟩ = some (.slice no nn nc) := BC.out.cell 3
        have c4 : w7.cell? ⟨cb, 4, none⟩ = some (.slice uo un uc) := BC.out.cell 4
        have o0 : w7.cell? ⟨ob, 0, none⟩ = some (.int .i64 4) := BO.out.cell 0
        have o1 : w7.cell? ⟨ob, 1, none⟩ = some (.string ⟨n.toArray⟩) := BO.out.cell 1
        have o2 : w7.cell? ⟨ob, 2, none⟩ = some (.int .i64 A) := BO.out.cell 2
        have o3 : w7.cell? ⟨ob, 3, none⟩ = some (.int .i64 B) := BO.out.cell 3
        have r0 : w7.cell? ⟨rb, 0, none⟩ = some (.string ⟨#[]⟩) := BR.out.cell 0
        have q0 : w7.frozen? ⟨rb, 0, none⟩ = false := BR.out.frozen 0
        have r1 : w7.cell? ⟨rb, 1, none⟩ = some (.int .i64 0) := BR.out.cell 1
        have q1 : w7.frozen? ⟨rb, 1, none⟩ = false := BR.out.frozen 1
        have r2 : w7.cell? ⟨rb, 2, none⟩ = some (.int .i64 0) := BR.out.cell 2
        have q2 : w7.frozen? ⟨rb, 2, none⟩ = false := BR.out.frozen 2
        have r3 : w7.cell? ⟨rb, 3, none⟩ = some (.slice none 0 0) := BR.out.cell 3
        have q3 : w7.frozen? ⟨rb, 3, none⟩ = false := BR.out.frozen 3
        have r4 : w7.cell? ⟨rb, 4, none⟩ = some (.slice none 0 0) := BR.out.cell 4
        have q4 : w7.frozen? ⟨rb, 4, none⟩ = false := BR.out.frozen 4
        obtain ⟨Y, hY⟩ : ∃ V9, V9 = w7.setCell ⟨cb, 4, none⟩ (.slice zo (m + 1) zc) := ⟨_, rfl⟩
        have BCY : Hid (Blk Y cb #[.string ⟨c.nm.toArray⟩, .int .i64 c.cap, .int .i64 (c.val - A), .slice no nn nc, .slice zo (m + 1) zc] 94) := show Blk Y cb #[.string ⟨c.nm.toArray⟩, .int .i64 c.cap, .int .i64 (c.val - A), .slice no nn nc, .slice zo (m + 1) zc] 94 from by rw [hY]; exact BC.out.set 4 _
        have hcY : Chg (fun b => b = cb) w7 Y := by rw [hY]; exact setCell_chg _ _ _ _
        have BOY : Hid (Blk Y ob #[.int .i64 4, .string ⟨n.toArray⟩, .int .i64 A, .int .i64 B] 31) := hcY.blk BO.out (Blk.ne_t BO.out BC.out (by decide))
        have BRY : Hid (Blk Y rb #[.string ⟨#[]⟩, .int .i64 0, .int .i64 0, .slice none 0 0, .slice none 0 0] 94) := hcY.blk BR.out (fun e => HLB.out.2.2 e.symm)
        have HBXY : Hid (Below w.heap.size w Y) := HBX.out.trans (hcY.below HBX.out.size (fun k e => by rw [e]; exact HLB.out.1))
        have fzY : w7.frozen? ⟨cb, 4, none⟩ = false := BC.out.frozen 4
        clear hcY
        have HNY : Hid (Y.ownsRow V.heap.size 125 2 (.slice no nn nc) (wo q c.H ++ [(q, A)]).length (flatH (wo q c.H ++ [(q, A)]))) := show World.ownsRow Y V.heap.size 125 2 (.slice no nn nc) (wo q c.H ++ [(q, A)]).length (flatH (wo q c.H ++ [(q, A)])) from by rw [hY]; exact ownsRow_same HN7.out (fun g hg => (setCell_chg _ _ _ _).block g (ownsRow_lt HN7.out hg).2 (fun e => by obtain ⟨cu, hcu⟩ := ownsRow_type HN7.out hg; exact Blk.ne_t (show Blk w7 g cu 125 from hcu) BC.out (by decide) e))
        have HTY : Hid (Y.ownsRow U.heap.size 3 1 (.slice zo (m + 1) zc) (m + 1) ((c.U ++ [q]).map I)) := show World.ownsRow Y U.heap.size 3 1 (.slice zo (m + 1) zc) (m + 1) ((c.U ++ [q]).map I) from by rw [hY]; exact ownsRow_same HT.out (fun g hg => (setCell_chg _ _ _ _).block g (ownsRow_lt HT.out hg).2 (fun e => by obtain ⟨cu, hcu⟩ := ownsRow_type HT.out hg; exact Blk.ne_t (show Blk w7 g cu 3 from hcu) BC.out (by decide) e))
        go_upto_region 25 with (at_builtin; refine wpList_runs rfl _ _ 92 rfl rfl rfl HRN.out ?_)
        rw [← hY]
        clear hY fzY BC BO BR HBX
        have BC := BCY
        have BO := BOY
        have BR := BRY
        have HBX := HBXY
        clear BCY BOY BRY HBXY
        clear c0 r0 q0 c1 r1 q1 c2 r2 q2 c3 r3 q3 c4 r4 q4 o0 o1 o2 o3
        have c0 : Y.cell? ⟨cb, 0, none⟩ = some (.string ⟨c.nm.toArray⟩) := BC.out.cell 0
        have c1 : Y.cell? ⟨cb, 1, none⟩ = some (.int .i64 c.cap) := BC.out.cell 1
        have c2 : Y.cell? ⟨cb, 2, none⟩ = some (.int .i64 (c.val - A)) := BC.out.cell 2
        have c3 : Y.cell? ⟨cb, 3, none⟩ = some (.slice no nn nc) := BC.out.cell 3
        have c4 : Y.cell? ⟨cb, 4, none⟩ = some (.slice zo (m + 1) zc) := BC.out.cell 4
        have o0 : Y.cell? ⟨ob, 0, none⟩ = some (.int .i64 4) := BO.out.cell 0
        have o1 : Y.cell? ⟨ob, 1, none⟩ = some (.string ⟨n.toArray⟩) := BO.out.cell 1
        have o2 : Y.cell? ⟨ob, 2, none⟩ = some (.int .i64 A) := BO.out.cell 2
        have o3 : Y.cell? ⟨ob, 3, none⟩ = some (.int .i64 B) := BO.out.cell 3
        have r0 : Y.cell? ⟨rb, 0, none⟩ = some (.string ⟨#[]⟩) := BR.out.cell 0
        have q0 : Y.frozen? ⟨rb, 0, none⟩ = false := BR.out.frozen 0
        have r1 : Y.cell? ⟨rb, 1, none⟩ = some (.int .i64 0) := BR.out.cell 1
        have q1 : Y.frozen? ⟨rb, 1, none⟩ = false := BR.out.frozen 1
        have r2 : Y.cell? ⟨rb, 2, none⟩ = some (.int .i64 0) := BR.out.cell 2
        have q2 : Y.frozen? ⟨rb, 2, none⟩ = false := BR.out.frozen 2
        have r3 : Y.cell? ⟨rb, 3, none⟩ = some (.slice none 0 0) := BR.out.cell 3
        have q3 : Y.frozen? ⟨rb, 3, none⟩ = false := BR.out.frozen 3
        have r4 : Y.cell? ⟨rb, 4, none⟩ = some (.slice none 0 0) := BR.out.cell 4
        have q4 : Y.frozen? ⟨rb, 4, none⟩ = false := BR.out.frozen 4
        obtain ⟨Z, hZ⟩ : ∃ Z, Z = (((((Y.setCell ⟨rb, 0, none⟩ (.string ⟨c.nm.toArray⟩)).setCell ⟨rb, 1, none⟩ (.int .i64 c.cap)).setCell ⟨rb, 2, none⟩ (.int .i64 (c.val - A))).setCell ⟨rb, 3, none⟩ (.slice no nn nc)).setCell ⟨rb, 4, none⟩ (.slice zo (m + 1) zc)) := ⟨_, rfl⟩
        have HZ : Hid (Blk Z rb #[.string ⟨c.nm.toArray⟩, .int .i64 c.cap, .int .i64 (c.val - A), .slice no nn nc, .slice zo (m + 1) zc] 94) := show Blk Z rb #[.string ⟨c.nm.toArray⟩, .int .i64 c.cap, .int .i64 (c.val - A), .slice no nn nc, .slice zo (m + 1) zc] 94 from by rw [hZ]; exact (((((BR.out.set 0 _).set 1 _).set 2 _).set 3 _).set 4 _)
        have HCZ : Hid (Chg (fun b => b = rb) Y Z) := show Chg (fun b => b = rb) Y Z from by rw [hZ]; exact ((((setCell_chg _ _ _ _).trans (setCell_chg _ _ _ _) (fun _ _ e => e)).trans (setCell_chg _ _ _ _) (fun _ _ e => e)).trans (setCell_chg _ _ _ _) (fun _ _ e => e)).trans (setCell_chg _ _ _ _) (fun _ _ e => e)
        have HBZ : Hid (Below w.heap.size w Z) := HBX.out.trans (HCZ.out.below HBX.out.size (fun k e => by rw [e]; exact HLB.out.2.1))
        have HNZ : Hid (Z.ownsRow V.heap.size 125 2 (.slice no nn nc) (wo q c.H ++ [(q, A)]).length (flatH (wo q c.H ++ [(q, A)]))) := ownsRow_same HNY.out (fun g hg => HCZ.out.block g (ownsRow_lt HNY.out hg).2 (fun e => by obtain ⟨cu, hcu⟩ := ownsRow_type HNY.out hg; exact Blk.ne_t (show Blk Y g cu 125 from hcu) BR.out (by decide) e))
        have HTZ : Hid (Z.ownsRow U.heap.size 3 1 (.slice zo (m + 1) zc) (m + 1) ((c.U ++ [q]).map I)) := ownsRow_same HTY.out (fun g hg => HCZ.out.block g (ownsRow_lt HTY.out hg).2 (fun e => by obtain ⟨cu, hcu⟩ := ownsRow_type HTY.out hg; exact Blk.ne_t (show Blk Y g cu 3 from hcu) BR.out (by decide) e))
        go_wp2_with fail
        rw [← hZ]
        refine bodyPost_ret (results_done _ _ rb _ _ _ rfl rfl rfl HZ.out (by kernel_rfl)) rfl ?_
        exact ⟨⟨c.nm, c.cap, c.val - A, .slice no nn nc, (wo q c.H ++ [(q, A)]), .slice zo (m + 1) zc, c.U ++ [q]⟩, by rw [HR.out]; rfl, by rw [HR.out]; exact ⟨rfl, rfl, rfl, rfl, rfl⟩, ⟨ownsRow_mono HNZ.out (Nat.le_trans hB0 HL3.out), by have h := ownsRow_mono HTZ.out (Nat.le_trans hB0 HLU.out); rw [show (c.U ++ [q]).length = m + 1 from by rw [List.length_append, ← HHN.out.2, HMU.out]; rfl]; exact h⟩, ⟨fun g hg => Or.inr (Nat.le_trans HL3.out (ownsRow_lt HNZ.out hg).1), fun g hg => Or.inr (Nat.le_trans HLU.out (ownsRow_lt HTZ.out hg).1)⟩, HBZ.out⟩
end Go.Proofs.Ytaiknlnjahjeiaa
