import Derived.Test.YtaiknlnjahjeiaaR5a
import Derived.Deep.Cut
namespace Go.Proofs.Ytaiknlnjahjeiaa
open Go.RowKit Go.PlainAid Go.MapKept
set_option linter.unusedVariables false
set_option linter.unusedSimpArgs false
theorem amtR_le (q : Int) : ∀ {H : List (Int × Int)}, (∀ p ∈ H, 1 ≤ p.2) → 0 ≤ amtR q H ∧ amtR q H ≤ sumH H
  | [], _ => by simp [amtR, sumH]
  | x :: t, h => by
    have h1 := h x (by simp)
    have h2 := sum_nn (H := t) (fun p hp => by have := h p (by simp [hp]); omega)
    have h3 := amtR_le q (H := t) (fun p hp => h p (by simp [hp]))
    simp only [sumH] at h2 h3
    simp only [amtR, sumH, List.map_cons, List.sum_cons]
    split <;> omega
set_option maxRecDepth 100000 in
set_option maxHeartbeats 6400000 in
theorem rend_any5 {B0 K : Nat} {c : RC} (A B q : Int) (n : List UInt8) (w : World) (h : c.Rd B0 w) (hok : c.Ok K) (hK : K ≤ 90000) (hB0 : B0 ≤ w.heap.size) :
    Calls Try.prog 60 #[.agg c.cs, .agg #[.int .i64 5, .string ⟨n.toArray⟩, .int .i64 A, .int .i64 B], .int .i64 q] w (DnPost B0 w c (rendO 5 A c)) := by
  obtain ⟨ho, hc, hhv, _⟩ := own_slice h.h
  obtain ⟨uo, uc, huv, _⟩ := own_slice h.u
  obtain ⟨hn, hhn⟩ : ∃ x, x = c.H.length := ⟨_, rfl⟩
  obtain ⟨un, hun⟩ : ∃ x, x = c.U.length := ⟨_, rfl⟩
  rw [← hhn] at hhv
  rw [← hun] at huv
  have HHV : Hid (c.hv = .slice ho hn hc) := hhv
  have HUV : Hid (c.uv = .slice uo un uc) := huv
  have HHN : Hid (hn = c.H.length ∧ un = c.U.length) := ⟨hhn, hun⟩
  obtain ⟨cb, hcb⟩ : ∃ b, b = w.heap.size := ⟨_, rfl⟩
  obtain ⟨ob, hob⟩ : ∃ b, b = w.heap.size + 1 := ⟨_, rfl⟩
  obtain ⟨rb, hrb⟩ : ∃ b, b = w.heap.size + 1 + 1 := ⟨_, rfl⟩
  obtain ⟨X, hX⟩ : ∃ X, X = ((w.alloc (.cells #[.string ⟨c.nm.toArray⟩, .int .i64 c.cap, .int .i64 c.val, .slice ho hn hc, .slice uo un uc] 94)).alloc (.cells #[.int .i64 5, .string ⟨n.toArray⟩, .int .i64 A, .int .i64 B] 31)).alloc (.cells #[.string ⟨#[]⟩, .int .i64 0, .int .i64 0, .slice none 0 0, .slice none 0 0] 94) := ⟨_, rfl⟩
  have hbX : Below w.heap.size w X := by rw [hX]; exact (((Below.refl _ _).alloc (Nat.le_refl _) _).alloc (by simp) _).alloc (by simp; omega) _
  have BC : Hid (Blk X cb #[.string ⟨c.nm.toArray⟩, .int .i64 c.cap, .int .i64 c.val, .slice ho hn hc, .slice uo un uc] 94) := show Blk X cb #[.string ⟨c.nm.toArray⟩, .int .i64 c.cap, .int .i64 c.val, .slice ho hn hc, .slice uo un uc] 94 from by rw [hX, hcb]; exact blk_alloc (blk_alloc (heap_alloc_new w _) _) _
  have BO : Hid (Blk X ob #[.int .i64 5, .string ⟨n.toArray⟩, .int .i64 A, .int .i64 B] 31) := show Blk X ob #[.int .i64 5, .string ⟨n.toArray⟩, .int .i64 A, .int .i64 B] 31 from by rw [hX, hob]; have h := heap_alloc_new (w.alloc (.cells #[.string ⟨c.nm.toArray⟩, .int .i64 c.cap, .int .i64 c.val, .slice ho hn hc, .slice uo un uc] 94)) (.cells #[.int .i64 5, .string ⟨n.toArray⟩, .int .i64 A, .int .i64 B] 31); simp only [World.size_alloc] at h; exact blk_alloc h _
  have BR : Hid (Blk X rb #[.string ⟨#[]⟩, .int .i64 0, .int .i64 0, .slice none 0 0, .slice none 0 0] 94) := show Blk X rb #[.string ⟨#[]⟩, .int .i64 0, .int .i64 0, .slice none 0 0, .slice none 0 0] 94 from by rw [hX, hrb]; have h := heap_alloc_new ((w.alloc (.cells #[.string ⟨c.nm.toArray⟩, .int .i64 c.cap, .int .i64 c.val, .slice ho hn hc, .slice uo un uc] 94)).alloc (.cells #[.int .i64 5, .string ⟨n.toArray⟩, .int .i64 A, .int .i64 B] 31)) (.cells #[.string ⟨#[]⟩, .int .i64 0, .int .i64 0, .slice none 0 0, .slice none 0 0] 94); simp only [World.size_alloc] at h; exact h
  have HBX : Hid (Below w.heap.size w X) := hbX
  have HLB : Hid (w.heap.size ≤ cb ∧ w.heap.size ≤ rb ∧ cb ≠ rb) := ⟨by omega, by omega, by omega⟩
  have HRd : Hid (c.Rd B0 w) := h
  have HRX : Hid (c.Rd B0 X) := h.more hbX
  have HOK : Hid (c.Ok K) := hok
  rw [show RC.cs c = #[.string ⟨c.nm.toArray⟩, .int .i64 c.cap, .int .i64 c.val, .slice ho hn hc, .slice uo un uc] from by unfold RC.cs; rw [hhv, huv]]
  clear h hok hbX hhv huv hhn hun
  obtain ⟨am, ham⟩ : ∃ x, x = amtR A c.H := ⟨_, rfl⟩
  have HAMT : Hid (am = amtR A c.H) := ham
  have HAC : Hid (Calls Try.prog 77 #[.agg #[.string ⟨c.nm.toArray⟩, .int .i64 c.cap, .int .i64 c.val, .slice ho hn hc, .slice uo un uc], .int .i64 A] X (BoxPost X (.int .i64 am))) := by have h := amount_any A X HRX.out HOK.out (Nat.le_trans hK (by decide)); rw [HHV.out, HUV.out] at h; rw [HAMT.out]; exact h
  have HWC : Hid (∀ W, Below X.heap.size X W → Calls Try.prog 78 #[.agg #[.string ⟨c.nm.toArray⟩, .int .i64 c.cap, .int .i64 c.val, .slice ho hn hc, .slice uo un uc], .int .i64 A] W fun e w' => ∃ v, e = .returned v ∧ w'.ownsRow W.heap.size 125 2 v (wo A c.H).length (flatH (wo A c.H)) ∧ Below W.heap.size W w') := fun W hW => by have h := without_any A W (HRX.out.more hW) HOK.out (Nat.le_trans hK (by decide)); rw [HHV.out, HUV.out] at h; exact h
  have hb1 := HOK.out.sum
  have hb2 := HOK.out.val
  have hb3 := HOK.out.cap
  have hb4 := amtR_le A HOK.out.pos
  rw [← ham] at hb4
  have w1 : IntKind.i64.wrap (c.val + am) = c.val + am := wrB (by omega) (by omega)
  clear ham hb1 hb2 hb3 hb4
  by_cases hq : am = 0
  · have HR : Hid (rendO 5 A c = c.no 70) := show _ = _ from by unfold rendO; rw [← HAMT.out, if_pos hq]
    have hq2 : (am == 0) = true := by simpa using hq
    go_enter Try.func60, Try.ntmps60
    go_upto_region 1 with fail
    rw [← hX, ← hrb, ← hob, ← hcb]
    clear hX hrb hob hcb
    have c0 : X.cell? ⟨cb, 0, none⟩ = some (.string ⟨c.nm.toArray⟩) := BC.out.cell 0
    have c1 : X.cell? ⟨cb, 1, none⟩ = some (.int .i64 c.cap) := BC.out.cell 1
    have c2 : X.cell? ⟨cb, 2, none⟩ = some (.int .i64 c.val) := BC.out.cell 2
    have c3 : X.cell? ⟨cb, 3, none⟩ = some (.slice ho hn hc) := BC.out.cell 3
    have c4 : X.cell? ⟨cb, 4, none⟩ = some (.slice uo un uc) := BC.out.cell 4
    have o0 : X.cell? ⟨ob, 0, none⟩ = some (.int .i64 5) := BO.out.cell 0
    have o1 : X.cell? ⟨ob, 1, none⟩ = some (.string ⟨n.toArray⟩) := BO.out.cell 1
    have o2 : X.cell? ⟨ob, 2, none⟩ = some (.int .i64 A) := BO.out.cell 2
    have o3 : X.cell? ⟨ob, 3, none⟩ = some (.int .i64 B) := BO.out.cell 3
    have r0 : X.cell? ⟨rb, 0, none⟩ = some (.string ⟨#[]⟩) := BR.out.cell 0
    have q0 : X.frozen? ⟨rb, 0, none⟩ = false := BR.out.frozen 0
    have r1 : X.cell? ⟨rb, 1, none⟩ = some (.int .i64 0) := BR.out.cell 1
    have q1 : X.frozen? ⟨rb, 1, none⟩ = false := BR.out.frozen 1
    have r2 : X.cell? ⟨rb, 2, none⟩ = some (.int .i64 0) := BR.out.cell 2
    have q2 : X.frozen? ⟨rb, 2, none⟩ = false := BR.out.frozen 2
    have r3 : X.cell? ⟨rb, 3, none⟩ = some (.slice none 0 0) := BR.out.cell 3
    have q3 : X.frozen? ⟨rb, 3, none⟩ = false := BR.out.frozen 3
    have r4 : X.cell? ⟨rb, 4, none⟩ = some (.slice none 0 0) := BR.out.cell 4
    have q4 : X.frozen? ⟨rb, 4, none⟩ = false := BR.out.frozen 4
    go_wp2_with fail
    refine Calls.mono HAC.out ?_
    rintro e9 w3 ⟨rfl, hb3⟩
    clear c0 r0 q0 c1 r1 q1 c2 r2 q2 c3 r3 q3 c4 r4 q4 o0 o1 o2 o3
    have HB3 : Hid (Below X.heap.size X w3) := hb3
    have BC3 : Hid (Blk w3 cb #[.string ⟨c.nm.toArray⟩, .int .i64 c.cap, .int .i64 c.val, .slice ho hn hc, .slice uo un uc] 94) := BC.out.below hb3 BC.out.lt
    have BO3 : Hid (Blk w3 ob #[.int .i64 5, .string ⟨n.toArray⟩, .int .i64 A, .int .i64 B] 31) := BO.out.below hb3 BO.out.lt
    have BR3 : Hid (Blk w3 rb #[.string ⟨#[]⟩, .int .i64 0, .int .i64 0, .slice none 0 0, .slice none 0 0] 94) := BR.out.below hb3 BR.out.lt
    have HBX3 : Hid (Below w.heap.size w w3) := HBX.out.trans (hb3.mono HBX.out.size)
    clear hb3 BC BO BR HBX
    have BC := BC3
    have BO := BO3
    have BR := BR3
    have HBX := HBX3
    clear BC3 BO3 BR3 HBX3
    have c0 : w3.cell? ⟨cb, 0, none⟩ = some (.string ⟨c.nm.toArray⟩) := BC.out.cell 0
    have c1 : w3.cell? ⟨cb, 1, none⟩ = some (.int .i64 c.cap) := BC.out.cell 1
    have c2 : w3.cell? ⟨cb, 2, none⟩ = some (.int .i64 c.val) := BC.out.cell 2
    have c3 : w3.cell? ⟨cb, 3, none⟩ = some (.slice ho hn hc) := BC.out.cell 3
    have c4 : w3.cell? ⟨cb, 4, none⟩ = some (.slice uo un uc) := BC.out.cell 4
    have o0 : w3.cell? ⟨ob, 0, none⟩ = some (.int .i64 5) := BO.out.cell 0
    have o1 : w3.cell? ⟨ob, 1, none⟩ = some (.string ⟨n.toArray⟩) := BO.out.cell 1
    have o2 : w3.cell? ⟨ob, 2, none⟩ = some (.int .i64 A) := BO.out.cell 2
    have o3 : w3.cell? ⟨ob, 3, none⟩ = some (.int .i64 B) := BO.out.cell 3
    have r0 : w3.cell? ⟨rb, 0, none⟩ = some (.string ⟨#[]⟩) := BR.out.cell 0
    have q0 : w3.frozen? ⟨rb, 0, none⟩ = false := BR.out.frozen 0
    have r1 : w3.cell? ⟨rb, 1, none⟩ = some (.int .i64 0) := BR.out.cell 1
    have q1 : w3.frozen? ⟨rb, 1, none⟩ = false := BR.out.frozen 1
    have r2 : w3.cell? ⟨rb, 2, none⟩ = some (.int .i64 0) := BR.out.cell 2
    have q2 : w3.frozen? ⟨rb, 2, none⟩ = false := BR.out.frozen 2
    have r3 : w3.cell? ⟨rb, 3, none⟩ = some (.slice none 0 0) := BR.out.cell 3
    have q3 : w3.frozen? ⟨rb, 3, none⟩ = false := BR.out.frozen 3
    have r4 : w3.cell? ⟨rb, 4, none⟩ = some (.slice none 0 0) := BR.out.cell 4
    have q4 : w3.frozen? ⟨rb, 4, none⟩ = false := BR.out.frozen 4
    obtain ⟨Z, hZ⟩ : ∃ Z, Z = (((((w3.setCell ⟨rb, 0, none⟩ (.string ⟨c.nm.toArray⟩)).setCell ⟨rb, 1, none⟩ (.int .i64 c.cap)).setCell ⟨rb, 2, none⟩ (.int .i64 c.val)).setCell ⟨rb, 3, none⟩ (.slice ho hn hc)).setCell ⟨rb, 4, none⟩ (.slice uo un uc)) := ⟨_, rfl⟩
    have HZ : Hid (Blk Z rb #[.string ⟨c.nm.toArray⟩, .int .i64 c.cap, .int .i64 c.val, .slice ho hn hc, .slice uo un uc] 94) := show Blk Z rb #[.string ⟨c.nm.toArray⟩, .int .i64 c.cap, .int .i64 c.val, .slice ho hn hc, .slice uo un uc] 94 from by rw [hZ]; exact (((((BR.out.set 0 _).set 1 _).set 2 _).set 3 _).set 4 _)
    have HCZ : Hid (Chg (fun b => b = rb) w3 Z) := show Chg (fun b => b = rb) w3 Z from by rw [hZ]; exact ((((setCell_chg _ _ _ _).trans (setCell_chg _ _ _ _) (fun _ _ e => e)).trans (setCell_chg _ _ _ _) (fun _ _ e => e)).trans (setCell_chg _ _ _ _) (fun _ _ e => e)).trans (setCell_chg _ _ _ _) (fun _ _ e => e)
    have HBZ : Hid (Below w.heap.size w Z) := HBX.out.trans (HCZ.out.below HBX.out.size (fun k e => by rw [e]; exact HLB.out.2.1))
    go_wp2_with fail
    rw [← hZ]
    refine bodyPost_ret (results_done _ _ rb _ _ _ rfl rfl rfl HZ.out (by kernel_rfl)) rfl ?_
    exact DnPost.same HHV.out HUV.out (HR.out) HRd.out HBZ.out
  · have HR : Hid (rendO 5 A c = ((am, 0), (c.cap, c.val, wo A c.H, c.U))) := show _ = _ from by unfold rendO; rw [← HAMT.out, if_neg hq]; simp
    have hq2 : (am == 0) = false := by simpa using hq
    go_enter Try.func60, Try.ntmps60
    go_upto_region 1 with fail
    rw [← hX, ← hrb, ← hob, ← hcb]
    clear hX hrb hob hcb
    have c0 : X.cell? ⟨cb, 0, none⟩ = some (.string ⟨c.nm.toArray⟩) := BC.out.cell 0
    have c1 : X.cell? ⟨cb, 1, none⟩ = some (.int .i64 c.cap) := BC.out.cell 1
    have c2 : X.cell? ⟨cb, 2, none⟩ = some (.int .i64 c.val) := BC.out.cell 2
    have c3 : X.cell? ⟨cb, 3, none⟩ = some (.slice ho hn hc) := BC.out.cell 3
    have c4 : X.cell? ⟨cb, 4, none⟩ = some (.slice uo un uc) := BC.out.cell 4
    have o0 : X.cell? ⟨ob, 0, none⟩ = some (.int .i64 5) := BO.out.cell 0
    have o1 : X.cell? ⟨ob, 1, none⟩ = some (.string ⟨n.toArray⟩) := BO.out.cell 1
    have o2 : X.cell? ⟨ob, 2, none⟩ = some (.int .i64 A) := BO.out.cell 2
    have o3 : X.cell? ⟨ob, 3, none⟩ = some (.int .i64 B) := BO.out.cell 3
    have r0 : X.cell? ⟨rb, 0, none⟩ = some (.string ⟨#[]⟩) := BR.out.cell 0
    have q0 : X.frozen? ⟨rb, 0, none⟩ = false := BR.out.frozen 0
    have r1 : X.cell? ⟨rb, 1, none⟩ = some (.int .i64 0) := BR.out.cell 1
    have q1 : X.frozen? ⟨rb, 1, none⟩ = false := BR.out.frozen 1
    have r2 : X.cell? ⟨rb, 2, none⟩ = some (.int .i64 0) := BR.out.cell 2
    have q2 : X.frozen? ⟨rb, 2, none⟩ = false := BR.out.frozen 2
    have r3 : X.cell? ⟨rb, 3, none⟩ = some (.slice none 0 0) := BR.out.cell 3
    have q3 : X.frozen? ⟨rb, 3, none⟩ = false := BR.out.frozen 3
    have r4 : X.cell? ⟨rb, 4, none⟩ = some (.slice none 0 0) := BR.out.cell 4
    have q4 : X.frozen? ⟨rb, 4, none⟩ = false := BR.out.frozen 4
    go_wp2_with fail
    refine Calls.mono HAC.out ?_
    rintro e9 w3 ⟨rfl, hb3⟩
    clear c0 r0 q0 c1 r1 q1 c2 r2 q2 c3 r3 q3 c4 r4 q4 o0 o1 o2 o3
    have HB3 : Hid (Below X.heap.size X w3) := hb3
    have BC3 : Hid (Blk w3 cb #[.string ⟨c.nm.toArray⟩, .int .i64 c.cap, .int .i64 c.val, .slice ho hn hc, .slice uo un uc] 94) := BC.out.below hb3 BC.out.lt
    have BO3 : Hid (Blk w3 ob #[.int .i64 5, .string ⟨n.toArray⟩, .int .i64 A, .int .i64 B] 31) := BO.out.below hb3 BO.out.lt
    have BR3 : Hid (Blk w3 rb #[.string ⟨#[]⟩, .int .i64 0, .int .i64 0, .slice none 0 0, .slice none 0 0] 94) := BR.out.below hb3 BR.out.lt
    have HBX3 : Hid (Below w.heap.size w w3) := HBX.out.trans (hb3.mono HBX.out.size)
    clear hb3 BC BO BR HBX
    have BC := BC3
    have BO := BO3
    have BR := BR3
    have HBX := HBX3
    clear BC3 BO3 BR3 HBX3
    have c0 : w3.cell? ⟨cb, 0, none⟩ = some (.string ⟨c.nm.toArray⟩) := BC.out.cell 0
    have c1 : w3.cell? ⟨cb, 1, none⟩ = some (.int .i64 c.cap) := BC.out.cell 1
    have c2 : w3.cell? ⟨cb, 2, none⟩ = some (.int .i64 c.val) := BC.out.cell 2
    have c3 : w3.cell? ⟨cb, 3, none⟩ = some (.slice ho hn hc) := BC.out.cell 3
    have c4 : w3.cell? ⟨cb, 4, none⟩ = some (.slice uo un uc) := BC.out.cell 4
    have o0 : w3.cell? ⟨ob, 0, none⟩ = some (.int .i64 5) := BO.out.cell 0
    have o1 : w3.cell? ⟨ob, 1, none⟩ = some (.string ⟨n.toArray⟩) := BO.out.cell 1
    have o2 : w3.cell? ⟨ob, 2, none⟩ = some (.int .i64 A) := BO.out.cell 2
    have o3 : w3.cell? ⟨ob, 3, none⟩ = some (.int .i64 B) := BO.out.cell 3
    have r0 : w3.cell? ⟨rb, 0, none⟩ = some (.string ⟨#[]⟩) := BR.out.cell 0
    have q0 : w3.frozen? ⟨rb, 0, none⟩ = false := BR.out.frozen 0
    have r1 : w3.cell? ⟨rb, 1, none⟩ = some (.int .i64 0) := BR.out.cell 1
    have q1 : w3.frozen? ⟨rb, 1, none⟩ = false := BR.out.frozen 1
    have r2 : w3.cell? ⟨rb, 2, none⟩ = some (.int .i64 0) := BR.out.cell 2
    have q2 : w3.frozen? ⟨rb, 2, none⟩ = false := BR.out.frozen 2
    have r3 : w3.cell? ⟨rb, 3, none⟩ = some (.slice none 0 0) := BR.out.cell 3
    have q3 : w3.frozen? ⟨rb, 3, none⟩ = false := BR.out.frozen 3
    have r4 : w3.cell? ⟨rb, 4, none⟩ = some (.slice none 0 0) := BR.out.cell 4
    have q4 : w3.frozen? ⟨rb, 4, none⟩ = false := BR.out.frozen 4
    go_wp2_with fail
    refine Calls.mono (HWC.out w3 HB3.out) ?_
    rintro e9 w5 ⟨nv, rfl, hnv, hb5⟩
    clear c0 r0 q0 c1 r1 q1 c2 r2 q2 c3 r3 q3 c4 r4 q4 o0 o1 o2 o3
    obtain ⟨no, nc, hnvv, _⟩ := own_slice hnv
    obtain ⟨nn, hnn⟩ : ∃ x, x = (wo A c.H).length := ⟨_, rfl⟩
    rw [← hnn] at hnvv
    subst hnvv
    have HNV : Hid (w5.ownsRow w3.heap.size 125 2 (.slice no nn nc) (wo A c.H).length (flatH (wo A c.H))) := hnv
    have BC3 : Hid (Blk w5 cb #[.string ⟨c.nm.toArray⟩, .int .i64 c.cap, .int .i64 c.val, .slice ho hn hc, .slice uo un uc] 94) := BC.out.below hb5 BC.out.lt
    have BO3 : Hid (Blk w5 ob #[.int .i64 5, .string ⟨n.toArray⟩, .int .i64 A, .int .i64 B] 31) := BO.out.below hb5 BO.out.lt
    have BR3 : Hid (Blk w5 rb #[.string ⟨#[]⟩, .int .i64 0, .int .i64 0, .slice none 0 0, .slice none 0 0] 94) := BR.out.below hb5 BR.out.lt
    have HBX3 : Hid (Below w.heap.size w w5) := HBX.out.trans (hb5.mono HBX.out.size)
    have HL3 : Hid (w.heap.size ≤ w3.heap.size) := HBX.out.size
    clear hnn hnv hb5 BC BO BR HBX
    have BC := BC3
    have BO := BO3
    have BR := BR3
    have HBX := HBX3
    clear BC3 BO3 BR3 HBX3
    have c0 : w5.cell? ⟨cb, 0, none⟩ = some (.string ⟨c.nm.toArray⟩) := BC.out.cell 0
    have c1 : w5.cell? ⟨cb, 1, none⟩ = some (.int .i64 c.cap) := BC.out.cell 1
    have c2 : w5.cell? ⟨cb, 2, none⟩ = some (.int .i64 c.val) := BC.out.cell 2
    have c3 : w5.cell? ⟨cb, 3, none⟩ = some (.slice ho hn hc) := BC.out.cell 3
    have c4 : w5.cell? ⟨cb, 4, none⟩ = some (.slice uo un uc) := BC.out.cell 4
    have o0 : w5.cell? ⟨ob, 0, none⟩ = some (.int .i64 5) := BO.out.cell 0
    have o1 : w5.cell? ⟨ob, 1, none⟩ = some (.string ⟨n.toArray⟩) := BO.out.cell 1
    have o2 : w5.cell? ⟨ob, 2, none⟩ = some (.int .i64 A) := BO.out.cell 2
    have o3 : w5.cell? ⟨ob, 3, none⟩ = some (.int .i64 B) := BO.out.cell 3
    have r0 : w5.cell? ⟨rb, 0, none⟩ = some (.string ⟨#[]⟩) := BR.out.cell 0
    have q0 : w5.frozen? ⟨rb, 0, none⟩ = false := BR.out.frozen 0
    have r1 : w5.cell? ⟨rb, 1, none⟩ = some (.int .i64 0) := BR.out.cell 1
    have q1 : w5.frozen? ⟨rb, 1, none⟩ = false := BR.out.frozen 1
    have r2 : w5.cell? ⟨rb, 2, none⟩ = some (.int .i64 0) := BR.out.cell 2
    have q2 : w5.frozen? ⟨rb, 2, none⟩ = false := BR.out.frozen 2
    have r3 : w5.cell? ⟨rb, 3, none⟩ = some (.slice none 0 0) := BR.out.cell 3
    have q3 : w5.frozen? ⟨rb, 3, none⟩ = false := BR.out.frozen 3
    have r4 : w5.cell? ⟨rb, 4, none⟩ = some (.slice none 0 0) := BR.out.cell 4
    have q4 : w5.frozen? ⟨rb, 4, none⟩ = false := BR.out.frozen 4
    obtain ⟨V, hV⟩ : ∃ V9, V9 = w5.setCell ⟨cb, 3, none⟩ (.slice no nn nc) := ⟨_, rfl⟩
    have BCV : Hid (Blk V cb #[.string ⟨c.nm.toArray⟩, .int .i64 c.cap, .int .i64 c.val, .slice no nn nc, .slice uo un uc] 94) := show Blk V cb #[.string ⟨c.nm.toArray⟩, .int .i64 c.cap, .int .i64 c.val, .slice no nn nc, .slice uo un uc] 94 from by rw [hV]; exact BC.out.set 3 _
    have hcV : Chg (fun b => b = cb) w5 V := by rw [hV]; exact setCell_chg _ _ _ _
    have BOV : Hid (Blk V ob #[.int .i64 5, .string ⟨n.toArray⟩, .int .i64 A, .int .i64 B] 31) := hcV.blk BO.out (Blk.ne_t BO.out BC.out (by decide))
    have BRV : Hid (Blk V rb #[.string ⟨#[]⟩, .int .i64 0, .int .i64 0, .slice none 0 0, .slice none 0 0] 94) := hcV.blk BR.out (fun e => HLB.out.2.2 e.symm)
    have HBXV : Hid (Below w.heap.size w V) := HBX.out.trans (hcV.below HBX.out.size (fun k e => by rw [e]; exact HLB.out.1))
    have fzV : w5.frozen? ⟨cb, 3, none⟩ = false := BC.out.frozen 3
    clear hcV
    have HNVV : Hid (V.ownsRow w3.heap.size 125 2 (.slice no nn nc) (wo A c.H).length (flatH (wo A c.H))) := show World.ownsRow V w3.heap.size 125 2 (.slice no nn nc) (wo A c.H).length (flatH (wo A c.H)) from by rw [hV]; exact ownsRow_same HNV.out (fun g hg => (setCell_chg _ _ _ _).block g (ownsRow_lt HNV.out hg).2 (fun e => by obtain ⟨cu, hcu⟩ := ownsRow_type HNV.out hg; exact Blk.ne_t (show Blk w5 g cu 125 from hcu) BC.out (by decide) e))
    go_upto_region 33 with fail
    rw [← hV]
    clear hV fzV BC BO BR HBX
    have BC := BCV
    have BO := BOV
    have BR := BRV
    have HBX := HBXV
    clear BCV BOV BRV HBXV
    clear c0 r0 q0 c1 r1 q1 c2 r2 q2 c3 r3 q3 c4 r4 q4 o0 o1 o2 o3
    have c0 : V.cell? ⟨cb, 0, none⟩ = some (.string ⟨c.nm.toArray⟩) := BC.out.cell 0
    have c1 : V.cell? ⟨cb, 1, none⟩ = some (.int .i64 c.cap) := BC.out.cell 1
    have c2 : V.cell? ⟨cb, 2, none⟩ = some (.int .i64 c.val) := BC.out.cell 2
    have c3 : V.cell? ⟨cb, 3, none⟩ = some (.slice no nn nc) := BC.out.cell 3
    have c4 : V.cell? ⟨cb, 4, none⟩ = some (.slice uo un uc) := BC.out.cell 4
    have o0 : V.cell? ⟨ob, 0, none⟩ = some (.int .i64 5) := BO.out.cell 0
    have o1 : V.cell? ⟨ob, 1, none⟩ = some (.string ⟨n.toArray⟩) := BO.out.cell 1
    have o2 : V.cell? ⟨ob, 2, none⟩ = some (.int .i64 A) := BO.out.cell 2
    have o3 : V.cell? ⟨ob, 3, none⟩ = some (.int .i64 B) := BO.out.cell 3
    have r0 : V.cell? ⟨rb, 0, none⟩ = some (.string ⟨#[]⟩) := BR.out.cell 0
    have q0 : V.frozen? ⟨rb, 0, none⟩ = false := BR.out.frozen 0
    have r1 : V.cell? ⟨rb, 1, none⟩ = some (.int .i64 0) := BR.out.cell 1
    have q1 : V.frozen? ⟨rb, 1, none⟩ = false := BR.out.frozen 1
    have r2 : V.cell? ⟨rb, 2, none⟩ = some (.int .i64 0) := BR.out.cell 2
    have q2 : V.frozen? ⟨rb, 2, none⟩ = false := BR.out.frozen 2
    have r3 : V.cell? ⟨rb, 3, none⟩ = some (.slice none 0 0) := BR.out.cell 3
    have q3 : V.frozen? ⟨rb, 3, none⟩ = false := BR.out.frozen 3
    have r4 : V.cell? ⟨rb, 4, none⟩ = some (.slice none 0 0) := BR.out.cell 4
    have q4 : V.frozen? ⟨rb, 4, none⟩ = false := BR.out.frozen 4
    obtain ⟨Z, hZ⟩ : ∃ Z, Z = (((((V.setCell ⟨rb, 0, none⟩ (.string ⟨c.nm.toArray⟩)).setCell ⟨rb, 1, none⟩ (.int .i64 c.cap)).setCell ⟨rb, 2, none⟩ (.int .i64 c.val)).setCell ⟨rb, 3, none⟩ (.slice no nn nc)).setCell ⟨rb, 4, none⟩ (.slice uo un uc)) := ⟨_, rfl⟩
    have HZ : Hid (Blk Z rb #[.string ⟨c.nm.toArray⟩, .int .i64 c.cap, .int .i64 c.val, .slice no nn nc, .slice uo un uc] 94) := show Blk Z rb #[.string ⟨c.nm.toArray⟩, .int .i64 c.cap, .int .i64 c.val, .slice no nn nc, .slice uo un uc] 94 from by rw [hZ]; exact (((((BR.out.set 0 _).set 1 _).set 2 _).set 3 _).set 4 _)
    have HCZ : Hid (Chg (fun b => b = rb) V Z) := show Chg (fun b => b = rb) V Z from by rw [hZ]; exact ((((setCell_chg _ _ _ _).trans (setCell_chg _ _ _ _) (fun _ _ e => e)).trans (setCell_chg _ _ _ _) (fun _ _ e => e)).trans (setCell_chg _ _ _ _) (fun _ _ e => e)).trans (setCell_chg _ _ _ _) (fun _ _ e => e)
    have HBZ : Hid (Below w.heap.size w Z) := HBX.out.trans (HCZ.out.below HBX.out.size (fun k e => by rw [e]; exact HLB.out.2.1))
    have HNZ : Hid (Z.ownsRow w3.heap.size 125 2 (.slice no nn nc) (wo A c.H).length (flatH (wo A c.H))) := ownsRow_same HNVV.out (fun g hg => HCZ.out.block g (ownsRow_lt HNVV.out hg).2 (fun e => by obtain ⟨cu, hcu⟩ := ownsRow_type HNVV.out hg; exact Blk.ne_t (show Blk V g cu 125 from hcu) BR.out (by decide) e))
    go_wp2_with fail
    rw [← hZ]
    refine bodyPost_ret (results_done _ _ rb _ _ _ rfl rfl rfl HZ.out (by kernel_rfl)) rfl ?_
    exact ⟨⟨c.nm, c.cap, c.val, .slice no nn nc, wo A c.H, c.uv, c.U⟩, by rw [HR.out]; simp only [RC.cs, HUV.out]; first | rfl | skip, by rw [HR.out]; exact ⟨rfl, rfl, rfl, rfl, rfl⟩, ⟨ownsRow_mono HNZ.out (Nat.le_trans hB0 HL3.out), (HRd.out.more HBZ.out).u⟩, ⟨fun g hg => Or.inr (Nat.le_trans HL3.out (ownsRow_lt HNZ.out hg).1), fun g hg => Or.inl hg⟩, HBZ.out⟩
set_option maxRecDepth 100000 in
set_option maxHeartbeats 6400000 in
theorem rend_any6 {B0 K : Nat} {c : RC} (A B q : Int) (n : List UInt8) (w : World) (h : c.Rd B0 w) (hok : c.Ok K) (hK : K ≤ 90000) (hB0 : B0 ≤ w.heap.size) :
    Calls Try.prog 60 #[.agg c.cs, .agg #[.int .i64 6, .string ⟨n.toArray⟩, .int .i64 A, .int .i64 B], .int .i64 q] w (DnPost B0 w c (rendO 6 A c)) := by
  obtain ⟨ho, hc, hhv, _⟩ := own_slice h.h
  obtain ⟨uo, uc, huv, _⟩ := own_slice h.u
  obtain ⟨hn, hhn⟩ : ∃ x, x = c.H.length := ⟨_, rfl⟩
  obtain ⟨un, hun⟩ : ∃ x, x = c.U.length := ⟨_, rfl⟩
  rw [← hhn] at hhv
  rw [← hun] at huv
  have HHV : Hid (c.hv = .slice ho hn hc) := hhv
  have HUV : Hid (c.uv = .slice uo un uc) := huv
  have HHN : Hid (hn = c.H.length ∧ un = c.U.length) := ⟨hhn, hun⟩
  obtain ⟨cb, hcb⟩ : ∃ b, b = w.heap.size := ⟨_, rfl⟩
  obtain ⟨ob, hob⟩ : ∃ b, b = w.heap.size + 1 := ⟨_, rfl⟩
  obtain ⟨rb, hrb⟩ : ∃ b, b = w.heap.size + 1 + 1 := ⟨_, rfl⟩
  obtain ⟨X, hX⟩ : ∃ X, X = ((w.alloc (.cells #[.string ⟨c.nm.toArray⟩, .int .i64 c.cap, .int .i64 c.val, .slice ho hn hc, .slice uo un uc] 94)).alloc (.cells #[.int .i64 6, .string ⟨n.toArray⟩, .int .i64 A, .int .i64 B] 31)).alloc (.cells #[.string ⟨#[]⟩, .int .i64 0, .int .i64 0, .slice none 0 0, .slice none 0 0] 94) := ⟨_, rfl⟩
  have hbX : Below w.heap.size w X := by rw [hX]; exact (((Below.refl _ _).alloc (Nat.le_refl _) _).alloc (by simp) _).alloc (by simp; omega) _
  have BC : Hid (Blk X cb #[.string ⟨c.nm.toArray⟩, .int .i64 c.cap, .int .i64 c.val, .slice ho hn hc, .slice uo un uc] 94) := show Blk X cb #[.string ⟨c.nm.toArray⟩, .int .i64 c.cap, .int .i64 c.val, .slice ho hn hc, .slice uo un uc] 94 from by rw [hX, hcb]; exact blk_alloc (blk_alloc (heap_alloc_new w _) _) _
  have BO : Hid (Blk X ob #[.int .i64 6, .string ⟨n.toArray⟩, .int .i64 A, .int .i64 B] 31) := show Blk X ob #[.int .i64 6, .string ⟨n.toArray⟩, .int .i64 A, .int .i64 B] 31 from by rw [hX, hob]; have h := heap_alloc_new (w.alloc (.cells #[.string ⟨c.nm.toArray⟩, .int .i64 c.cap, .int .i64 c.val, .slice ho hn hc, .slice uo un uc] 94)) (.cells #[.int .i64 6, .string ⟨n.toArray⟩, .int .i64 A, .int .i64 B] 31); simp only [World.size_alloc] at h; exact blk_alloc h _
  have BR : Hid (Blk X rb #[.string ⟨#[]⟩, .int .i64 0, .int .i64 0, .slice none 0 0, .slice none 0 0] 94) := show Blk X rb #[.string ⟨#[]⟩, .int .i64 0, .int .i64 0, .slice none 0 0, .slice none 0 0] 94 from by rw [hX, hrb]; have h := heap_alloc_new ((w.alloc (.cells #[.string ⟨c.nm.toArray⟩, .int .i64 c.cap, .int .i64 c.val, .slice ho hn hc, .slice uo un uc] 94)).alloc (.cells #[.int .i64 6, .string ⟨n.toArray⟩, .int .i64 A, .int .i64 B] 31)) (.cells #[.string ⟨#[]⟩, .int .i64 0, .int .i64 0, .slice none 0 0, .slice none 0 0] 94); simp only [World.size_alloc] at h; exact h
  have HBX : Hid (Below w.heap.size w X) := hbX
  have HLB : Hid (w.heap.size ≤ cb ∧ w.heap.size ≤ rb ∧ cb ≠ rb) := ⟨by omega, by omega, by omega⟩
  have HRd : Hid (c.Rd B0 w) := h
  have HRX : Hid (c.Rd B0 X) := h.more hbX
  have HOK : Hid (c.Ok K) := hok
  rw [show RC.cs c = #[.string ⟨c.nm.toArray⟩, .int .i64 c.cap, .int .i64 c.val, .slice ho hn hc, .slice uo un uc] from by unfold RC.cs; rw [hhv, huv]]
  clear h hok hbX hhv huv hhn hun
  obtain ⟨am, ham⟩ : ∃ x, x = amtR A c.H := ⟨_, rfl⟩
  have HAMT : Hid (am = amtR A c.H) := ham
  have HAC : Hid (Calls Try.prog 77 #[.agg #[.string ⟨c.nm.toArray⟩, .int .i64 c.cap, .int .i64 c.val, .slice ho hn hc, .slice uo un uc], .int .i64 A] X (BoxPost X (.int .i64 am))) := by have h := amount_any A X HRX.out HOK.out (Nat.le_trans hK (by decide)); rw [HHV.out, HUV.out] at h; rw [HAMT.out]; exact h
  have HWC : Hid (∀ W, Below X.heap.size X W → Calls Try.prog 78 #[.agg #[.string ⟨c.nm.toArray⟩, .int .i64 c.cap, .int .i64 c.val, .slice ho hn hc, .slice uo un uc], .int .i64 A] W fun e w' => ∃ v, e = .returned v ∧ w'.ownsRow W.heap.size 125 2 v (wo A c.H).length (flatH (wo A c.H)) ∧ Below W.heap.size W w') := fun W hW => by have h := without_any A W (HRX.out.more hW) HOK.out (Nat.le_trans hK (by decide)); rw [HHV.out, HUV.out] at h; exact h
  have hb1 := HOK.out.sum
  have hb2 := HOK.out.val
  have hb3 := HOK.out.cap
  have hb4 := amtR_le A HOK.out.pos
  rw [← ham] at hb4
  have w1 : IntKind.i64.wrap (c.val + am) = c.val + am := wrB (by omega) (by omega)
  clear ham hb1 hb2 hb3 hb4
  by_cases hq : am = 0
  · have HR : Hid (rendO 6 A c = c.no 70) := show _ = _ from by unfold rendO; rw [← HAMT.out, if_pos hq]
    have hq2 : (am == 0) = true := by simpa using hq
    go_enter Try.func60, Try.ntmps60
    go_upto_region 1 with fail
    rw [← hX, ← hrb, ← hob, ← hcb]
    clear hX hrb hob hcb
    have c0 : X.cell? ⟨cb, 0, none⟩ = some (.string ⟨c.nm.toArray⟩) := BC.out.cell 0
    have c1 : X.cell? ⟨cb, 1, none⟩ = some (.int .i64 c.cap) := BC.out.cell 1
    have c2 : X.cell? ⟨cb, 2, none⟩ = some (.int .i64 c.val) := BC.out.cell 2
    have c3 : X.cell? ⟨cb, 3, none⟩ = some (.slice ho hn hc) := BC.out.cell 3
    have c4 : X.cell? ⟨cb, 4, none⟩ = some (.slice uo un uc) := BC.out.cell 4
    have o0 : X.cell? ⟨ob, 0, none⟩ = some (.int .i64 6) := BO.out.cell 0
    have o1 : X.cell? ⟨ob, 1, none⟩ = some (.string ⟨n.toArray⟩) := BO.out.cell 1
    have o2 : X.cell? ⟨ob, 2, none⟩ = some (.int .i64 A) := BO.out.cell 2
    have o3 : X.cell? ⟨ob, 3, none⟩ = some (.int .i64 B) := BO.out.cell 3
    have r0 : X.cell? ⟨rb, 0, none⟩ = some (.string ⟨#[]⟩) := BR.out.cell 0
    have q0 : X.frozen? ⟨rb, 0, none⟩ = false := BR.out.frozen 0
    have r1 : X.cell? ⟨rb, 1, none⟩ = some (.int .i64 0) := BR.out.cell 1
    have q1 : X.frozen? ⟨rb, 1, none⟩ = false := BR.out.frozen 1
    have r2 : X.cell? ⟨rb, 2, none⟩ = some (.int .i64 0) := BR.out.cell 2
    have q2 : X.frozen? ⟨rb, 2, none⟩ = false := BR.out.frozen 2
    have r3 : X.cell? ⟨rb, 3, none⟩ = some (.slice none 0 0) := BR.out.cell 3
    have q3 : X.frozen? ⟨rb, 3, none⟩ = false := BR.out.frozen 3
    have r4 : X.cell? ⟨rb, 4, none⟩ = some (.slice none 0 0) := BR.out.cell 4
    have q4 : X.frozen? ⟨rb, 4, none⟩ = false := BR.out.frozen 4
    go_wp2_with fail
    refine Calls.mono HAC.out ?_
    rintro e9 w3 ⟨rfl, hb3⟩
    clear c0 r0 q0 c1 r1 q1 c2 r2 q2 c3 r3 q3 c4 r4 q4 o0 o1 o2 o3
    have HB3 : Hid (Below X.heap.size X w3) := hb3
    have BC3 : Hid (Blk w3 cb #[.string ⟨c.nm.toArray⟩, .int .i64 c.cap, .int .i64 c.val, .slice ho hn hc, .slice uo un uc] 94) := BC.out.below hb3 BC.out.lt
    have BO3 : Hid (Blk w3 ob #[.int .i64 6, .string ⟨n.toArray⟩, .int .i64 A, .int .i64 B] 31) := BO.out.below hb3 BO.out.lt
    have BR3 : Hid (Blk w3 rb #[.string ⟨#[]⟩, .int .i64 0, .int .i64 0, .slice none 0 0, .slice none 0 0] 94) := BR.out.below hb3 BR.out.lt
    have HBX3 : Hid (Below w.heap.size w w3) := HBX.out.trans (hb3.mono HBX.out.size)
    clear hb3 BC BO BR HBX
    have BC := BC3
    have BO := BO3
    have BR := BR3
    have HBX := HBX3
    clear BC3 BO3 BR3 HBX3
    have c0 : w3.cell? ⟨cb, 0, none⟩ = some (.string ⟨c.nm.toArray⟩) := BC.out.cell 0
    have c1 : w3.cell? ⟨cb, 1, none⟩ = some (.int .i64 c.cap) := BC.out.cell 1
    have c2 : w3.cell? ⟨cb, 2, none⟩ = some (.int .i64 c.val) := BC.out.cell 2
    have c3 : w3.cell? ⟨cb, 3, none⟩ = some (.slice ho hn hc) := BC.out.cell 3
    have c4 : w3.cell? ⟨cb, 4, none⟩ = some (.slice uo un uc) := BC.out.cell 4
    have o0 : w3.cell? ⟨ob, 0, none⟩ = some (.int .i64 6) := BO.out.cell 0
    have o1 : w3.cell? ⟨ob, 1, none⟩ = some (.string ⟨n.toArray⟩) := BO.out.cell 1
    have o2 : w3.cell? ⟨ob, 2, none⟩ = some (.int .i64 A) := BO.out.cell 2
    have o3 : w3.cell? ⟨ob, 3, none⟩ = some (.int .i64 B) := BO.out.cell 3
    have r0 : w3.cell? ⟨rb, 0, none⟩ = some (.string ⟨#[]⟩) := BR.out.cell 0
    have q0 : w3.frozen? ⟨rb, 0, none⟩ = false := BR.out.frozen 0
    have r1 : w3.cell? ⟨rb, 1, none⟩ = some (.int .i64 0) := BR.out.cell 1
    have q1 : w3.frozen? ⟨rb, 1, none⟩ = false := BR.out.frozen 1
    have r2 : w3.cell? ⟨rb, 2, none⟩ = some (.int .i64 0) := BR.out.cell 2
    have q2 : w3.frozen? ⟨rb, 2, none⟩ = false := BR.out.frozen 2
    have r3 : w3.cell? ⟨rb, 3, none⟩ = some (.slice none 0 0) := BR.out.cell 3
    have q3 : w3.frozen? ⟨rb, 3, none⟩ = false := BR.out.frozen 3
    have r4 : w3.cell? ⟨rb, 4, none⟩ = some (.slice none 0 0) := BR.out.cell 4
    have q4 : w3.frozen? ⟨rb, 4, none⟩ = false := BR.out.frozen 4
    obtain ⟨Z, hZ⟩ : ∃ Z, Z = (((((w3.setCell ⟨rb, 0, none⟩ (.string ⟨c.nm.toArray⟩)).setCell ⟨rb, 1, none⟩ (.int .i64 c.cap)).setCell ⟨rb, 2, none⟩ (.int .i64 c.val)).setCell ⟨rb, 3, none⟩ (.slice ho hn hc)).setCell ⟨rb, 4, none⟩ (.slice uo un uc)) := ⟨_, rfl⟩
    have HZ : Hid (Blk Z rb #[.string ⟨c.nm.toArray⟩, .int .i64 c.cap, .int .i64 c.val, .slice ho hn hc, .slice uo un uc] 94) := show Blk Z rb #[.string ⟨c.nm.toArray⟩, .int .i64 c.cap, .int .i64 c.val, .slice ho hn hc, .slice uo un uc] 94 from by rw [hZ]; exact (((((BR.out.set 0 _).set 1 _).set 2 _).set 3 _).set 4 _)
    have HCZ : Hid (Chg (fun b => b = rb) w3 Z) := show Chg (fun b => b = rb) w3 Z from by rw [hZ]; exact ((((setCell_chg _ _ _ _).trans (setCell_chg _ _ _ _) (fun _ _ e => e)).trans (setCell_chg _ _ _ _) (fun _ _ e => e)).trans (setCell_chg _ _ _ _) (fun _ _ e => e)).trans (setCell_chg _ _ _ _) (fun _ _ e => e)
    have HBZ : Hid (Below w.heap.size w Z) := HBX.out.trans (HCZ.out.below HBX.out.size (fun k e => by rw [e]; exact HLB.out.2.1))
    go_wp2_with fail
    rw [← hZ]
    refine bodyPost_ret (results_done _ _ rb _ _ _ rfl rfl rfl HZ.out (by kernel_rfl)) rfl ?_
    exact DnPost.same HHV.out HUV.out (HR.out) HRd.out HBZ.out
  · have HR : Hid (rendO 6 A c = ((am, 0), (c.cap, c.val + am, wo A c.H, c.U))) := show _ = _ from by unfold rendO; rw [← HAMT.out, if_neg hq]; simp
    have hq2 : (am == 0) = false := by simpa using hq
    go_enter Try.func60, Try.ntmps60
    go_upto_region 1 with fail
    rw [← hX, ← hrb, ← hob, ← hcb]
    clear hX hrb hob hcb
    have c0 : X.cell? ⟨cb, 0, none⟩ = some (.string ⟨c.nm.toArray⟩) := BC.out.cell 0
    have c1 : X.cell? ⟨cb, 1, none⟩ = some (.int .i64 c.cap) := BC.out.cell 1
    have c2 : X.cell? ⟨cb, 2, none⟩ = some (.int .i64 c.val) := BC.out.cell 2
    have c3 : X.cell? ⟨cb, 3, none⟩ = some (.slice ho hn hc) := BC.out.cell 3
    have c4 : X.cell? ⟨cb, 4, none⟩ = some (.slice uo un uc) := BC.out.cell 4
    have o0 : X.cell? ⟨ob, 0, none⟩ = some (.int .i64 6) := BO.out.cell 0
    have o1 : X.cell? ⟨ob, 1, none⟩ = some (.string ⟨n.toArray⟩) := BO.out.cell 1
    have o2 : X.cell? ⟨ob, 2, none⟩ = some (.int .i64 A) := BO.out.cell 2
    have o3 : X.cell? ⟨ob, 3, none⟩ = some (.int .i64 B) := BO.out.cell 3
    have r0 : X.cell? ⟨rb, 0, none⟩ = some (.string ⟨#[]⟩) := BR.out.cell 0
    have q0 : X.frozen? ⟨rb, 0, none⟩ = false := BR.out.frozen 0
    have r1 : X.cell? ⟨rb, 1, none⟩ = some (.int .i64 0) := BR.out.cell 1
    have q1 : X.frozen? ⟨rb, 1, none⟩ = false := BR.out.frozen 1
    have r2 : X.cell? ⟨rb, 2, none⟩ = some (.int .i64 0) := BR.out.cell 2
    have q2 : X.frozen? ⟨rb, 2, none⟩ = false := BR.out.frozen 2
    have r3 : X.cell? ⟨rb, 3, none⟩ = some (.slice none 0 0) := BR.out.cell 3
    have q3 : X.frozen? ⟨rb, 3, none⟩ = false := BR.out.frozen 3
    have r4 : X.cell? ⟨rb, 4, none⟩ = some (.slice none 0 0) := BR.out.cell 4
    have q4 : X.frozen? ⟨rb, 4, none⟩ = false := BR.out.frozen 4
    go_wp2_with fail
    refine Calls.mono HAC.out ?_
    rintro e9 w3 ⟨rfl, hb3⟩
    clear c0 r0 q0 c1 r1 q1 c2 r2 q2 c3 r3 q3 c4 r4 q4 o0 o1 o2 o3
    have HB3 : Hid (Below X.heap.size X w3) := hb3
    have BC3 : Hid (Blk w3 cb #[.string ⟨c.nm.toArray⟩, .int .i64 c.cap, .int .i64 c.val, .slice ho hn hc, .slice uo un uc] 94) := BC.out.below hb3 BC.out.lt
    have BO3 : Hid (Blk w3 ob #[.int .i64 6, .string ⟨n.toArray⟩, .int .i64 A, .int .i64 B] 31) := BO.out.below hb3 BO.out.lt
    have BR3 : Hid (Blk w3 rb #[.string ⟨#[]⟩, .int .i64 0, .int .i64 0, .slice none 0 0, .slice none 0 0] 94) := BR.out.below hb3 BR.out.lt
    have HBX3 : Hid (Below w.heap.size w w3) := HBX.out.trans (hb3.mono HBX.out.size)
    clear hb3 BC BO BR HBX
    have BC := BC3
    have BO := BO3
    have BR := BR3
    have HBX := HBX3
    clear BC3 BO3 BR3 HBX3
    have c0 : w3.cell? ⟨cb, 0, none⟩ = some (.string ⟨c.nm.toArray⟩) := BC.out.cell 0
    have c1 : w3.cell? ⟨cb, 1, none⟩ = some (.int .i64 c.cap) := BC.out.cell 1
    have c2 : w3.cell? ⟨cb, 2, none⟩ = some (.int .i64 c.val) := BC.out.cell 2
    have c3 : w3.cell? ⟨cb, 3, none⟩ = some (.slice ho hn hc) := BC.out.cell 3
    have c4 : w3.cell? ⟨cb, 4, none⟩ = some (.slice uo un uc) := BC.out.cell 4
    have o0 : w3.cell? ⟨ob, 0, none⟩ = some (.int .i64 6) := BO.out.cell 0
    have o1 : w3.cell? ⟨ob, 1, none⟩ = some (.string ⟨n.toArray⟩) := BO.out.cell 1
    have o2 : w3.cell? ⟨ob, 2, none⟩ = some (.int .i64 A) := BO.out.cell 2
    have o3 : w3.cell? ⟨ob, 3, none⟩ = some (.int .i64 B) := BO.out.cell 3
    have r0 : w3.cell? ⟨rb, 0, none⟩ = some (.string ⟨#[]⟩) := BR.out.cell 0
    have q0 : w3.frozen? ⟨rb, 0, none⟩ = false := BR.out.frozen 0
    have r1 : w3.cell? ⟨rb, 1, none⟩ = some (.int .i64 0) := BR.out.cell 1
    have q1 : w3.frozen? ⟨rb, 1, none⟩ = false := BR.out.frozen 1
    have r2 : w3.cell? ⟨rb, 2, none⟩ = some (.int .i64 0) := BR.out.cell 2
    have q2 : w3.frozen? ⟨rb, 2, none⟩ = false := BR.out.frozen 2
    have r3 : w3.cell? ⟨rb, 3, none⟩ = some (.slice none 0 0) := BR.out.cell 3
    have q3 : w3.frozen? ⟨rb, 3, none⟩ = false := BR.out.frozen 3
    have r4 : w3.cell? ⟨rb, 4, none⟩ = some (.slice none 0 0) := BR.out.cell 4
    have q4 : w3.frozen? ⟨rb, 4, none⟩ = false := BR.out.frozen 4
    go_wp2_with fail
    refine Calls.mono (HWC.out w3 HB3.out) ?_
    rintro e9 w5 ⟨nv, rfl, hnv, hb5⟩
    clear c0 r0 q0 c1 r1 q1 c2 r2 q2 c3 r3 q3 c4 r4 q4 o0 o1 o2 o3
    obtain ⟨no, nc, hnvv, _⟩ := own_slice hnv
    obtain ⟨nn, hnn⟩ : ∃ x, x = (wo A c.H).length := ⟨_, rfl⟩
    rw [← hnn] at hnvv
    subst hnvv
    have HNV : Hid (w5.ownsRow w3.heap.size 125 2 (.slice no nn nc) (wo A c.H).length (flatH (wo A c.H))) := hnv
    have BC3 : Hid (Blk w5 cb #[.string ⟨c.nm.toArray⟩, .int .i64 c.cap, .int .i64 c.val, .slice ho hn hc, .slice uo un uc] 94) := BC.out.below hb5 BC.out.lt
    have BO3 : Hid (Blk w5 ob #[.int .i64 6, .string ⟨n.toArray⟩, .int .i64 A, .int .i64 B] 31) := BO.out.below hb5 BO.out.lt
    have BR3 : Hid (Blk w5 rb #[.string ⟨#[]⟩, .int .i64 0, .int .i64 0, .slice none 0 0, .slice none 0 0] 94) := BR.out.below hb5 BR.out.lt
    have HBX3 : Hid (Below w.heap.size w w5) := HBX.out.trans (hb5.mono HBX.out.size)
    have HL3 : Hid (w.heap.size ≤ w3.heap.size) := HBX.out.size
    clear hnn hnv hb5 BC BO BR HBX
    have BC := BC3
    have BO := BO3
    have BR := BR3
    have HBX := HBX3
    clear BC3 BO3 BR3 HBX3
    have c0 : w5.cell? ⟨cb, 0, none⟩ = some (.string ⟨c.nm.toArray⟩) := BC.out.cell 0
    have c1 : w5.cell? ⟨cb, 1, none⟩ = some (.int .i64 c.cap) := BC.out.cell 1
    have c2 : w5.cell? ⟨cb, 2, none⟩ = some (.int .i64 c.val) := BC.out.cell 2
    have c3 : w5.cell? ⟨cb, 3, none⟩ = some (.slice ho hn hc) := BC.out.cell 3
    have c4 : w5.cell? ⟨cb, 4, none⟩ = some (.slice uo un uc) := BC.out.cell 4
    have o0 : w5.cell? ⟨ob, 0, none⟩ = some (.int .i64 6) := BO.out.cell 0
    have o1 : w5.cell? ⟨ob, 1, none⟩ = some (.string ⟨n.toArray⟩) := BO.out.cell 1
    have o2 : w5.cell? ⟨ob, 2, none⟩ = some (.int .i64 A) := BO.out.cell 2
    have o3 : w5.cell? ⟨ob, 3, none⟩ = some (.int .i64 B) := BO.out.cell 3
    have r0 : w5.cell? ⟨rb, 0, none⟩ = some (.string ⟨#[]⟩) := BR.out.cell 0
    have q0 : w5.frozen? ⟨rb, 0, none⟩ = false := BR.out.frozen 0
    have r1 : w5.cell? ⟨rb, 1, none⟩ = some (.int .i64 0) := BR.out.cell 1
    have q1 : w5.frozen? ⟨rb, 1, none⟩ = false := BR.out.frozen 1
    have r2 : w5.cell? ⟨rb, 2, none⟩ = some (.int .i64 0) := BR.out.cell 2
    have q2 : w5.frozen? ⟨rb, 2, none⟩ = false := BR.out.frozen 2
    have r3 : w5.cell? ⟨rb, 3, none⟩ = some (.slice none 0 0) := BR.out.cell 3
    have q3 : w5.frozen? ⟨rb, 3, none⟩ = false := BR.out.frozen 3
    have r4 : w5.cell? ⟨rb, 4, none⟩ = some (.slice none 0 0) := BR.out.cell 4
    have q4 : w5.frozen? ⟨rb, 4, none⟩ = false := BR.out.frozen 4
    obtain ⟨V, hV⟩ : ∃ V9, V9 = w5.setCell ⟨cb, 3, none⟩ (.slice no nn nc) := ⟨_, rfl⟩
    have BCV : Hid (Blk V cb #[.string ⟨c.nm.toArray⟩, .int .i64 c.cap, .int .i64 c.val, .slice no nn nc, .slice uo un uc] 94) := show Blk V cb #[.string ⟨c.nm.toArray⟩, .int .i64 c.cap, .int .i64 c.val, .slice no nn nc, .slice uo un uc] 94 from by rw [hV]; exact BC.out.set 3 _
    have hcV : Chg (fun b => b = cb) w5 V := by rw [hV]; exact setCell_chg _ _ _ _
    have BOV : Hid (Blk V ob #[.int .i64 6, .string ⟨n.toArray⟩, .int .i64 A, .int .i64 B] 31) := hcV.blk BO.out (Blk.ne_t BO.out BC.out (by decide))
    have BRV : Hid (Blk V rb #[.string ⟨#[]⟩, .int .i64 0, .int .i64 0, .slice none 0 0, .slice none 0 0] 94) := hcV.blk BR.out (fun e => HLB.out.2.2 e.symm)
    have HBXV : Hid (Below w.heap.size w V) := HBX.out.trans (hcV.below HBX.out.size (fun k e => by rw [e]; exact HLB.out.1))
    have fzV : w5.frozen? ⟨cb, 3, none⟩ = false := BC.out.frozen 3
    clear hcV
    have HNVV : Hid (V.ownsRow w3.heap.size 125 2 (.slice no nn nc) (wo A c.H).length (flatH (wo A c.H))) := show World.ownsRow V w3.heap.size 125 2 (.slice no nn nc) (wo A c.H).length (flatH (wo A c.H)) from by rw [hV]; exact ownsRow_same HNV.out (fun g hg => (setCell_chg _ _ _ _).block g (ownsRow_lt HNV.out hg).2 (fun e => by obtain ⟨cu, hcu⟩ := ownsRow_type HNV.out hg; exact Blk.ne_t (show Blk w5 g cu 125 from hcu) BC.out (by decide) e))
    go_upto_region 33 with fail
    rw [← hV]
    clear hV fzV BC BO BR HBX
    have BC := BCV
    have BO := BOV
    have BR := BRV
    have HBX := HBXV
    clear BCV BOV BRV HBXV
    clear c0 r0 q0 c1 r1 q1 c2 r2 q2 c3 r3 q3 c4 r4 q4 o0 o1 o2 o3
    have c0 : V.cell? ⟨cb, 0, none⟩ = some (.string ⟨c.nm.toArray⟩) := BC.out.cell 0
    have c1 : V.cell? ⟨cb, 1, none⟩ = some (.int .i64 c.cap) := BC.out.cell 1
    have c2 : V.cell? ⟨cb, 2, none⟩ = some (.int .i64 c.val) := BC.out.cell 2
    have c3 : V.cell? ⟨cb, 3, none⟩ = some (.slice no nn nc) := BC.out.cell 3
    have c4 : V.cell? ⟨cb, 4, none⟩ = some (.slice uo un uc) := BC.out.cell 4
    have o0 : V.cell? ⟨ob, 0, none⟩ = some (.int .i64 6) := BO.out.cell 0
    have o1 : V.cell? ⟨ob, 1, none⟩ = some (.string ⟨n.toArray⟩) := BO.out.cell 1
    have o2 : V.cell? ⟨ob, 2, none⟩ = some (.int .i64 A) := BO.out.cell 2
    have o3 : V.cell? ⟨ob, 3, none⟩ = some (.int .i64 B) := BO.out.cell 3
    have r0 : V.cell? ⟨rb, 0, none⟩ = some (.string ⟨#[]⟩) := BR.out.cell 0
    have q0 : V.frozen? ⟨rb, 0, none⟩ = false := BR.out.frozen 0
    have r1 : V.cell? ⟨rb, 1, none⟩ = some (.int .i64 0) := BR.out.cell 1
    have q1 : V.frozen? ⟨rb, 1, none⟩ = false := BR.out.frozen 1
    have r2 : V.cell? ⟨rb, 2, none⟩ = some (.int .i64 0) := BR.out.cell 2
    have q2 : V.frozen? ⟨rb, 2, none⟩ = false := BR.out.frozen 2
    have r3 : V.cell? ⟨rb, 3, none⟩ = some (.slice none 0 0) := BR.out.cell 3
    have q3 : V.frozen? ⟨rb, 3, none⟩ = false := BR.out.frozen 3
    have r4 : V.cell? ⟨rb, 4, none⟩ = some (.slice none 0 0) := BR.out.cell 4
    have q4 : V.frozen? ⟨rb, 4, none⟩ = false := BR.out.frozen 4
    obtain ⟨U, hU⟩ : ∃ V9, V9 = V.setCell ⟨cb, 2, none⟩ (.int .i64 (c.val + am)) := ⟨_, rfl⟩
    have BCU : Hid (Blk U cb #[.string ⟨c.nm.toArray⟩, .int .i64 c.cap, .int .i64 (c.val + am), .slice no nn nc, .slice uo un uc] 94) := show Blk U cb #[.string ⟨c.nm.toArray⟩, .int .i64 c.cap, .int .i64 (c.val + am), .slice no nn nc, .slice uo un uc] 94 from by rw [hU]; exact BC.out.set 2 _
    have hcU : Chg (fun b => b = cb) V U := by rw [hU]; exact setCell_chg _ _ _ _
    have BOU : Hid (Blk U ob #[.int .i64 6, .string ⟨n.toArray⟩, .int .i64 A, .int .i64 B] 31) := hcU.blk BO.out (Blk.ne_t BO.out BC.out (by decide))
    have BRU : Hid (Blk U rb #[.string ⟨#[]⟩, .int .i64 0, .int .i64 0, .slice none 0 0, .slice none 0 0] 94) := hcU.blk BR.out (fun e => HLB.out.2.2 e.symm)
    have HBXU : Hid (Below w.heap.size w U) := HBX.out.trans (hcU.below HBX.out.size (fun k e => by rw [e]; exact HLB.out.1))
    have fzU : V.frozen? ⟨cb, 2, none⟩ = false := BC.out.frozen 2
    clear hcU
    have HNVU : Hid (U.ownsRow w3.heap.size 125 2 (.slice no nn nc) (wo A c.H).length (flatH (wo A c.H))) := show World.ownsRow U w3.heap.size 125 2 (.slice no nn nc) (wo A c.H).length (flatH (wo A c.H)) from by rw [hU]; exact ownsRow_same HNVV.out (fun g hg => (setCell_chg _ _ _ _).block g (ownsRow_lt HNVV.out hg).2 (fun e => by obtain ⟨cu, hcu⟩ := ownsRow_type HNVV.out hg; exact Blk.ne_t (show Blk V g cu 125 from hcu) BC.out (by decide) e))
    go_upto_region 35 with fail
    rw [← hU]
    clear hU fzU BC BO BR HBX
    have BC := BCU
    have BO := BOU
    have BR := BRU
    have HBX := HBXU
    clear BCU BOU BRU HBXU
    clear c0 r0 q0 c1 r1 q1 c2 r2 q2 c3 r3 q3 c4 r4 q4 o0 o1 o2 o3
    have c0 : U.cell? ⟨cb, 0, none⟩ = some (.string ⟨c.nm.toArray⟩) := BC.out.cell 0
    have c1 : U.cell? ⟨cb, 1, none⟩ = some (.int .i64 c.cap) := BC.out.cell 1
    have c2 : U.cell? ⟨cb, 2, none⟩ = some (.int .i64 (c.val + am)) := BC.out.cell 2
    have c3 : U.cell? ⟨cb, 3, none⟩ = some (.slice no nn nc) := BC.out.cell 3
    have c4 : U.cell? ⟨cb, 4, none⟩ = some (.slice uo un uc) := BC.out.cell 4
    have o0 : U.cell? ⟨ob, 0, none⟩ = some (.int .i64 6) := BO.out.cell 0
    have o1 : U.cell? ⟨ob, 1, none⟩ = some (.string ⟨n.toArray⟩) := BO.out.cell 1
    have o2 : U.cell? ⟨ob, 2, none⟩ = some (.int .i64 A) := BO.out.cell 2
    have o3 : U.cell? ⟨ob, 3, none⟩ = some (.int .i64 B) := BO.out.cell 3
    have r0 : U.cell? ⟨rb, 0, none⟩ = some (.string ⟨#[]⟩) := BR.out.cell 0
    have q0 : U.frozen? ⟨rb, 0, none⟩ = false := BR.out.frozen 0
    have r1 : U.cell? ⟨rb, 1, none⟩ = some (.int .i64 0) := BR.out.cell 1
    have q1 : U.frozen? ⟨rb, 1, none⟩ = false := BR.out.frozen 1
    have r2 : U.cell? ⟨rb, 2, none⟩ = some (.int .i64 0) := BR.out.cell 2
    have q2 : U.frozen? ⟨rb, 2, none⟩ = false := BR.out.frozen 2
    have r3 : U.cell? ⟨rb, 3, none⟩ = some (.slice none 0 0) := BR.out.cell 3
    have q3 : U.frozen? ⟨rb, 3, none⟩ = false := BR.out.frozen 3
    have r4 : U.cell? ⟨rb, 4, none⟩ = some (.slice none 0 0) := BR.out.cell 4
    have q4 : U.frozen? ⟨rb, 4, none⟩ = false := BR.out.frozen 4
    obtain ⟨Z, hZ⟩ : ∃ Z, Z = (((((U.setCell ⟨rb, 0, none⟩ (.string ⟨c.nm.toArray⟩)).setCell ⟨rb, 1, none⟩ (.int .i64 c.cap)).setCell ⟨rb, 2, none⟩ (.int .i64 (c.val + am))).setCell ⟨rb, 3, none⟩ (.slice no nn nc)).setCell ⟨rb, 4, none⟩ (.slice uo un uc)) := ⟨_, rfl⟩
    have HZ : Hid (Blk Z rb #[.string ⟨c.nm.toArray⟩, .int .i64 c.cap, .int .i64 (c.val + am), .slice no nn nc, .slice uo un uc] 94) := show Blk Z rb #[.string ⟨c.nm.toArray⟩, .int .i64 c.cap, .int .i64 (c.val + am), .slice no nn nc, .slice uo un uc] 94 from by rw [hZ]; exact (((((BR.out.set 0 _).set 1 _).set 2 _).set 3 _).set 4 _)
    have HCZ : Hid (Chg (fun b => b = rb) U Z) := show Chg (fun b => b = rb) U Z from by rw [hZ]; exact ((((setCell_chg _ _ _ _).trans (setCell_chg _ _ _ _) (fun _ _ e => e)).trans (setCell_chg _ _ _ _) (fun _ _ e => e)).trans (setCell_chg _ _ _ _) (fun _ _ e => e)).trans (setCell_chg _ _ _ _) (fun _ _ e => e)
    have HBZ : Hid (Below w.heap.size w Z) := HBX.out.trans (HCZ.out.below HBX.out.size (fun k e => by rw [e]; exact HLB.out.2.1))
    have HNZ : Hid (Z.ownsRow w3.heap.size 125 2 (.slice no nn nc) (wo A c.H).length (flatH (wo A c.H))) := ownsRow_same HNVU.out (fun g hg => HCZ.out.block g (ownsRow_lt HNVU.out hg).2 (fun e => by obtain ⟨cu, hcu⟩ := ownsRow_type HNVU.out hg; exact Blk.ne_t (show Blk U g cu 125 from hcu) BR.out (by decide) e))
    go_wp2_with fail
    rw [← hZ]
    refine bodyPost_ret (results_done _ _ rb _ _ _ rfl rfl rfl HZ.out (by kernel_rfl)) rfl ?_
    exact ⟨⟨c.nm, c.cap, c.val + am, .slice no nn nc, wo A c.H, c.uv, c.U⟩, by rw [HR.out]; simp only [RC.cs, HUV.out]; first | rfl | skip, by rw [HR.out]; exact ⟨rfl, rfl, rfl, rfl, rfl⟩, ⟨ownsRow_mono HNZ.out (Nat.le_trans hB0 HL3.out), (HRd.out.more HBZ.out).u⟩, ⟨fun g hg => Or.inr (Nat.le_trans HL3.out (ownsRow_lt HNZ.out hg).1), fun g hg => Or.inl hg⟩, HBZ.out⟩
end Go.Proofs.Ytaiknlnjahjeiaa
