import Derived.Test.YtaiknlnjahjeiaaR5a
import Derived.Deep.Cut
namespace Go.Proofs.Ytaiknlnjahjeiaa
open Go.RowKit Go.PlainAid Go.MapKept
set_option linter.unusedVariables false
set_option linter.unusedSimpArgs false
set_option maxRecDepth 100000 in
set_option maxHeartbeats 6400000 in
theorem rrecap_any {B0 K : Nat} {c : RC} (A B q : Int) (n : List UInt8) (w : World) (h : c.Rd B0 w) (hok : c.Ok K) (hK : K ≤ 90000) :
    Calls Try.prog 60 #[.agg c.cs, .agg #[.int .i64 10, .string ⟨n.toArray⟩, .int .i64 A, .int .i64 B], .int .i64 q] w (DnPost B0 w c (rrecapO A c)) := by
  obtain ⟨ho, hc, hhv, _⟩ := own_slice h.h
  obtain ⟨uo, uc, huv, _⟩ := own_slice h.u
  obtain ⟨hn, hhn⟩ : ∃ x, x = c.H.length := ⟨_, rfl⟩
  obtain ⟨un, hun⟩ : ∃ x, x = c.U.length := ⟨_, rfl⟩
  rw [← hhn] at hhv
  rw [← hun] at huv
  have HHV : Hid (c.hv = .slice ho hn hc) := hhv
  have HUV : Hid (c.uv = .slice uo un uc) := huv
  have HHN : Hid (hn = c.H.length ∧ un = c.U.length) := ⟨hhn, hun⟩
  obtain ⟨cb, hcb⟩ : ∃ b, b = w.heap.size := ⟨_, rfl⟩
  obtain ⟨ob, hob⟩ : ∃ b, b = w.heap.size + 1 := ⟨_, rfl⟩
  obtain ⟨rb, hrb⟩ : ∃ b, b = w.heap.size + 1 + 1 := ⟨_, rfl⟩
  obtain ⟨X, hX⟩ : ∃ X, X = ((w.alloc (.cells #[.string ⟨c.nm.toArray⟩, .int .i64 c.cap, .int .i64 c.val, .slice ho hn hc, .slice uo un uc] 94)).alloc (.cells #[.int .i64 10, .string ⟨n.toArray⟩, .int .i64 A, .int .i64 B] 31)).alloc (.cells #[.string ⟨#[]⟩, .int .i64 0, .int .i64 0, .slice none 0 0, .slice none 0 0] 94) := ⟨_, rfl⟩
  have hbX : Below w.heap.size w X := by rw [hX]; exact (((Below.refl _ _).alloc (Nat.le_refl _) _).alloc (by simp) _).alloc (by simp; omega) _
  have BC : Hid (Blk X cb #[.string ⟨c.nm.toArray⟩, .int .i64 c.cap, .int .i64 c.val, .slice ho hn hc, .slice uo un uc] 94) := show Blk X cb #[.string ⟨c.nm.toArray⟩, .int .i64 c.cap, .int .i64 c.val, .slice ho hn hc, .slice uo un uc] 94 from by rw [hX, hcb]; exact blk_alloc (blk_alloc (heap_alloc_new w _) _) _
  have BO : Hid (Blk X ob #[.int .i64 10, .string ⟨n.toArray⟩, .int .i64 A, .int .i64 B] 31) := show Blk X ob #[.int .i64 10, .string ⟨n.toArray⟩, .int .i64 A, .int .i64 B] 31 from by rw [hX, hob]; have h := heap_alloc_new (w.alloc (.cells #[.string ⟨c.nm.toArray⟩, .int .i64 c.cap, .int .i64 c.val, .slice ho hn hc, .slice uo un uc] 94)) (.cells #[.int .i64 10, .string ⟨n.toArray⟩, .int .i64 A, .int .i64 B] 31); simp only [World.size_alloc] at h; exact blk_alloc h _
  have BR : Hid (Blk X rb #[.string ⟨#[]⟩, .int .i64 0, .int .i64 0, .slice none 0 0, .slice none 0 0] 94) := show Blk X rb #[.string ⟨#[]⟩, .int .i64 0, .int .i64 0, .slice none 0 0, .slice none 0 0] 94 from by rw [hX, hrb]; have h := heap_alloc_new ((w.alloc (.cells #[.string ⟨c.nm.toArray⟩, .int .i64 c.cap, .int .i64 c.val, .slice ho hn hc, .slice uo un uc] 94)).alloc (.cells #[.int .i64 10, .string ⟨n.toArray⟩, .int .i64 A, .int .i64 B] 31)) (.cells #[.string ⟨#[]⟩, .int .i64 0, .int .i64 0, .slice none 0 0, .slice none 0 0] 94); simp only [World.size_alloc] at h; exact h
  have HBX : Hid (Below w.heap.size w X) := hbX
  have HLB : Hid (w.heap.size ≤ cb ∧ w.heap.size ≤ rb ∧ cb ≠ rb) := ⟨by omega, by omega, by omega⟩
  have HRd : Hid (c.Rd B0 w) := h
  have HRX : Hid (c.Rd B0 X) := h.more hbX
  have HOK : Hid (c.Ok K) := hok
  rw [show RC.cs c = #[.string ⟨c.nm.toArray⟩, .int .i64 c.cap, .int .i64 c.val, .slice ho hn hc, .slice uo un uc] from by unfold RC.cs; rw [hhv, huv]]
  clear h hok hbX hhv huv hhn hun
  obtain ⟨sm, hsm⟩ : ∃ x, x = sumH c.H := ⟨_, rfl⟩
  have HSM : Hid (sm = sumH c.H) := hsm
  have HHE : Hid (∀ W, Below X.heap.size X W → Calls Try.prog 74 #[.agg #[.string ⟨c.nm.toArray⟩, .int .i64 c.cap, .int .i64 c.val, .slice ho hn hc, .slice uo un uc]] W (BoxPost W (.int .i64 sm))) := fun W hW => by have h := held_any W (HRX.out.more hW) HOK.out (Nat.le_trans hK (by decide)); rw [HHV.out, HUV.out] at h; rw [HSM.out]; exact h
  have hb1 := HOK.out.sum
  have hb2 := HOK.out.val
  have hb3 := HOK.out.cap
  have hb4 : 0 ≤ sm := by rw [hsm]; exact sum_nn (fun p hp => by have := HOK.out.pos p hp; omega)
  rw [← hsm] at hb1
  clear hsm
  have w1 : IntKind.i64.wrap (c.val + sm) = c.val + sm := wrB (by omega) (by omega)
  clear hb1 hb2 hb3 hb4
  by_cases hq : A < c.val + sm
  · have HR : Hid (rrecapO A c = c.no 61) := show _ = _ from by unfold rrecapO; rw [← HSM.out, if_pos hq]
    go_enter Try.func60, Try.ntmps60
    go_upto_region 1 with fail
    rw [← hX, ← hrb, ← hob, ← hcb]
    clear hX hrb hob hcb
    have c0 : X.cell? ⟨cb, 0, none⟩ = some (.string ⟨c.nm.toArray⟩) := BC.out.cell 0
    have c1 : X.cell? ⟨cb, 1, none⟩ = some (.int .i64 c.cap) := BC.out.cell 1
    have c2 : X.cell? ⟨cb, 2, none⟩ = some (.int .i64 c.val) := BC.out.cell 2
    have c3 : X.cell? ⟨cb, 3, none⟩ = some (.slice ho hn hc) := BC.out.cell 3
    have c4 : X.cell? ⟨cb, 4, none⟩ = some (.slice uo un uc) := BC.out.cell 4
    have o0 : X.cell? ⟨ob, 0, none⟩ = some (.int .i64 10) := BO.out.cell 0
    have o1 : X.cell? ⟨ob, 1, none⟩ = some (.string ⟨n.toArray⟩) := BO.out.cell 1
    have o2 : X.cell? ⟨ob, 2, none⟩ = some (.int .i64 A) := BO.out.cell 2
    have o3 : X.cell? ⟨ob, 3, none⟩ = some (.int .i64 B) := BO.out.cell 3
    have r0 : X.cell? ⟨rb, 0, none⟩ = some (.string ⟨#[]⟩) := BR.out.cell 0
    have q0 : X.frozen? ⟨rb, 0, none⟩ = false := BR.out.frozen 0
    have r1 : X.cell? ⟨rb, 1, none⟩ = some (.int .i64 0) := BR.out.cell 1
    have q1 : X.frozen? ⟨rb, 1, none⟩ = false := BR.out.frozen 1
    have r2 : X.cell? ⟨rb, 2, none⟩ = some (.int .i64 0) := BR.out.cell 2
    have q2 : X.frozen? ⟨rb, 2, none⟩ = false := BR.out.frozen 2
    have r3 : X.cell? ⟨rb, 3, none⟩ = some (.slice none 0 0) := BR.out.cell 3
    have q3 : X.frozen? ⟨rb, 3, none⟩ = false := BR.out.frozen 3
    have r4 : X.cell? ⟨rb, 4, none⟩ = some (.slice none 0 0) := BR.out.cell 4
    have q4 : X.frozen? ⟨rb, 4, none⟩ = false := BR.out.frozen 4
    go_wp2_with fail
    clear c0 r0 q0 c1 r1 q1 c2 r2 q2 c3 r3 q3 c4 r4 q4 o0 o1 o2 o3
    first | rename_i KK hKK | skip
    try rw [show ∀ a : Act, a.put none undef = a from fun _ => rfl]
    refine wp_region_mix (fun wq => Blk wq cb #[.string ⟨c.nm.toArray⟩, .int .i64 c.cap, .int .i64 c.val, .slice ho hn hc, .slice uo un uc] 94 ∧ Blk wq ob #[.int .i64 10, .string ⟨n.toArray⟩, .int .i64 A, .int .i64 B] 31 ∧ Below X.heap.size X wq) (fun i => i == 3 || i == 99) 99 (by kernel_rfl) rfl (by kernel_rfl) (by kernel_rfl) (by kernel_rfl) ?_
    refine withFrP (N := 190) rfl ?_
    intro f0 F0 hff
    have ee3 : f0 3 = Value.pointer (some ⟨cb, 0, none⟩) := hff 3
    have ee4 : f0 4 = Value.pointer (some ⟨ob, 0, none⟩) := hff 4
    clear hff
    have HCC : (fun wq => Blk wq cb #[.string ⟨c.nm.toArray⟩, .int .i64 c.cap, .int .i64 c.val, .slice ho hn hc, .slice uo un uc] 94 ∧ Blk wq ob #[.int .i64 10, .string ⟨n.toArray⟩, .int .i64 A, .int .i64 B] 31 ∧ Below X.heap.size X wq) (({ X with drawn := X.drawn + 1 } : World)) := ⟨BC.out, BO.out, Below.drew (Below.refl _ _)⟩
    refine lyp F0 rfl HCC rfl (by omega) (wanted_none rfl) (v := Value.pointer (some ⟨cb, 2, none⟩)) (fun wr hwr => by simp only [execOp, (F0.eval 3 (by omega)).trans (show _ = Value.pointer (some ⟨cb, 0, none⟩) from by simp [upd, ee3, ee4])]; simp [go_sem]) fun F1 => ?_
    refine lyp F1 rfl HCC rfl (by omega) (wanted_none rfl) (v := Value.int .i64 c.val) (fun wr hwr => by simp only [execOp, (F1.eval 175 (by omega)).trans (show _ = Value.pointer (some ⟨cb, 2, none⟩) from by simp [upd, ee3, ee4])]; simp [go_sem, show wr.cell? ⟨cb, 2, none⟩ = some (.int .i64 c.val) from hwr.1.cell 2]) fun F2 => ?_
    refine lyp F2 rfl HCC rfl (by omega) (wanted_none rfl) (v := Value.agg #[.string ⟨c.nm.toArray⟩, .int .i64 c.cap, .int .i64 c.val, .slice ho hn hc, .slice uo un uc]) (fun wr hwr => by simp only [execOp, (F2.eval 3 (by omega)).trans (show _ = Value.pointer (some ⟨cb, 0, none⟩) from by simp [upd, ee3, ee4])]; simp [go_sem, show wr.cell? ⟨cb, 0, none⟩ = some (.string ⟨c.nm.toArray⟩) from hwr.1.cell 0, show wr.cell? ⟨cb, 1, none⟩ = some (.int .i64 c.cap) from hwr.1.cell 1, show wr.cell? ⟨cb, 2, none⟩ = some (.int .i64 c.val) from hwr.1.cell 2, show wr.cell? ⟨cb, 3, none⟩ = some (.slice ho hn hc) from hwr.1.cell 3, show wr.cell? ⟨cb, 4, none⟩ = some (.slice uo un uc) from hwr.1.cell 4]) fun F3 => ?_
    refine lcp F3 rfl HCC rfl (by omega) (wanted_none rfl) (g := 74) (args := #[Value.agg #[.string ⟨c.nm.toArray⟩, .int .i64 c.cap, .int .i64 c.val, .slice ho hn hc, .slice uo un uc]]) (by simp only [execOp, resolve, invoke, List.map_toArray, List.map_cons, List.map_nil, (F3.eval 177 (by omega)).trans (show _ = Value.agg #[.string ⟨c.nm.toArray⟩, .int .i64 c.cap, .int .i64 c.val, .slice ho hn hc, .slice uo un uc] from by simp [upd, ee3, ee4])]; simp [go_sem, Act.eval]) (HHE.out (({ X with drawn := X.drawn + 1 } : World)) HCC.2.2) ?_
    rintro e9 w3 ⟨rfl, hb3⟩
    refine ⟨_, rfl, fun F4 => ?_⟩
    have HC2 : (fun wq => Blk wq cb #[.string ⟨c.nm.toArray⟩, .int .i64 c.cap, .int .i64 c.val, .slice ho hn hc, .slice uo un uc] 94 ∧ Blk wq ob #[.int .i64 10, .string ⟨n.toArray⟩, .int .i64 A, .int .i64 B] 31 ∧ Below X.heap.size X wq) w3 := ⟨HCC.1.below hb3 HCC.1.lt, HCC.2.1.below hb3 HCC.2.1.lt, HCC.2.2.trans (hb3.mono HCC.2.2.size)⟩
    refine lyp F4 rfl HC2 rfl (by omega) (wanted_none rfl) (v := Value.int .i64 (c.val + sm)) (fun wr hwr => by simp only [execOp, (F4.eval 176 (by omega)).trans (show _ = Value.int .i64 c.val from by simp [upd, ee3, ee4]), (F4.eval 178 (by omega)).trans (show _ = Value.int .i64 sm from by simp [upd, ee3, ee4])]; simp [go_sem, Act.eval, w1]) fun F5 => ?_
    refine lyp F5 rfl HC2 rfl (by omega) (wanted_none rfl) (v := Value.pointer (some ⟨ob, 2, none⟩)) (fun wr hwr => by simp only [execOp, (F5.eval 4 (by omega)).trans (show _ = Value.pointer (some ⟨ob, 0, none⟩) from by simp [upd, ee3, ee4])]; simp [go_sem]) fun F6 => ?_
    refine lyp F6 rfl HC2 rfl (by omega) (wanted_none rfl) (v := Value.int .i64 A) (fun wr hwr => by simp only [execOp, (F6.eval 180 (by omega)).trans (show _ = Value.pointer (some ⟨ob, 2, none⟩) from by simp [upd, ee3, ee4])]; simp [go_sem, show wr.cell? ⟨ob, 2, none⟩ = some (.int .i64 A) from hwr.2.1.cell 2]) fun F7 => ?_
    refine lyp F7 rfl HC2 rfl (by omega) (wanted_none rfl) (v := Value.bool true) (fun wr hwr => by simp only [execOp, (F7.eval 179 (by omega)).trans (show _ = Value.int .i64 (c.val + sm) from by simp [upd, ee3, ee4]), (F7.eval 181 (by omega)).trans (show _ = Value.int .i64 A from by simp [upd, ee3, ee4])]; simp [go_sem, Act.eval, hq]) fun F8 => ?_
    have HB3 : Hid (Below X.heap.size X w3) := HC2.2.2
    refine ⟨fun _ => HC2, ?_⟩
    first | refine hKK _ _ ?_ | skip
    clear F0 F1 F2 F3 F4 F5 F6 F7 F8 ee3 ee4 HCC HC2
    simp only [Act.put, List.setIfInBounds_toArray, List.set_cons_succ, List.set_cons_zero]
    have BC3 : Hid (Blk w3 cb #[.string ⟨c.nm.toArray⟩, .int .i64 c.cap, .int .i64 c.val, .slice ho hn hc, .slice uo un uc] 94) := BC.out.below HB3.out BC.out.lt
    have BO3 : Hid (Blk w3 ob #[.int .i64 10, .string ⟨n.toArray⟩, .int .i64 A, .int .i64 B] 31) := BO.out.below HB3.out BO.out.lt
    have BR3 : Hid (Blk w3 rb #[.string ⟨#[]⟩, .int .i64 0, .int .i64 0, .slice none 0 0, .slice none 0 0] 94) := BR.out.below HB3.out BR.out.lt
    have HBX3 : Hid (Below w.heap.size w w3) := HBX.out.trans (HB3.out.mono HBX.out.size)
    clear hb3 BC BO BR HBX
    have BC := BC3
    have BO := BO3
    have BR := BR3
    have HBX := HBX3
    clear BC3 BO3 BR3 HBX3
    have c0 : w3.cell? ⟨cb, 0, none⟩ = some (.string ⟨c.nm.toArray⟩) := BC.out.cell 0
    have c1 : w3.cell? ⟨cb, 1, none⟩ = some (.int .i64 c.cap) := BC.out.cell 1
    have c2 : w3.cell? ⟨cb, 2, none⟩ = some (.int .i64 c.val) := BC.out.cell 2
    have c3 : w3.cell? ⟨cb, 3, none⟩ = some (.slice ho hn hc) := BC.out.cell 3
    have c4 : w3.cell? ⟨cb, 4, none⟩ = some (.slice uo un uc) := BC.out.cell 4
    have o0 : w3.cell? ⟨ob, 0, none⟩ = some (.int .i64 10) := BO.out.cell 0
    have o1 : w3.cell? ⟨ob, 1, none⟩ = some (.string ⟨n.toArray⟩) := BO.out.cell 1
    have o2 : w3.cell? ⟨ob, 2, none⟩ = some (.int .i64 A) := BO.out.cell 2
    have o3 : w3.cell? ⟨ob, 3, none⟩ = some (.int .i64 B) := BO.out.cell 3
    have r0 : w3.cell? ⟨rb, 0, none⟩ = some (.string ⟨#[]⟩) := BR.out.cell 0
    have q0 : w3.frozen? ⟨rb, 0, none⟩ = false := BR.out.frozen 0
    have r1 : w3.cell? ⟨rb, 1, none⟩ = some (.int .i64 0) := BR.out.cell 1
    have q1 : w3.frozen? ⟨rb, 1, none⟩ = false := BR.out.frozen 1
    have r2 : w3.cell? ⟨rb, 2, none⟩ = some (.int .i64 0) := BR.out.cell 2
    have q2 : w3.frozen? ⟨rb, 2, none⟩ = false := BR.out.frozen 2
    have r3 : w3.cell? ⟨rb, 3, none⟩ = some (.slice none 0 0) := BR.out.cell 3
    have q3 : w3.frozen? ⟨rb, 3, none⟩ = false := BR.out.frozen 3
    have r4 : w3.cell? ⟨rb, 4, none⟩ = some (.slice none 0 0) := BR.out.cell 4
    have q4 : w3.frozen? ⟨rb, 4, none⟩ = false := BR.out.frozen 4
    obtain ⟨Z, hZ⟩ : ∃ Z, Z = (((((w3.setCell ⟨rb, 0, none⟩ (.string ⟨c.nm.toArray⟩)).setCell ⟨rb, 1, none⟩ (.int .i64 c.cap)).setCell ⟨rb, 2, none⟩ (.int .i64 c.val)).setCell ⟨rb, 3, none⟩ (.slice ho hn hc)).setCell ⟨rb, 4, none⟩ (.slice uo un uc)) := ⟨_, rfl⟩
    have HZ : Hid (Blk Z rb #[.string ⟨c.nm.toArray⟩, .int .i64 c.cap, .int .i64 c.val, .slice ho hn hc, .slice uo un uc] 94) := show Blk Z rb #[.string ⟨c.nm.toArray⟩, .int .i64 c.cap, .int .i64 c.val, .slice ho hn hc, .slice uo un uc] 94 from by rw [hZ]; exact (((((BR.out.set 0 _).set 1 _).set 2 _).set 3 _).set 4 _)
    have HCZ : Hid (Chg (fun b => b = rb) w3 Z) := show Chg (fun b => b = rb) w3 Z from by rw [hZ]; exact ((((setCell_chg _ _ _ _).trans (setCell_chg _ _ _ _) (fun _ _ e => e)).trans (setCell_chg _ _ _ _) (fun _ _ e => e)).trans (setCell_chg _ _ _ _) (fun _ _ e => e)).trans (setCell_chg _ _ _ _) (fun _ _ e => e)
    have HBZ : Hid (Below w.heap.size w Z) := HBX.out.trans (HCZ.out.below HBX.out.size (fun k e => by rw [e]; exact HLB.out.2.1))
    go_wp2_with fail
    rw [← hZ]
    refine bodyPost_ret (results_done _ _ rb _ _ _ rfl rfl rfl HZ.out (by kernel_rfl)) rfl ?_
    exact DnPost.same HHV.out HUV.out (HR.out) HRd.out HBZ.out
  · have HR : Hid (rrecapO A c = ((A, 0), (A, c.val, c.H, c.U))) := show _ = _ from by unfold rrecapO; rw [← HSM.out, if_neg hq]
    go_enter Try.func60, Try.ntmps60
    go_upto_region 1 with fail
    rw [← hX, ← hrb, ← hob, ← hcb]
    clear hX hrb hob hcb
    have c0 : X.cell? ⟨cb, 0, none⟩ = some (.string ⟨c.nm.toArray⟩) := BC.out.cell 0
    have c1 : X.cell? ⟨cb, 1, none⟩ = some (.int .i64 c.cap) := BC.out.cell 1
    have c2 : X.cell? ⟨cb, 2, none⟩ = some (.int .i64 c.val) := BC.out.cell 2
    have c3 : X.cell? ⟨cb, 3, none⟩ = some (.slice ho hn hc) := BC.out.cell 3
    have c4 : X.cell? ⟨cb, 4, none⟩ = some (.slice uo un uc) := BC.out.cell 4
    have o0 : X.cell? ⟨ob, 0, none⟩ = some (.int .i64 10) := BO.out.cell 0
    have o1 : X.cell? ⟨ob, 1, none⟩ = some (.string ⟨n.toArray⟩) := BO.out.cell 1
    have o2 : X.cell? ⟨ob, 2, none⟩ = some (.int .i64 A) := BO.out.cell 2
    have o3 : X.cell? ⟨ob, 3, none⟩ = some (.int .i64 B) := BO.out.cell 3
    have r0 : X.cell? ⟨rb, 0, none⟩ = some (.string ⟨#[]⟩) := BR.out.cell 0
    have q0 : X.frozen? ⟨rb, 0, none⟩ = false := BR.out.frozen 0
    have r1 : X.cell? ⟨rb, 1, none⟩ = some (.int .i64 0) := BR.out.cell 1
    have q1 : X.frozen? ⟨rb, 1, none⟩ = false := BR.out.frozen 1
    have r2 : X.cell? ⟨rb, 2, none⟩ = some (.int .i64 0) := BR.out.cell 2
    have q2 : X.frozen? ⟨rb, 2, none⟩ = false := BR.out.frozen 2
    have r3 : X.cell? ⟨rb, 3, none⟩ = some (.slice none 0 0) := BR.out.cell 3
    have q3 : X.frozen? ⟨rb, 3, none⟩ = false := BR.out.frozen 3
    have r4 : X.cell? ⟨rb, 4, none⟩ = some (.slice none 0 0) := BR.out.cell 4
    have q4 : X.frozen? ⟨rb, 4, none⟩ = false := BR.out.frozen 4
    go_wp2_with fail
    clear c0 r0 q0 c1 r1 q1 c2 r2 q2 c3 r3 q3 c4 r4 q4 o0 o1 o2 o3
    first | rename_i KK hKK | skip
    try rw [show ∀ a : Act, a.put none undef = a from fun _ => rfl]
    refine wp_region_mix (fun wq => Blk wq cb #[.string ⟨c.nm.toArray⟩, .int .i64 c.cap, .int .i64 c.val, .slice ho hn hc, .slice uo un uc] 94 ∧ Blk wq ob #[.int .i64 10, .string ⟨n.toArray⟩, .int .i64 A, .int .i64 B] 31 ∧ Below X.heap.size X wq) (fun i => i == 3 || i == 99) 99 (by kernel_rfl) rfl (by kernel_rfl) (by kernel_rfl) (by kernel_rfl) ?_
    refine withFrP (N := 190) rfl ?_
    intro f0 F0 hff
    have ee3 : f0 3 = Value.pointer (some ⟨cb, 0, none⟩) := hff 3
    have ee4 : f0 4 = Value.pointer (some ⟨ob, 0, none⟩) := hff 4
    clear hff
    have HCC : (fun wq => Blk wq cb #[.string ⟨c.nm.toArray⟩, .int .i64 c.cap, .int .i64 c.val, .slice ho hn hc, .slice uo un uc] 94 ∧ Blk wq ob #[.int .i64 10, .string ⟨n.toArray⟩, .int .i64 A, .int .i64 B] 31 ∧ Below X.heap.size X wq) (({ X with drawn := X.drawn + 1 } : World)) := ⟨BC.out, BO.out, Below.drew (Below.refl _ _)⟩
    refine lyp F0 rfl HCC rfl (by omega) (wanted_none rfl) (v := Value.pointer (some ⟨cb, 2, none⟩)) (fun wr hwr => by simp only [execOp, (F0.eval 3 (by omega)).trans (show _ = Value.pointer (some ⟨cb, 0, none⟩) from by simp [upd, ee3, ee4])]; simp [go_sem]) fun F1 => ?_
    refine lyp F1 rfl HCC rfl (by omega) (wanted_none rfl) (v := Value.int .i64 c.val) (fun wr hwr => by simp only [execOp, (F1.eval 175 (by omega)).trans (show _ = Value.pointer (some ⟨cb, 2, none⟩) from by simp [upd, ee3, ee4])]; simp [go_sem, show wr.cell? ⟨cb, 2, none⟩ = some (.int .i64 c.val) from hwr.1.cell 2]) fun F2 => ?_
    refine lyp F2 rfl HCC rfl (by omega) (wanted_none rfl) (v := Value.agg #[.string ⟨c.nm.toArray⟩, .int .i64 c.cap, .int .i64 c.val, .slice ho hn hc, .slice uo un uc]) (fun wr hwr => by simp only [execOp, (F2.eval 3 (by omega)).trans (show _ = Value.pointer (some ⟨cb, 0, none⟩) from by simp [upd, ee3, ee4])]; simp [go_sem, show wr.cell? ⟨cb, 0, none⟩ = some (.string ⟨c.nm.toArray⟩) from hwr.1.cell 0, show wr.cell? ⟨cb, 1, none⟩ = some (.int .i64 c.cap) from hwr.1.cell 1, show wr.cell? ⟨cb, 2, none⟩ = some (.int .i64 c.val) from hwr.1.cell 2, show wr.cell? ⟨cb, 3, none⟩ = some (.slice ho hn hc) from hwr.1.cell 3, show wr.cell? ⟨cb, 4, none⟩ = some (.slice uo un uc) from hwr.1.cell 4]) fun F3 => ?_
    refine lcp F3 rfl HCC rfl (by omega) (wanted_none rfl) (g := 74) (args := #[Value.agg #[.string ⟨c.nm.toArray⟩, .int .i64 c.cap, .int .i64 c.val, .slice ho hn hc, .slice uo un uc]]) (by simp only [execOp, resolve, invoke, List.map_toArray, List.map_cons, List.map_nil, (F3.eval 177 (by omega)).trans (show _ = Value.agg #[.string ⟨c.nm.toArray⟩, .int .i64 c.cap, .int .i64 c.val, .slice ho hn hc, .slice uo un uc] from by simp [upd, ee3, ee4])]; simp [go_sem, Act.eval]) (HHE.out (({ X with drawn := X.drawn + 1 } : World)) HCC.2.2) ?_
    rintro e9 w3 ⟨rfl, hb3⟩
    refine ⟨_, rfl, fun F4 => ?_⟩
    have HC2 : (fun wq => Blk wq cb #[.string ⟨c.nm.toArray⟩, .int .i64 c.cap, .int .i64 c.val, .slice ho hn hc, .slice uo un uc] 94 ∧ Blk wq ob #[.int .i64 10, .string ⟨n.toArray⟩, .int .i64 A, .int .i64 B] 31 ∧ Below X.heap.size X wq) w3 := ⟨HCC.1.below hb3 HCC.1.lt, HCC.2.1.below hb3 HCC.2.1.lt, HCC.2.2.trans (hb3.mono HCC.2.2.size)⟩
    refine lyp F4 rfl HC2 rfl (by omega) (wanted_none rfl) (v := Value.int .i64 (c.val + sm)) (fun wr hwr => by simp only [execOp, (F4.eval 176 (by omega)).trans (show _ = Value.int .i64 c.val from by simp [upd, ee3, ee4]), (F4.eval 178 (by omega)).trans (show _ = Value.int .i64 sm from by simp [upd, ee3, ee4])]; simp [go_sem, Act.eval, w1]) fun F5 => ?_
    refine lyp F5 rfl HC2 rfl (by omega) (wanted_none rfl) (v := Value.pointer (some ⟨ob, 2, none⟩)) (fun wr hwr => by simp only [execOp, (F5.eval 4 (by omega)).trans (show _ = Value.pointer (some ⟨ob, 0, none⟩) from by simp [upd, ee3, ee4])]; simp [go_sem]) fun F6 => ?_
    refine lyp F6 rfl HC2 rfl (by omega) (wanted_none rfl) (v := Value.int .i64 A) (fun wr hwr => by simp only [execOp, (F6.eval 180 (by omega)).trans (show _ = Value.pointer (some ⟨ob, 2, none⟩) from by simp [upd, ee3, ee4])]; simp [go_sem, show wr.cell? ⟨ob, 2, none⟩ = some (.int .i64 A) from hwr.2.1.cell 2]) fun F7 => ?_
    refine lyp F7 rfl HC2 rfl (by omega) (wanted_none rfl) (v := Value.bool false) (fun wr hwr => by simp only [execOp, (F7.eval 179 (by omega)).trans (show _ = Value.int .i64 (c.val + sm) from by simp [upd, ee3, ee4]), (F7.eval 181 (by omega)).trans (show _ = Value.int .i64 A from by simp [upd, ee3, ee4])]; simp [go_sem, Act.eval, hq]) fun F8 => ?_
    have HB3 : Hid (Below X.heap.size X w3) := HC2.2.2
    refine ⟨fun _ => HC2, ?_⟩
    first | refine hKK _ _ ?_ | skip
    clear F0 F1 F2 F3 F4 F5 F6 F7 F8 ee3 ee4 HCC HC2
    simp only [Act.put, List.setIfInBounds_toArray, List.set_cons_succ, List.set_cons_zero]
    have BC3 : Hid (Blk w3 cb #[.string ⟨c.nm.toArray⟩, .int .i64 c.cap, .int .i64 c.val, .slice ho hn hc, .slice uo un uc] 94) := BC.out.below HB3.out BC.out.lt
    have BO3 : Hid (Blk w3 ob #[.int .i64 10, .string ⟨n.toArray⟩, .int .i64 A, .int .i64 B] 31) := BO.out.below HB3.out BO.out.lt
    have BR3 : Hid (Blk w3 rb #[.string ⟨#[]⟩, .int .i64 0, .int .i64 0, .slice none 0 0, .slice none 0 0] 94) := BR.out.below HB3.out BR.out.lt
    have HBX3 : Hid (Below w.heap.size w w3) := HBX.out.trans (HB3.out.mono HBX.out.size)
    clear hb3 BC BO BR HBX
    have BC := BC3
    have BO := BO3
    have BR := BR3
    have HBX := HBX3
    clear BC3 BO3 BR3 HBX3
    have c0 : w3.cell? ⟨cb, 0, none⟩ = some (.string ⟨c.nm.toArray⟩) := BC.out.cell 0
    have c1 : w3.cell? ⟨cb, 1, none⟩ = some (.int .i64 c.cap) := BC.out.cell 1
    have c2 : w3.cell? ⟨cb, 2, none⟩ = some (.int .i64 c.val) := BC.out.cell 2
    have c3 : w3.cell? ⟨cb, 3, none⟩ = some (.slice ho hn hc) := BC.out.cell 3
    have c4 : w3.cell? ⟨cb, 4, none⟩ = some (.slice uo un uc) := BC.out.cell 4
    have o0 : w3.cell? ⟨ob, 0, none⟩ = some (.int .i64 10) := BO.out.cell 0
    have o1 : w3.cell? ⟨ob, 1, none⟩ = some (.string ⟨n.toArray⟩) := BO.out.cell 1
    have o2 : w3.cell? ⟨ob, 2, none⟩ = some (.int .i64 A) := BO.out.cell 2
    have o3 : w3.cell? ⟨ob, 3, none⟩ = some (.int .i64 B) := BO.out.cell 3
    have r0 : w3.cell? ⟨rb, 0, none⟩ = some (.string ⟨#[]⟩) := BR.out.cell 0
    have q0 : w3.frozen? ⟨rb, 0, none⟩ = false := BR.out.frozen 0
    have r1 : w3.cell? ⟨rb, 1, none⟩ = some (.int .i64 0) := BR.out.cell 1
    have q1 : w3.frozen? ⟨rb, 1, none⟩ = false := BR.out.frozen 1
    have r2 : w3.cell? ⟨rb, 2, none⟩ = some (.int .i64 0) := BR.out.cell 2
    have q2 : w3.frozen? ⟨rb, 2, none⟩ = false := BR.out.frozen 2
    have r3 : w3.cell? ⟨rb, 3, none⟩ = some (.slice none 0 0) := BR.out.cell 3
    have q3 : w3.frozen? ⟨rb, 3, none⟩ = false := BR.out.frozen 3
    have r4 : w3.cell? ⟨rb, 4, none⟩ = some (.slice none 0 0) := BR.out.cell 4
    have q4 : w3.frozen? ⟨rb, 4, none⟩ = false := BR.out.frozen 4
    obtain ⟨V, hV⟩ : ∃ V, V = w3.setCell ⟨cb, 1, none⟩ (.int .i64 A) := ⟨_, rfl⟩
    have BCV : Hid (Blk V cb #[.string ⟨c.nm.toArray⟩, .int .i64 A, .int .i64 c.val, .slice ho hn hc, .slice uo un uc] 94) := show Blk V cb #[.string ⟨c.nm.toArray⟩, .int .i64 A, .int .i64 c.val, .slice ho hn hc, .slice uo un uc] 94 from by rw [hV]; exact BC.out.set 1 _
    have hcV : Chg (fun b => b = cb) w3 V := by rw [hV]; exact setCell_chg _ _ _ _
    have BOV : Hid (Blk V ob #[.int .i64 10, .string ⟨n.toArray⟩, .int .i64 A, .int .i64 B] 31) := hcV.blk BO.out (Blk.ne_t BO.out BC.out (by decide))
    have BRV : Hid (Blk V rb #[.string ⟨#[]⟩, .int .i64 0, .int .i64 0, .slice none 0 0, .slice none 0 0] 94) := hcV.blk BR.out (fun e => HLB.out.2.2 e.symm)
    have HBXV : Hid (Below w.heap.size w V) := HBX.out.trans (hcV.below HBX.out.size (fun k e => by rw [e]; exact HLB.out.1))
    have fzV : w3.frozen? ⟨cb, 1, none⟩ = false := BC.out.frozen 1
    clear hcV
    go_upto_region 55 with fail
    rw [← hV]
    clear hV fzV BC BO BR HBX
    have BC := BCV
    have BO := BOV
    have BR := BRV
    have HBX := HBXV
    clear BCV BOV BRV HBXV
    clear c0 r0 q0 c1 r1 q1 c2 r2 q2 c3 r3 q3 c4 r4 q4 o0 o1 o2 o3
    obtain ⟨Z, hZ⟩ : ∃ Z, Z = (((((({ V with drawn := V.drawn + 1 } : World).setCell ⟨rb, 0, none⟩ (.string ⟨c.nm.toArray⟩)).setCell ⟨rb, 1, none⟩ (.int .i64 A)).setCell ⟨rb, 2, none⟩ (.int .i64 c.val)).setCell ⟨rb, 3, none⟩ (.slice ho hn hc)).setCell ⟨rb, 4, none⟩ (.slice uo un uc)) := ⟨_, rfl⟩
    have HZ : Hid (Blk Z rb #[.string ⟨c.nm.toArray⟩, .int .i64 A, .int .i64 c.val, .slice ho hn hc, .slice uo un uc] 94) := show Blk Z rb #[.string ⟨c.nm.toArray⟩, .int .i64 A, .int .i64 c.val, .slice ho hn hc, .slice uo un uc] 94 from by rw [hZ]; exact (((((BR.out.set 0 _).set 1 _).set 2 _).set 3 _).set 4 _)
    have HCZ : Hid (Chg (fun b => b = rb) ({ V with drawn := V.drawn + 1 } : World) Z) := show Chg (fun b => b = rb) ({ V with drawn := V.drawn + 1 } : World) Z from by rw [hZ]; exact ((((setCell_chg _ _ _ _).trans (setCell_chg _ _ _ _) (fun _ _ e => e)).trans (setCell_chg _ _ _ _) (fun _ _ e => e)).trans (setCell_chg _ _ _ _) (fun _ _ e => e)).trans (setCell_chg _ _ _ _) (fun _ _ e => e)
    have HBZ : Hid (Below w.heap.size w Z) := (Below.drew HBX.out).trans (HCZ.out.below HBX.out.size (fun k e => by rw [e]; exact HLB.out.2.1))
    have HCZ0 : Hid ((fun wq => Blk wq cb #[.string ⟨c.nm.toArray⟩, .int .i64 A, .int .i64 c.val, .slice ho hn hc, .slice uo un uc] 94 ∧ Blk wq ob #[.int .i64 10, .string ⟨n.toArray⟩, .int .i64 A, .int .i64 B] 31) Z) := ⟨HCZ.out.blk (show Blk ({ V with drawn := V.drawn + 1 } : World) cb #[.string ⟨c.nm.toArray⟩, .int .i64 A, .int .i64 c.val, .slice ho hn hc, .slice uo un uc] 94 from BC.out) (fun e => HLB.out.2.2 e), HCZ.out.blk (show Blk ({ V with drawn := V.drawn + 1 } : World) ob #[.int .i64 10, .string ⟨n.toArray⟩, .int .i64 A, .int .i64 B] 31 from BO.out) (Blk.ne_t BO.out BR.out (by decide))⟩
    go_wp2_with fail
    first | rename_i KK hKK | skip
    try rw [show ∀ a : Act, a.put none undef = a from fun _ => rfl]
    refine wp_region_mix (fun wq => Blk wq cb #[.string ⟨c.nm.toArray⟩, .int .i64 A, .int .i64 c.val, .slice ho hn hc, .slice uo un uc] 94 ∧ Blk wq ob #[.int .i64 10, .string ⟨n.toArray⟩, .int .i64 A, .int .i64 B] 31) (fun i => i == 3 || i == 99) 99 (by kernel_rfl) rfl (by kernel_rfl) (by kernel_rfl) (by kernel_rfl) ?_
    refine withFrP (N := 190) rfl ?_
    intro f0 F0 hff
    have ee3 : f0 3 = Value.pointer (some ⟨cb, 0, none⟩) := hff 3
    have ee4 : f0 4 = Value.pointer (some ⟨ob, 0, none⟩) := hff 4
    have ee6 : f0 6 = Value.pointer (some ⟨rb, 0, none⟩) := hff 6
    clear hff
    have HCC : (fun wq => Blk wq cb #[.string ⟨c.nm.toArray⟩, .int .i64 A, .int .i64 c.val, .slice ho hn hc, .slice uo un uc] 94 ∧ Blk wq ob #[.int .i64 10, .string ⟨n.toArray⟩, .int .i64 A, .int .i64 B] 31) (({ V with drawn := V.drawn + 1 } : World)) := ⟨BC.out, BO.out⟩
    refine lyp F0 rfl HCC rfl (by omega) (wanted_none rfl) (v := Value.agg #[.string ⟨c.nm.toArray⟩, .int .i64 A, .int .i64 c.val, .slice ho hn hc, .slice uo un uc]) (fun wr hwr => by simp only [execOp, (F0.eval 3 (by omega)).trans (show _ = Value.pointer (some ⟨cb, 0, none⟩) from by simp [upd, ee3, ee4, ee6])]; simp [go_sem, show wr.cell? ⟨cb, 0, none⟩ = some (.string ⟨c.nm.toArray⟩) from hwr.1.cell 0, show wr.cell? ⟨cb, 1, none⟩ = some (.int .i64 A) from hwr.1.cell 1, show wr.cell? ⟨cb, 2, none⟩ = some (.int .i64 c.val) from hwr.1.cell 2, show wr.cell? ⟨cb, 3, none⟩ = some (.slice ho hn hc) from hwr.1.cell 3, show wr.cell? ⟨cb, 4, none⟩ = some (.slice uo un uc) from hwr.1.cell 4]) fun F1 => ?_
    refine lyp F1 rfl HCC rfl (by omega) (wanted_none rfl) (v := Value.pointer (some ⟨ob, 2, none⟩)) (fun wr hwr => by simp only [execOp, (F1.eval 4 (by omega)).trans (show _ = Value.pointer (some ⟨ob, 0, none⟩) from by simp [upd, ee3, ee4, ee6])]; simp [go_sem]) fun F2 => ?_
    refine lyp F2 rfl HCC rfl (by omega) (wanted_none rfl) (v := Value.int .i64 A) (fun wr hwr => by simp only [execOp, (F2.eval 188 (by omega)).trans (show _ = Value.pointer (some ⟨ob, 2, none⟩) from by simp [upd, ee3, ee4, ee6])]; simp [go_sem, show wr.cell? ⟨ob, 2, none⟩ = some (.int .i64 A) from hwr.2.cell 2]) fun F3 => ?_
    refine lst rfl HCC rfl (wanted_none rfl) (w1 := Z) (by simp only [execOp, (F3.eval 6 (by omega)).trans (show _ = Value.pointer (some ⟨rb, 0, none⟩) from by simp [upd, ee3, ee4, ee6]), (F3.eval 187 (by omega)).trans (show _ = Value.agg #[.string ⟨c.nm.toArray⟩, .int .i64 A, .int .i64 c.val, .slice ho hn hc, .slice uo un uc] from by simp [upd, ee3, ee4, ee6])]; rw [hZ]; simp [go_sem, show V.cell? ⟨rb, 0, none⟩ = some (.string ⟨#[]⟩) from BR.out.cell 0, show V.frozen? ⟨rb, 0, none⟩ = false from BR.out.frozen 0, show V.cell? ⟨rb, 1, none⟩ = some (.int .i64 0) from BR.out.cell 1, show V.frozen? ⟨rb, 1, none⟩ = false from BR.out.frozen 1, show V.cell? ⟨rb, 2, none⟩ = some (.int .i64 0) from BR.out.cell 2, show V.frozen? ⟨rb, 2, none⟩ = false from BR.out.frozen 2, show V.cell? ⟨rb, 3, none⟩ = some (.slice none 0 0) from BR.out.cell 3, show V.frozen? ⟨rb, 3, none⟩ = false from BR.out.frozen 3, show V.cell? ⟨rb, 4, none⟩ = some (.slice none 0 0) from BR.out.cell 4, show V.frozen? ⟨rb, 4, none⟩ = false from BR.out.frozen 4]) ?_
    have HCZ1 : (fun wq => Blk wq cb #[.string ⟨c.nm.toArray⟩, .int .i64 A, .int .i64 c.val, .slice ho hn hc, .slice uo un uc] 94 ∧ Blk wq ob #[.int .i64 10, .string ⟨n.toArray⟩, .int .i64 A, .int .i64 B] 31) Z := HCZ0.out
    refine lyp F3 rfl HCZ1 rfl (by omega) (wanted_none rfl) (v := Value.int .i64 A) (fun wr hwr => by simp only [execOp, (F3.eval 189 (by omega)).trans (show _ = Value.int .i64 A from by simp [upd, ee3, ee4, ee6])]; first | rfl | simp [go_sem]) fun F4 => ?_
    refine lyp F4 rfl HCZ1 rfl (by omega) (wanted_none rfl) (v := Value.int .i64 0) (fun wr hwr => by simp [execOp, Act.eval]; try rfl) fun F5 => ?_
    refine ⟨fun _ => HCZ1, ?_⟩
    first | refine hKK _ _ ?_ | skip
    clear F0 F1 F2 F3 F4 F5 ee3 ee4 ee6 HCC HCZ1
    simp only [Act.put, List.setIfInBounds_toArray, List.set_cons_succ, List.set_cons_zero]
    clear hZ
    first | go_wp2_with fail | skip
    refine bodyPost_ret (results_done _ _ rb _ _ _ rfl rfl rfl HZ.out (by kernel_rfl)) rfl ?_
    exact DnPost.same HHV.out HUV.out (HR.out) HRd.out HBZ.out
end Go.Proofs.Ytaiknlnjahjeiaa
