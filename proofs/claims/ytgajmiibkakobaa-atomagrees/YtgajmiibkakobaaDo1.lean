import Derived.Test.YtgajmiibkakobaaDo0
import Derived.Deep.Cut
namespace Go.Proofs.Ytgajmiibkakobaa
open Go.RowKit Go.PlainAid Go.MapKept
set_option linter.unusedVariables false
set_option linter.unusedSimpArgs false
def DoerAt (L0 U : Nat) (hb0 : Option Nat) (n : List UInt8) (lim val held : Int) (H : List (Int × Int)) (fv : Value) (w : World) : Prop :=
  ∃ (K : Nat) (cs : Array Value), fv = .func (.func K) #[] cs ∧ (∀ args w, (callFunc K args).run Try.prog w = .ok (.enter K args) w) ∧ ∀ W, Since L0 hb0 w W → Calls Try.prog K cs W (DoPost L0 U hb0 n lim val held H W)
theorem Doer.at {L0 : Nat} {hb0 : Option Nat} {n : List UInt8} {lim val held : Int} {H : List (Int × Int)} {fv : Value} {w w' : World} (h : Doer L0 hb0 n lim val held H fv w) (hb : Below w.heap.size w w') (h2 : ∀ k, hb0 = some k → k < w.heap.size) : DoerAt L0 w.heap.size hb0 n lim val held H fv w' := by
  obtain ⟨K, cs, e1, e2, e3⟩ := h
  exact ⟨K, cs, e1, e2, fun W hs => e3 W ⟨Nat.le_trans hb.size hs.size, fun k h3 h4 => (hs.new k h3 (Nat.lt_of_lt_of_le h4 hb.size)).trans (hb.block k h4), fun k hk => (hs.hb k hk).trans (hb.block k (h2 k hk))⟩⟩
set_option maxRecDepth 100000 in
set_option maxHeartbeats 1600000 in
theorem carry_no {ab : Nat} (R : Out) (fv : Value) (w : World) (hr : R.1.2 ≠ 0) :
    Calls Try.prog 23 #[.pointer (some ⟨ab, 0, none⟩), .agg #[.int .i64 R.1.1, .int .i64 R.1.2, fv]] w fun e w' => e = .returned (.tuple #[]) ∧ Below w.heap.size w w' := by
  have hrb : (R.1.2 == 0) = false := by simpa using hr
  have HG : Hid (Below w.heap.size w (w.alloc (.cells #[.int .i64 R.1.1, .int .i64 R.1.2, fv] 62))) := (Below.refl _ _).alloc (Nat.le_refl _) _
  clear hr
  go_enter Try.func23, Try.ntmps23
  go_wp2_with fail
  refine bodyPost_ret (results_none rfl _ _ _) rfl ?_
  exact ⟨rfl, HG.out⟩
set_option maxRecDepth 100000 in
set_option maxHeartbeats 3200000 in
theorem carry_yes {ab mb L0 U : Nat} {L : List (List UInt8 × Ct)} {hb0 : Option Nat} {n : List UInt8} {lim val held : Int} {H : List (Int × Int)} (ans : Int) (fv : Value) (w : World) (h : AM ab mb L w) (hlo : AM.lo ab mb L0 L) (hL : L0 ≤ w.heap.size) (hD : DoerAt L0 U hb0 n lim val held H fv w) (hok : ∀ hb', (Ct.mk n lim val held (some hb') H).Ok) (h0 : ∀ k, hb0 = some k → ∃ c, (n, c) ∈ L ∧ c.hb = some k) :
    Calls Try.prog 23 #[.pointer (some ⟨ab, 0, none⟩), .agg #[.int .i64 ans, .int .i64 0, fv]] w fun e w' => e = .returned (.tuple #[]) ∧ (∃ hb', AM ab mb (Gm.putM n ⟨n, lim, val, held, some hb', H⟩ L) w' ∧ (hb0 = some hb' ∨ w.heap.size ≤ hb')) ∧ Chg (fun k => k = mb ∨ hb0 = some k ∨ L0 ≤ k ∧ k < U) w w' := by
  obtain ⟨K, cs, rfl, hE, hD⟩ := hD
  obtain ⟨db, hdb⟩ : ∃ b, b = w.heap.size := ⟨_, rfl⟩
  obtain ⟨X, hX⟩ : ∃ X, X = w.alloc (.cells #[.int .i64 ans, .int .i64 0, .func (.func K) #[] cs] 62) := ⟨_, rfl⟩
  have hbX : Below w.heap.size w X := by rw [hX]; exact (Below.refl _ _).alloc (Nat.le_refl _) _
  have BD : Hid (Blk X db #[.int .i64 ans, .int .i64 0, .func (.func K) #[] cs] 62) := show Blk X db #[.int .i64 ans, .int .i64 0, .func (.func K) #[] cs] 62 from by rw [hX, hdb]; exact heap_alloc_new w _
  have HD : Hid (Calls Try.prog K cs X (DoPost L0 U hb0 n lim val held H X)) := hD X (Since.below hbX (Nat.le_refl _) (fun k hk => by
    obtain ⟨c, hc, hcb⟩ := h0 k hk
    exact Nat.lt_of_lt_of_le (hlo.2.2 _ hc k hcb) hL))
  have HBX : Hid (Below w.heap.size w X) := hbX
  have HAM : Hid (AM ab mb L X) := h.more hbX
  have HLO : Hid (AM.lo ab mb L0 L) := hlo
  have HLS : Hid (L0 ≤ w.heap.size) := hL
  have HOK : Hid (∀ hb', (Ct.mk n lim val held (some hb') H).Ok) := hok
  have HH0 : Hid (∀ k, hb0 = some k → ∃ c, (n, c) ∈ L ∧ c.hb = some k) := h0
  have d1 : X.cell? ⟨db, 1, none⟩ = some (.int .i64 0) := BD.out.cell 1
  have d2 : X.cell? ⟨db, 2, none⟩ = some (.func (.func K) #[] cs) := BD.out.cell 2
  clear h hlo hL hD hok h0 hbX
  go_enter Try.func23, Try.ntmps23
  go_upto_region 1 with fail
  rw [← hX, ← hdb]
  clear hX hdb
  go_wp2_with fail
  refine Calls.mono (by simpa using HD.out) ?_
  rintro e9 V ⟨hb2, rfl, hI, hh, hc⟩
  simp only [ctV, Ct.cs]
  obtain ⟨cb, hcb⟩ : ∃ b, b = V.heap.size := ⟨_, rfl⟩
  obtain ⟨Y, hY⟩ : ∃ Y, Y = V.alloc (.cells #[.string ⟨n.toArray⟩, .int .i64 lim, .int .i64 val, .int .i64 held, .map (some hb2)] 67) := ⟨_, rfl⟩
  have hbY : Below V.heap.size V Y := by rw [hY]; exact (Below.refl _ _).alloc (Nat.le_refl _) _
  have YCB : Hid (Blk Y cb #[.string ⟨n.toArray⟩, .int .i64 lim, .int .i64 val, .int .i64 held, .map (some hb2)] 67) := show Blk Y cb #[.string ⟨n.toArray⟩, .int .i64 lim, .int .i64 val, .int .i64 held, .map (some hb2)] 67 from by rw [hY, hcb]; exact heap_alloc_new V _
  have hcY0 : Chg (fun k => hb0 = some k ∨ L0 ≤ k ∧ k < U) X Y := hc.trans (Chg.ofBelow (fun _ => False) hbY) (fun _ _ e => e.elim)
  have hcY : Chg (fun k => hb0 = some k ∨ L0 ≤ k) X Y := hcY0.mono (fun k _ e => e.imp id (fun e => e.1))
  have hIY : HI Y hb2 H := hI.same (hbY.block _ hI.lt)
  have hLX : L0 ≤ X.heap.size := Nat.le_trans HLS.out HBX.out.size
  have hhY : hb0 = some hb2 ∨ hb0 = none ∧ L0 ≤ hb2 := hh.imp id (fun e => ⟨e.1, Nat.le_trans hLX e.2⟩)
  have hnab : ¬ (hb0 = some ab ∨ L0 ≤ ab) := by
    rintro (e | e)
    · obtain ⟨c, hcm, hcb⟩ := HH0.out _ e
      obtain ⟨_, _, x, c1, dd, _⟩ := HAM.out.ct _ hcm
      have : x = ab := by simp only at c1; rw [hcb] at c1; exact (Option.some.inj c1).symm
      exact dd.ne_b HAM.out.box this.symm
    · have := HLO.out.1; omega
  have hnmb : ¬ (hb0 = some mb ∨ L0 ≤ mb) := by
    rintro (e | e)
    · obtain ⟨c, hcm, hcb⟩ := HH0.out _ e
      obtain ⟨_, _, x, c1, _, dd⟩ := HAM.out.ct _ hcm
      have : x = mb := by simp only at c1; rw [hcb] at c1; exact (Option.some.inj c1).symm
      exact dd this
    · have := HLO.out.2.1; omega
  have YAB : Hid (Blk Y ab #[.map (some mb)] 59) := hcY.blk HAM.out.box hnab
  have hmY : Gm.HMap MC Y mb L := HAM.out.map.same (hcY.block _ HAM.out.map.lt hnmb)
  have hmD : Gm.HMap MC Y.drew mb L := hmY.same rfl
  obtain ⟨Y2, hrun, hm2, hc2, hs2⟩ := hmD.putM n (Ct.mk n lim val held (some hb2) H)
  have HRUN : Hid ((Instr.mapUpdate 57 (.map (some mb)) (.string ⟨n.toArray⟩) (.agg #[.string ⟨n.toArray⟩, .int .i64 lim, .int .i64 val, .int .i64 held, .map (some hb2)])).run Try.prog ({ Y with drawn := Y.drawn + 1 } : World) = .ok () Y2) := hrun
  have hcD : Chg (fun k => k = mb) Y Y2 := ⟨hc2.os, hc2.tape, hc2.output, hc2.size, hc2.block⟩
  have HF : Hid (AM ab mb (Gm.putM n ⟨n, lim, val, held, some hb2, H⟩ L) Y2) := HAM.out.put HLO.out hLX (HOK.out hb2) hcY hIY hhY HH0.out hm2 hcD
  have HHB : Hid (hb0 = some hb2 ∨ w.heap.size ≤ hb2) := show _ ∨ _ from hh.imp id (fun e => Nat.le_trans HBX.out.size e.2)
  have HCF : Hid (Chg (fun k => k = mb ∨ hb0 = some k ∨ L0 ≤ k ∧ k < U) w Y2) := ((Chg.ofBelow _ HBX.out).trans hcY0 (fun k _ e => Or.inr e)).trans hcD (fun k _ e => Or.inl e)
  go_upto_region 3 with fail
  rw [← hY, ← hcb]
  clear hY hcb hbY hcY hcY0 hIY hhY hnab hnmb hmY hmD hrun hm2 hc2 hs2 hcD hI hh hc hLX d1 d2 HD hE
  go_wp2_with fail
  skip
  try rw [show ∀ a : Act, a.put none undef = a from fun _ => rfl]
  refine wp_region_mix (fun wq => Blk wq ab #[.map (some mb)] 59 ∧ Blk wq cb #[.string ⟨n.toArray⟩, .int .i64 lim, .int .i64 val, .int .i64 held, .map (some hb2)] 67 ∧ wq = Y.drew) (fun i => i == 7) 7 (by kernel_rfl) rfl (by kernel_rfl) (by kernel_rfl) (by kernel_rfl) ?_
  refine withFrP (N := 18) rfl ?_
  intro f0 F0 hff
  have ee0 : f0 0 = Value.pointer (some ⟨ab, 0, none⟩) := hff 0
  have ee4 : f0 4 = Value.pointer (some ⟨cb, 0, none⟩) := hff 4
  clear hff
  have HCC : (fun wq => Blk wq ab #[.map (some mb)] 59 ∧ Blk wq cb #[.string ⟨n.toArray⟩, .int .i64 lim, .int .i64 val, .int .i64 held, .map (some hb2)] 67 ∧ wq = Y.drew) (({ Y with drawn := Y.drawn + 1 } : World)) := ⟨YAB.out, YCB.out, rfl⟩
  refine lyp F0 rfl HCC rfl (by omega) (wanted_none rfl) (v := Value.pointer (some ⟨ab, 0, none⟩)) (fun wr hwr => by simp only [execOp, (F0.eval 0 (by omega)).trans (show _ = Value.pointer (some ⟨ab, 0, none⟩) from by simp [upd, ee0, ee4])]; first | rfl | simp [go_sem]) fun F1 => ?_
  refine lyp F1 rfl HCC rfl (by omega) (wanted_none rfl) (v := Value.pointer (some ⟨ab, 0, none⟩)) (fun wr hwr => by simp only [execOp, (F1.eval 11 (by omega)).trans (show _ = Value.pointer (some ⟨ab, 0, none⟩) from by simp [upd, ee0, ee4])]; simp [go_sem]) fun F2 => ?_
  refine lyp F2 rfl HCC rfl (by omega) (wanted_none rfl) (v := Value.pointer (some ⟨ab, 0, none⟩)) (fun wr hwr => by simp only [execOp, (F2.eval 12 (by omega)).trans (show _ = Value.pointer (some ⟨ab, 0, none⟩) from by simp [upd, ee0, ee4])]; simp [go_sem]) fun F3 => ?_
  refine lyp F3 rfl HCC rfl (by omega) (wanted_none rfl) (v := Value.map (some mb)) (fun wr hwr => by simp only [execOp, (F3.eval 13 (by omega)).trans (show _ = Value.pointer (some ⟨ab, 0, none⟩) from by simp [upd, ee0, ee4])]; simp [go_sem, show wr.cell? ⟨ab, 0, none⟩ = some (.map (some mb)) from hwr.1.cell 0]) fun F4 => ?_
  refine lyp F4 rfl HCC rfl (by omega) (wanted_none rfl) (v := Value.pointer (some ⟨cb, 0, none⟩)) (fun wr hwr => by simp only [execOp, (F4.eval 4 (by omega)).trans (show _ = Value.pointer (some ⟨cb, 0, none⟩) from by simp [upd, ee0, ee4])]; simp [go_sem]) fun F5 => ?_
  refine lyp F5 rfl HCC rfl (by omega) (wanted_none rfl) (v := Value.string ⟨n.toArray⟩) (fun wr hwr => by simp only [execOp, (F5.eval 15 (by omega)).trans (show _ = Value.pointer (some ⟨cb, 0, none⟩) from by simp [upd, ee0, ee4])]; simp [go_sem, show wr.cell? ⟨cb, 0, none⟩ = some (.string ⟨n.toArray⟩) from hwr.2.1.cell 0]) fun F6 => ?_
  refine lyp F6 rfl HCC rfl (by omega) (wanted_none rfl) (v := Value.agg #[.string ⟨n.toArray⟩, .int .i64 lim, .int .i64 val, .int .i64 held, .map (some hb2)]) (fun wr hwr => by simp only [execOp, (F6.eval 4 (by omega)).trans (show _ = Value.pointer (some ⟨cb, 0, none⟩) from by simp [upd, ee0, ee4])]; simp [go_sem, show wr.cell? ⟨cb, 0, none⟩ = some (.string ⟨n.toArray⟩) from hwr.2.1.cell 0, show wr.cell? ⟨cb, 1, none⟩ = some (.int .i64 lim) from hwr.2.1.cell 1, show wr.cell? ⟨cb, 2, none⟩ = some (.int .i64 val) from hwr.2.1.cell 2, show wr.cell? ⟨cb, 3, none⟩ = some (.int .i64 held) from hwr.2.1.cell 3, show wr.cell? ⟨cb, 4, none⟩ = some (.map (some hb2)) from hwr.2.1.cell 4]) fun F7 => ?_
  refine lst rfl HCC rfl (wanted_none rfl) (w1 := Y2) (by simp only [execOp, (F7.eval 14 (by omega)).trans (show _ = Value.map (some mb) from by simp [upd, ee0, ee4]), (F7.eval 16 (by omega)).trans (show _ = Value.string ⟨n.toArray⟩ from by simp [upd, ee0, ee4]), (F7.eval 17 (by omega)).trans (show _ = Value.agg #[.string ⟨n.toArray⟩, .int .i64 lim, .int .i64 val, .int .i64 held, .map (some hb2)] from by simp [upd, ee0, ee4])]; simp only [Sem.run_bind, Sem.run_pure, Result.andThen_ok, HRUN.out]; try rfl) ?_
  refine ⟨(fun h => absurd h (by decide)), ?_⟩
  skip
  clear F0 F1 F2 F3 F4 F5 F6 F7 ee0 ee4 HCC
  simp only [Act.put, List.setIfInBounds_toArray, List.set_cons_succ, List.set_cons_zero]
  first | go_end0 | go_ret | (go_wp2_with fail; first | go_end0 | go_ret)
  exact ⟨rfl, ⟨hb2, HF.out, HHB.out⟩, HCF.out⟩
end Go.Proofs.Ytgajmiibkakobaa
