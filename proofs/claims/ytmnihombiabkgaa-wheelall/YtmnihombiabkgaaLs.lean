import Derived.Test.YtmnihombiabkgaaLs0
namespace Go.Proofs.Ytmnihombiabkgaa
open Go.RowKit Go.PlainAid Go.MapKept
set_option linter.unusedVariables false
set_option linter.unusedSimpArgs false
theorem slice_arr (w : World) (g n : Nat) (hn : n ≤ 64) : (Instr.sliceAt 46 (.pointer (some ⟨g, 0, none⟩)) none (some (.int .i64 (n : Int))) none).run Try.prog w = .ok (.slice (some ⟨g, 0, none⟩) n 64) w := by
  have hi : ∃ i, Try.prog.info? 33 = some i ∧ i.size = 1 := by
    have hs := isz33
    cases h : Try.prog.info? 33 with
    | none => rw [h] at hs; cases hs
    | some i => rw [h] at hs; exact ⟨i, rfl, by simpa using hs⟩
  obtain ⟨i, hi, hz⟩ := hi
  simp only [Instr.sliceAt, Sem.run_bind, Sem.run_pure, Result.andThen_ok, run_underlying Try.underlying46, sizeOf, typeInfo]
  simp [hi, hz, addr_add, Instr.sureAddr, go_sem, Instr.sliceBounds, Instr.sliceBound, asIntOf, hn]
  try omega
set_option maxRecDepth 100000 in
set_option maxHeartbeats 1600000 in
theorem list_nil {base whb mp : Nat} {u now last : Int} {vs : List Value} (w : World) (h : WL base whb mp u vs now last [] [] w) (hu : 1 ≤ u ∧ u ≤ 64) :
    Calls Try.prog 16 #[.pointer (some ⟨whb, 0, none⟩)] w fun e w' => ∃ ao cap, e = .returned (.slice ao 0 cap) ∧ Below w.heap.size w w' := by
  obtain ⟨n, hn⟩ : ∃ n : Nat, u = (n : Int) := ⟨u.toNat, by omega⟩
  subst hn
  have hn64 : n ≤ 64 := by omega
  have c64 := h.c64
  have HCE : Hid (∀ i, i < n → ∃ v, w.cell? ⟨whb, i, none⟩ = some v ∧ w.ownsRow base 50 4 v 0 []) := fun i hi => by
    obtain ⟨v, hv⟩ := h.get (show i < 64 by omega)
    exact ⟨v, (h.cs (by omega)).trans hv, h.r i v hv⟩
  clear h hu
  go_enter Try.func16, Try.ntmps16
  go_wp2_with fail
  rename_i K hK
  try rw [show ∀ a : Act, a.put none undef = a from fun _ => rfl]
  refine wp_region_mix (fun wz => wz.cell? ⟨whb, 64, none⟩ = some (.int .i64 ((n : Nat) : Int))) (fun i => i == 8 || i == 99) 99 (by kernel_rfl) rfl (by kernel_rfl) (by kernel_rfl) (by kernel_rfl) ?_
  refine withFrP (N := 16) rfl ?_
  intro f0 F0 hff
  have e0 : f0 0 = Value.pointer (some ⟨whb, 0, none⟩) := hff 0
  clear hff
  have HCC : (fun wz => wz.cell? ⟨whb, 64, none⟩ = some (.int .i64 ((n : Nat) : Int))) (({ w with drawn := w.drawn + 1 } : World)) := c64
  have HCN : Hid _ := concat_nil (vs := vs) (base := base) (whb := whb) (n := n) ({ w with drawn := w.drawn + 1 } : World) hn64 (fun i hi => HCE.out i hi)
  refine lyp F0 rfl HCC rfl (by omega) (wanted_none rfl) (v := Value.pointer (some ⟨whb, 0, none⟩)) (fun wr hwr => by simp only [execOp, (F0.eval 0 (by omega)).trans (show _ = Value.pointer (some ⟨whb, 0, none⟩) from by simp [upd, e0])]; first | rfl | simp [go_sem]) fun Fp1 => ?_
  refine lyp Fp1 rfl HCC rfl (by omega) (wanted_none rfl) (v := Value.pointer (some ⟨whb, 0, none⟩)) (fun wr hwr => by simp only [execOp, (Fp1.eval 4 (by omega)).trans (show _ = Value.pointer (some ⟨whb, 0, none⟩) from by simp [upd, e0])]; simp [go_sem]) fun Fp2 => ?_
  refine lyp Fp2 rfl HCC rfl (by omega) (wanted_none rfl) (v := Value.pointer (some ⟨whb, 0, none⟩)) (fun wr hwr => by simp only [execOp, (Fp2.eval 5 (by omega)).trans (show _ = Value.pointer (some ⟨whb, 0, none⟩) from by simp [upd, e0])]; simp [go_sem]) fun Fp3 => ?_
  refine lyp Fp3 rfl HCC rfl (by omega) (wanted_none rfl) (v := Value.pointer (some ⟨whb, 0, none⟩)) (fun wr hwr => by simp only [execOp, (Fp3.eval 0 (by omega)).trans (show _ = Value.pointer (some ⟨whb, 0, none⟩) from by simp [upd, e0])]; first | rfl | simp [go_sem]) fun Fp4 => ?_
  refine lyp Fp4 rfl HCC rfl (by omega) (wanted_none rfl) (v := Value.pointer (some ⟨whb, 0, none⟩)) (fun wr hwr => by simp only [execOp, (Fp4.eval 7 (by omega)).trans (show _ = Value.pointer (some ⟨whb, 0, none⟩) from by simp [upd, e0])]; simp [go_sem]) fun Fp5 => ?_
  refine lyp Fp5 rfl HCC rfl (by omega) (wanted_none rfl) (v := Value.pointer (some ⟨whb, 64, none⟩)) (fun wr hwr => by simp only [execOp, (Fp5.eval 8 (by omega)).trans (show _ = Value.pointer (some ⟨whb, 0, none⟩) from by simp [upd, e0])]; simp [go_sem]) fun Fp6 => ?_
  refine lyp Fp6 rfl HCC rfl (by omega) (wanted_none rfl) (v := Value.int .i64 ((n : Nat) : Int)) (fun wr hwr => by simp only [execOp, (Fp6.eval 9 (by omega)).trans (show _ = Value.pointer (some ⟨whb, 64, none⟩) from by simp [upd, e0])]; simp [go_sem, hwr]) fun Fp7 => ?_
  refine lyp Fp7 rfl HCC rfl (by omega) (wanted_none rfl) (v := Value.slice (some ⟨whb, 0, none⟩) n 64) (fun wr hwr => by simp only [execOp, Option.map_some, Option.map_none, (Fp7.eval 6 (by omega)).trans (show _ = Value.pointer (some ⟨whb, 0, none⟩) from by simp [upd, e0]), (Fp7.eval 10 (by omega)).trans (show _ = Value.int .i64 ((n : Nat) : Int) from by simp [upd, e0])]; simp only [Sem.run_bind, Sem.run_pure, Result.andThen_ok, slice_arr wr whb n hn64]; try rfl) fun Fp8 => ?_
  refine lcp Fp8 rfl HCC rfl (by omega) (wanted_none rfl) (g := 24) (args := #[Value.slice (some ⟨whb, 0, none⟩) n 64]) (by simp only [execOp, resolve, invoke, List.map_toArray, List.map_cons, List.map_nil, (Fp8.eval 11 (by omega)).trans (show _ = Value.slice (some ⟨whb, 0, none⟩) n 64 from by simp [upd, e0])]; simp [go_sem, Act.eval]) HCN.out ?_
  rintro e w4 ⟨ao, cap, rfl, hb4⟩
  refine ⟨_, rfl, fun Fp9 => ?_⟩
  have HB4 : Hid (Below w.heap.size w w4) := show Below w.heap.size w w4 from (Below.drew (Below.refl w.heap.size w)).trans hb4
  have HC6 : (fun wz => wz.cell? ⟨whb, 64, none⟩ = some (.int .i64 ((n : Nat) : Int))) w4 := (HB4.out.cell (p := ⟨whb, 64, none⟩) (World.block_lt_of_cell? w _ c64)).trans c64
  clear hb4
  refine lyp Fp9 rfl HC6 rfl (by omega) (wanted_none rfl) (v := Value.slice ao 0 cap) (fun wr hwr => by simp only [execOp, (Fp9.eval 12 (by omega)).trans (show _ = Value.slice ao 0 cap from by simp [upd, e0])]; first | rfl | simp [go_sem]) fun Fp10 => ?_
  refine ⟨fun _ => HC6, ?_⟩
  refine hK _ _ ?_
  clear F0 Fp1 Fp2 Fp3 Fp4 Fp5 Fp6 Fp7 Fp8 Fp9 Fp10 e0 HCC HC6 HCN
  simp only [Act.put, List.setIfInBounds_toArray, List.set_cons_succ, List.set_cons_zero]
  clear c64 HCE
  go_wp2_with fail
  refine Calls.mono (sort_none ao cap _ _) ?_
  rintro e w5 ⟨rfl, hw5⟩
  subst hw5
  go_wp2_with fail
  go_ret
  exact ⟨_, _, rfl, HB4.out⟩
end Go.Proofs.Ytmnihombiabkgaa
