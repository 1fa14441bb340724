import Derived.Test.YtmnihombiabkgaaNw
import Derived.Test.YtmnihombiabkgaaMix2
import Derived.Deep.Cut
namespace Go.Proofs.Ytmnihombiabkgaa
open Go.RowKit Go.PlainAid Go.MapKept
set_option linter.unusedVariables false
set_option linter.unusedSimpArgs false
def dl (d : Int) : Int := min (max d 1) 1099511627776
theorem dl_bd (d : Int) : 1 ≤ dl d ∧ dl d ≤ 1099511627776 := by unfold dl; omega
def WStp (whb mp : Nat) (vs vs' : List Value) (w w' : World) : Prop := Chg (wown whb mp vs) w w' ∧ ∀ k, wown whb mp vs' k → wown whb mp vs k ∨ w.heap.size ≤ k
theorem iu46 : Try.prog.underlying 46 = some (.array 64 33) := Try.underlying46
theorem idx_arr (w : World) (g p : Nat) (hp : p < 64) : (Instr.indexAt 46 (.pointer (some ⟨g, 0, none⟩)) (.int .i64 (p : Int))).run Try.prog w = .ok (.pointer (some ⟨g, p, none⟩)) w := by
  have hlt : (0 : Int) ≤ (p : Int) ∧ (p : Int) < ((64 : Nat) : Int) := by omega
  have hi : ∃ i, Try.prog.info? 33 = some i ∧ i.size = 1 := by
    have hs := isz33
    cases h : Try.prog.info? 33 with
    | none => rw [h] at hs; cases hs
    | some i => rw [h] at hs; exact ⟨i, rfl, by simpa using hs⟩
  obtain ⟨i, hi, hz⟩ := hi
  simp only [Instr.indexAt, asIntOf, Sem.run_bind, Sem.run_pure, Result.andThen_ok, run_underlying Try.underlying46, sizeOf, typeInfo, if_pos hlt]
  simp [hi, hz, addr_add, Instr.sureAddr, go_sem]
set_option maxRecDepth 100000 in
set_option maxHeartbeats 3200000 in
theorem arm_any {base whb mp : Nat} {u now last : Int} {vs : List Value} {A : List Tm} (d k i : Int) (w : World) (h : WL base whb mp u vs now last A (A.map (kvT u)) w) (hB : WB u now last A) (hl : last < 1000000) :
    Calls Try.prog 12 #[.pointer (some ⟨whb, 0, none⟩), .int .i64 d, .int .i64 k, .int .i64 i] w fun e w' => e = .returned (.int .i64 (last + 1)) ∧ ∃ vs', WL base whb mp u vs' now (last + 1) (A ++ [(⟨now + dl d, last + 1, k, i⟩ : Tm)]) ((A ++ [(⟨now + dl d, last + 1, k, i⟩ : Tm)]).map (kvT u)) w' ∧ WStp whb mp vs vs' w w' := by
  obtain ⟨hu1, hu2⟩ := hB.hu
  obtain ⟨hw1, hw2⟩ := hB.hw
  obtain ⟨hl1, hl2⟩ := hB.hl
  obtain ⟨t, ht⟩ : ∃ t : Tm, t = ⟨now + dl d, last + 1, k, i⟩ := ⟨_, rfl⟩
  have hd := dl_bd d
  obtain ⟨q, hq⟩ : ∃ q, q = dl d := ⟨_, rfl⟩
  have hq' : min (max d 1) 1099511627776 = q := hq.symm
  rw [← hq] at hd ht ⊢
  obtain ⟨p, hp⟩ : ∃ p, p = pl u t := ⟨_, rfl⟩
  have hp64 : p < 64 := by rw [hp]; exact pl_lt t hu1 hu2
  have hpi : ((p : Nat) : Int) = (now + q) % u := by rw [hp, pl_int t hu1, ht]
  have htm : (now + q).tmod u = ((p : Nat) : Int) := by rw [Int.tmod_eq_emod_of_nonneg (by omega), hpi]
  have hu0 : u ≠ 0 := by omega
  have c67 := h.c67
  have f67 : w.frozen? ⟨whb, 67, none⟩ = false := h.b.frozen 67
  have HNN : Hid (∀ x ∈ A.map (kvT u), last + 1 ≠ x.1) := fun x hx e => by
    obtain ⟨y, hy, rfl⟩ := List.mem_map.1 hx
    have := (hB.num y hy).2
    simp only [kvT] at e
    omega
  have hX := h.setLast (last + 1)
  have HX : Hid (WL base whb mp u vs now (last + 1) A (A.map (kvT u)) (w.setCell ⟨whb, 67, none⟩ (.int .i64 (last + 1)))) := hX
  have HCX : Hid (Chg (fun k => k = whb) w (w.setCell ⟨whb, 67, none⟩ (.int .i64 (last + 1)))) := setCell_chg _ _ _ _
  have HT : Hid (t = ⟨now + q, last + 1, k, i⟩) := ht
  have HP : Hid (p = pl u t) := hp
  rw [← ht]
  have HPI : Hid (((p : Nat) : Int) = (now + q) % u) := hpi
  have HNL : Hid ((slotOf u A p).length ≤ 1000000) := by
    have h1 := hB.len
    have h2 : (slotOf u A p).length ≤ A.length := List.length_filter_le _ _
    show _ ≤ _
    omega
  have HBS : Hid (base ≤ w.heap.size) := show base ≤ w.heap.size from Nat.le_of_lt (Nat.lt_of_le_of_lt h.lo.1 h.b.lt)
  clear h hB hX ht hp hq hpi
  go_enter Try.func12, Try.ntmps12
  go_upto_region 2 with fail
  generalize w.setCell ⟨whb, 67, none⟩ (.int .i64 (last + 1)) = X at *
  clear c67 f67
  have c64 := HX.out.c64
  have c66 := HX.out.c66
  have c67 := HX.out.c67
  go_upto_region 4 with fail
  rename_i K hK
  rw [show (if (1099511627776 : Int) < if d < 1 then 1 else d then (1099511627776 : Int) else if d < 1 then 1 else d) = q from by rw [← hq']; split <;> split <;> omega]
  generalize (if d < 1 then (1 : Int) else d) = q1
  rw [← HPI.out]
  obtain ⟨v, hv⟩ := HX.out.get hp64
  have cp : X.cell? ⟨whb, p, none⟩ = some v := (HX.out.cs hp64).trans hv
  obtain ⟨aos, caps, hvs, hcs⟩ := own_slice (HX.out.r p v hv)
  obtain ⟨ns, hns⟩ : ∃ ns, ns = (slotOf u A p).length := ⟨_, rfl⟩
  rw [← hns] at hvs hcs
  subst hvs
  have HV : Hid (vs[p]? = some (.slice aos ns caps)) := hv
  have HNS : Hid (ns = (slotOf u A p).length) := hns
  clear hv hns hq' htm hu0
  try rw [show ∀ a : Act, a.put none undef = a from fun _ => rfl]
  refine wp_region_mix (fun wz => wz.cell? ⟨whb, p, none⟩ = some (.slice aos ns caps) ∧ wz.cell? ⟨whb, 67, none⟩ = some (.int .i64 (last + 1))) (fun i => i == 16 || i == 17 || i == 21) 21 (by kernel_rfl) rfl (by kernel_rfl) (by kernel_rfl) (by kernel_rfl) ?_
  refine withFrP (N := 66) rfl ?_
  intro f0 F0 hff
  have e0 : f0 0 = Value.pointer (some ⟨whb, 0, none⟩) := hff 0
  have e2 : f0 2 = Value.int .i64 k := hff 2
  have e3 : f0 3 = Value.int .i64 i := hff 3
  have e9 : f0 9 = Value.int .i64 (now + q) := hff 9
  have e10 : f0 10 = Value.int .i64 ((p : Nat) : Int) := hff 10
  clear hff
  have HCC : (fun wz => wz.cell? ⟨whb, p, none⟩ = some (.slice aos ns caps) ∧ wz.cell? ⟨whb, 67, none⟩ = some (.int .i64 (last + 1))) (({ X with drawn := X.drawn + 1 } : World)) := ⟨cp, c67⟩
  refine lyp F0 rfl HCC rfl (by omega) (wanted_none rfl) (v := Value.pointer (some ⟨whb, 0, none⟩)) (fun wr hwr => by simp only [execOp, (F0.eval 0 (by omega)).trans (show _ = Value.pointer (some ⟨whb, 0, none⟩) from by simp [upd, e0, e2, e3, e9, e10])]; first | rfl | simp [go_sem]) fun Fp1 => ?_
  refine lyp Fp1 rfl HCC rfl (by omega) (wanted_none rfl) (v := Value.int .i64 ((p : Nat) : Int)) (fun wr hwr => by simp only [execOp, (Fp1.eval 10 (by omega)).trans (show _ = Value.int .i64 ((p : Nat) : Int) from by simp [upd, e0, e2, e3, e9, e10])]; first | rfl | simp [go_sem]) fun Fp2 => ?_
  refine lyp Fp2 rfl HCC rfl (by omega) (wanted_none rfl) (v := Value.pointer (some ⟨whb, 0, none⟩)) (fun wr hwr => by simp only [execOp, (Fp2.eval 0 (by omega)).trans (show _ = Value.pointer (some ⟨whb, 0, none⟩) from by simp [upd, e0, e2, e3, e9, e10])]; first | rfl | simp [go_sem]) fun Fp3 => ?_
  refine lyp Fp3 rfl HCC rfl (by omega) (wanted_none rfl) (v := Value.int .i64 ((p : Nat) : Int)) (fun wr hwr => by simp only [execOp, (Fp3.eval 10 (by omega)).trans (show _ = Value.int .i64 ((p : Nat) : Int) from by simp [upd, e0, e2, e3, e9, e10])]; first | rfl | simp [go_sem]) fun Fp4 => ?_
  refine lyp Fp4 rfl HCC rfl (by omega) (wanted_none rfl) (v := Value.pointer (some ⟨whb, 0, none⟩)) (fun wr hwr => by simp only [execOp, (Fp4.eval 34 (by omega)).trans (show _ = Value.pointer (some ⟨whb, 0, none⟩) from by simp [upd, e0, e2, e3, e9, e10])]; simp [go_sem]) fun Fp5 => ?_
  refine lyp Fp5 rfl HCC rfl (by omega) (wanted_none rfl) (v := Value.pointer (some ⟨whb, 0, none⟩)) (fun wr hwr => by simp only [execOp, (Fp5.eval 36 (by omega)).trans (show _ = Value.pointer (some ⟨whb, 0, none⟩) from by simp [upd, e0, e2, e3, e9, e10])]; simp [go_sem]) fun Fp6 => ?_
  refine lyp Fp6 rfl HCC rfl (by omega) (wanted_none rfl) (v := Value.pointer (some ⟨whb, p, none⟩)) (fun wr hwr => by simp only [execOp, (Fp6.eval 37 (by omega)).trans (show _ = Value.pointer (some ⟨whb, 0, none⟩) from by simp [upd, e0, e2, e3, e9, e10]), (Fp6.eval 35 (by omega)).trans (show _ = Value.int .i64 ((p : Nat) : Int) from by simp [upd, e0, e2, e3, e9, e10])]; simp only [Sem.run_bind, Sem.run_pure, Result.andThen_ok, idx_arr wr whb p hp64]; try rfl) fun Fp7 => ?_
  refine lyp Fp7 rfl HCC rfl (by omega) (wanted_none rfl) (v := Value.slice aos ns caps) (fun wr hwr => by simp only [execOp, (Fp7.eval 38 (by omega)).trans (show _ = Value.pointer (some ⟨whb, p, none⟩) from by simp [upd, e0, e2, e3, e9, e10])]; simp [go_sem, hwr.1]) fun Fp8 => ?_
  refine lyp Fp8 rfl HCC rfl (by omega) (wanted_none rfl) (v := Value.int .i64 (now + q)) (fun wr hwr => by simp only [execOp, (Fp8.eval 9 (by omega)).trans (show _ = Value.int .i64 (now + q) from by simp [upd, e0, e2, e3, e9, e10])]; first | rfl | simp [go_sem]) fun Fp9 => ?_
  refine lyp Fp9 rfl HCC rfl (by omega) (wanted_none rfl) (v := Value.pointer (some ⟨whb, 0, none⟩)) (fun wr hwr => by simp only [execOp, (Fp9.eval 0 (by omega)).trans (show _ = Value.pointer (some ⟨whb, 0, none⟩) from by simp [upd, e0, e2, e3, e9, e10])]; first | rfl | simp [go_sem]) fun Fp10 => ?_
  refine lyp Fp10 rfl HCC rfl (by omega) (wanted_none rfl) (v := Value.pointer (some ⟨whb, 0, none⟩)) (fun wr hwr => by simp only [execOp, (Fp10.eval 41 (by omega)).trans (show _ = Value.pointer (some ⟨whb, 0, none⟩) from by simp [upd, e0, e2, e3, e9, e10])]; simp [go_sem]) fun Fp11 => ?_
  refine lyp Fp11 rfl HCC rfl (by omega) (wanted_none rfl) (v := Value.pointer (some ⟨whb, 67, none⟩)) (fun wr hwr => by simp only [execOp, (Fp11.eval 42 (by omega)).trans (show _ = Value.pointer (some ⟨whb, 0, none⟩) from by simp [upd, e0, e2, e3, e9, e10])]; simp [go_sem]) fun Fp12 => ?_
  refine lyp Fp12 rfl HCC rfl (by omega) (wanted_none rfl) (v := Value.int .i64 (last + 1)) (fun wr hwr => by simp only [execOp, (Fp12.eval 43 (by omega)).trans (show _ = Value.pointer (some ⟨whb, 67, none⟩) from by simp [upd, e0, e2, e3, e9, e10])]; simp [go_sem, hwr.2]) fun Fp13 => ?_
  refine lyp Fp13 rfl HCC rfl (by omega) (wanted_none rfl) (v := Value.int .i64 k) (fun wr hwr => by simp only [execOp, (Fp13.eval 2 (by omega)).trans (show _ = Value.int .i64 k from by simp [upd, e0, e2, e3, e9, e10])]; first | rfl | simp [go_sem]) fun Fp14 => ?_
  refine lyp Fp14 rfl HCC rfl (by omega) (wanted_none rfl) (v := Value.int .i64 i) (fun wr hwr => by simp only [execOp, (Fp14.eval 3 (by omega)).trans (show _ = Value.int .i64 i from by simp [upd, e0, e2, e3, e9, e10])]; first | rfl | simp [go_sem]) fun Fp15 => ?_
  refine lyp Fp15 rfl HCC rfl (by omega) (wanted_none rfl) (v := Value.agg #[.int .i64 (now + q), .int .i64 (last + 1), .int .i64 k, .int .i64 i]) (fun wr hwr => by simp only [execOp, List.map_toArray, List.map_cons, List.map_nil, (Fp15.eval 40 (by omega)).trans (show _ = Value.int .i64 (now + q) from by simp [upd, e0, e2, e3, e9, e10]), (Fp15.eval 44 (by omega)).trans (show _ = Value.int .i64 (last + 1) from by simp [upd, e0, e2, e3, e9, e10]), (Fp15.eval 45 (by omega)).trans (show _ = Value.int .i64 k from by simp [upd, e0, e2, e3, e9, e10]), (Fp15.eval 46 (by omega)).trans (show _ = Value.int .i64 i from by simp [upd, e0, e2, e3, e9, e10])]; simp [go_sem]) fun Fp16 => ?_
  have hal : Below X.heap.size X (({ X with drawn := X.drawn + 1 } : World).alloc (.cells #[.int .i64 (now + q), .int .i64 (last + 1), .int .i64 k, .int .i64 i] 50)) := (Below.drew (Below.refl X.heap.size X)).alloc (Nat.le_refl _) _
  refine lep Fp16 rfl HCC rfl (by omega) (wanted_none rfl) (v := Value.slice (some ⟨X.heap.size, 0, none⟩) 1 1) (w1 := (({ X with drawn := X.drawn + 1 } : World).alloc (.cells #[.int .i64 (now + q), .int .i64 (last + 1), .int .i64 k, .int .i64 i] 50))) (by simp only [execOp, List.map_toArray, List.map_cons, List.map_nil, (Fp16.eval 47 (by omega)).trans (show _ = Value.agg #[.int .i64 (now + q), .int .i64 (last + 1), .int .i64 k, .int .i64 i] from by simp [upd, e0, e2, e3, e9, e10])]; simp [go_sem]) fun Fp17 => ?_
  have HYW : Hid (WL base whb mp u vs now (last + 1) A (A.map (kvT u)) (({ X with drawn := X.drawn + 1 } : World).alloc (.cells #[.int .i64 (now + q), .int .i64 (last + 1), .int .i64 k, .int .i64 i] 50))) := HX.out.more hal
  have HC2 : (fun wz => wz.cell? ⟨whb, p, none⟩ = some (.slice aos ns caps) ∧ wz.cell? ⟨whb, 67, none⟩ = some (.int .i64 (last + 1))) (({ X with drawn := X.drawn + 1 } : World).alloc (.cells #[.int .i64 (now + q), .int .i64 (last + 1), .int .i64 k, .int .i64 i] 50)) := ⟨(HYW.out.cs hp64).trans HV.out, HYW.out.c67⟩
  have rf := HYW.out.r p _ HV.out
  rw [← HNS.out] at rf
  obtain ⟨v6, w6, hr6, ho6, hg6, hin6⟩ := app_any (w := (({ X with drawn := X.drawn + 1 } : World).alloc (.cells #[.int .i64 (now + q), .int .i64 (last + 1), .int .i64 k, .int .i64 i] 50))) 33 50 (.agg #[.int .i64 0, .int .i64 0, .int .i64 0, .int .i64 0]) 4 32 Try.underlying33 info50 rfl (by decide) (by decide) rf ⟨X.heap.size, 0, none⟩ 1 1 [.int .i64 (now + q), .int .i64 (last + 1), .int .i64 k, .int .i64 i] rfl (fun j uu hu => by
    have hB : Blk (({ X with drawn := X.drawn + 1 } : World).alloc (.cells #[.int .i64 (now + q), .int .i64 (last + 1), .int .i64 k, .int .i64 i] 50)) X.heap.size #[.int .i64 (now + q), .int .i64 (last + 1), .int .i64 k, .int .i64 i] 50 := heap_alloc_new ({ X with drawn := X.drawn + 1 } : World) _
    rw [addr_add, Nat.zero_add, hB.cell j]
    simpa using hu) (fun uu hu => by simp at hu; rcases hu with rfl | rfl | rfl | rfl <;> rfl) (by have := HNL.out; have := HNS.out; omega) (Nat.le_trans (Nat.le_trans HBS.out HCX.out.size) hal.size) 33
  obtain ⟨ao6, cap6, hv6, _⟩ := own_slice ho6
  subst hv6
  have hB6 : Blk w6 whb (wbox vs u mp now (last + 1)) 48 := hg6.chg.blk HYW.out.b (fun e => (HYW.out.slot_ne HV.out e).1 rfl)
  have HC6 : (fun wz => wz.cell? ⟨whb, p, none⟩ = some (.slice aos ns caps) ∧ wz.cell? ⟨whb, 67, none⟩ = some (.int .i64 (last + 1))) w6 := ⟨(hB6.cell p).trans ((wbox_slot HYW.out.n hp64).trans HV.out), (hB6.cell 67).trans (wbox_at HYW.out.n 3)⟩
  refine lep Fp17 rfl HC2 rfl (by omega) (wanted_none rfl) (v := Value.slice ao6 (ns + 1) cap6) (w1 := w6) (by simp only [execOp, resolve, invoke, builtin, List.map_toArray, List.map_cons, List.map_nil, (Fp17.eval 39 (by omega)).trans (show _ = Value.slice aos ns caps from by simp [upd, e0, e2, e3, e9, e10]), (Fp17.eval 48 (by omega)).trans (show _ = Value.slice (some ⟨X.heap.size, 0, none⟩) 1 1 from by simp [upd, e0, e2, e3, e9, e10])]; simp only [Sem.run_bind, Sem.run_pure, Result.andThen_ok, hr6]; try rfl) fun Fp18 => ?_
  refine lyp Fp18 rfl HC6 rfl (by omega) (wanted_none rfl) (v := Value.pointer (some ⟨whb, 0, none⟩)) (fun wr hwr => by simp only [execOp, (Fp18.eval 32 (by omega)).trans (show _ = Value.pointer (some ⟨whb, 0, none⟩) from by simp [upd, e0, e2, e3, e9, e10])]; simp [go_sem]) fun Fp19 => ?_
  refine lyp Fp19 rfl HC6 rfl (by omega) (wanted_none rfl) (v := Value.pointer (some ⟨whb, 0, none⟩)) (fun wr hwr => by simp only [execOp, (Fp19.eval 50 (by omega)).trans (show _ = Value.pointer (some ⟨whb, 0, none⟩) from by simp [upd, e0, e2, e3, e9, e10])]; simp [go_sem]) fun Fp20 => ?_
  refine lyp Fp20 rfl HC6 rfl (by omega) (wanted_none rfl) (v := Value.pointer (some ⟨whb, p, none⟩)) (fun wr hwr => by simp only [execOp, (Fp20.eval 51 (by omega)).trans (show _ = Value.pointer (some ⟨whb, 0, none⟩) from by simp [upd, e0, e2, e3, e9, e10]), (Fp20.eval 33 (by omega)).trans (show _ = Value.int .i64 ((p : Nat) : Int) from by simp [upd, e0, e2, e3, e9, e10])]; simp only [Sem.run_bind, Sem.run_pure, Result.andThen_ok, idx_arr wr whb p hp64]; try rfl) fun Fp21 => ?_
  refine lst rfl HC6 rfl (wanted_none rfl) (w1 := w6.setCell ⟨whb, p, none⟩ (.slice ao6 (ns + 1) cap6)) (by simp only [execOp, (Fp21.eval 52 (by omega)).trans (show _ = Value.pointer (some ⟨whb, p, none⟩) from by simp [upd, e0, e2, e3, e9, e10]), (Fp21.eval 49 (by omega)).trans (show _ = Value.slice ao6 (ns + 1) cap6 from by simp [upd, e0, e2, e3, e9, e10])]; simp [go_sem, hB6.frozen p, HC6.1]) ?_
  refine ⟨fun h => by omega, ?_⟩
  refine hK _ _ ?_
  clear F0 Fp1 Fp2 Fp3 Fp4 Fp5 Fp6 Fp7 Fp8 Fp9 Fp10 Fp11 Fp12 Fp13 Fp14 Fp15 Fp16 Fp17 Fp18 Fp19 Fp20 Fp21 e0 e2 e3 e9 e10 HCC HC2
  simp only [Act.put, List.setIfInBounds_toArray, List.set_cons_succ, List.set_cons_zero]
  have hsl : slotOf u (A ++ [t]) p = slotOf u A p ++ [t] := by rw [slot_push, if_pos HP.out.symm]
  have hlen6 : (slotOf u (A ++ [t]) p).length = ns + 1 := by rw [hsl]; simp; have := HNS.out; omega
  have hfl6 : flatT (slotOf u (A ++ [t]) p) = flatT (slotOf u A p) ++ [.int .i64 (now + q), .int .i64 (last + 1), .int .i64 k, .int .i64 i] := by rw [hsl, flatT_app, HT.out]; simp [flatT, Tm.row]
  have hY : WL base whb mp u (vs.set p (.slice ao6 (ns + 1) cap6)) now (last + 1) (A ++ [t]) (A.map (kvT u)) (w6.setCell ⟨whb, p, none⟩ (.slice ao6 (ns + 1) cap6)) :=
    HYW.out.setSlot hp64 HV.out hg6.chg (by rw [hlen6, hfl6]; exact ho6) hg6.at' (fun q hq => by rw [slot_push, if_neg (fun e => hq (e.symm.trans HP.out.symm))])
  have HWO : Hid (∀ k, wown whb mp (vs.set p (.slice ao6 (ns + 1) cap6)) k → wown whb mp vs k ∨ w.heap.size ≤ k) := fun k hk => by
    rcases wown_set HV.out hg6.at' hk with h | h
    · exact Or.inl h
    · exact Or.inr (Nat.le_trans (Nat.le_trans HCX.out.size hal.size) h)
  have HCY : Hid (Chg (wown whb mp vs) w (w6.setCell ⟨whb, p, none⟩ (.slice ao6 (ns + 1) cap6))) := by
    have a1 : Chg (wown whb mp vs) w X := HCX.out.mono (fun j _ e => Or.inl e)
    have a2 := a1.trans (Chg.ofBelow (wown whb mp vs) hal) (fun _ _ e => e)
    have a3 := a2.trans (hg6.chg.mono (B := wown whb mp vs) (fun j _ e => Or.inr (Or.inr ⟨_, List.mem_of_getElem? HV.out, e⟩))) (fun _ _ e => e)
    exact a3.trans ((setCell_chg w6 whb p (.slice ao6 (ns + 1) cap6)).mono (B := wown whb mp vs) (fun j _ e => Or.inl e)) (fun _ _ e => e)
  have HY : Hid _ := hY
  obtain ⟨vs', hvs'⟩ : ∃ vs', vs' = vs.set p (.slice ao6 (ns + 1) cap6) := ⟨_, rfl⟩
  rw [← hvs'] at HY HWO
  clear hY hsl hlen6 hfl6 hr6 ho6 hg6 hin6 hB6 HC6 hal HYW rf cp c64 c66 c67 HX HCX hvs' hcs
  generalize w6.setCell ⟨whb, p, none⟩ (.slice ao6 (ns + 1) cap6) = Y at *
  go_wp2_with fail
  rename_i K hK
  try rw [show ∀ a : Act, a.put none undef = a from fun _ => rfl]
  refine wp_region_mix (fun wz => wz.cell? ⟨whb, 65, none⟩ = some (.map (some mp)) ∧ wz.cell? ⟨whb, 67, none⟩ = some (.int .i64 (last + 1))) (fun i => i == 9) 9 (by kernel_rfl) rfl (by kernel_rfl) (by kernel_rfl) (by kernel_rfl) ?_
  refine withFrP (N := 66) rfl ?_
  intro f0 F0 hff
  have e0 : f0 0 = Value.pointer (some ⟨whb, 0, none⟩) := hff 0
  have e10 : f0 10 = Value.int .i64 ((p : Nat) : Int) := hff 10
  clear hff
  have HCC : (fun wz => wz.cell? ⟨whb, 65, none⟩ = some (.map (some mp)) ∧ wz.cell? ⟨whb, 67, none⟩ = some (.int .i64 (last + 1))) (({ Y with drawn := Y.drawn + 1 } : World)) := ⟨HY.out.c65, HY.out.c67⟩
  obtain ⟨w4, hrun, hm4, hc4, hs4⟩ := HMap.put (w := ({ Y with drawn := Y.drawn + 1 } : World)) (HY.out.m.same rfl) (last + 1) ((p : Nat) : Int) HNN.out
  replace hrun : (Instr.mapUpdate 45 (.map (some mp)) (.int .i64 (last + 1)) (.int .i64 ((p : Nat) : Int))).run Try.prog ({ Y with drawn := Y.drawn + 1 } : World) = .ok () w4 := hrun
  refine lyp F0 rfl HCC rfl (by omega) (wanted_none rfl) (v := Value.pointer (some ⟨whb, 0, none⟩)) (fun wr hwr => by simp only [execOp, (F0.eval 0 (by omega)).trans (show _ = Value.pointer (some ⟨whb, 0, none⟩) from by simp [upd, e0, e10])]; first | rfl | simp [go_sem]) fun Fr1 => ?_
  refine lyp Fr1 rfl HCC rfl (by omega) (wanted_none rfl) (v := Value.pointer (some ⟨whb, 0, none⟩)) (fun wr hwr => by simp only [execOp, (Fr1.eval 53 (by omega)).trans (show _ = Value.pointer (some ⟨whb, 0, none⟩) from by simp [upd, e0, e10])]; simp [go_sem]) fun Fr2 => ?_
  refine lyp Fr2 rfl HCC rfl (by omega) (wanted_none rfl) (v := Value.pointer (some ⟨whb, 65, none⟩)) (fun wr hwr => by simp only [execOp, (Fr2.eval 54 (by omega)).trans (show _ = Value.pointer (some ⟨whb, 0, none⟩) from by simp [upd, e0, e10])]; simp [go_sem]) fun Fr3 => ?_
  refine lyp Fr3 rfl HCC rfl (by omega) (wanted_none rfl) (v := Value.map (some mp)) (fun wr hwr => by simp only [execOp, (Fr3.eval 55 (by omega)).trans (show _ = Value.pointer (some ⟨whb, 65, none⟩) from by simp [upd, e0, e10])]; simp [go_sem, hwr.1]) fun Fr4 => ?_
  refine lyp Fr4 rfl HCC rfl (by omega) (wanted_none rfl) (v := Value.pointer (some ⟨whb, 0, none⟩)) (fun wr hwr => by simp only [execOp, (Fr4.eval 0 (by omega)).trans (show _ = Value.pointer (some ⟨whb, 0, none⟩) from by simp [upd, e0, e10])]; first | rfl | simp [go_sem]) fun Fr5 => ?_
  refine lyp Fr5 rfl HCC rfl (by omega) (wanted_none rfl) (v := Value.pointer (some ⟨whb, 0, none⟩)) (fun wr hwr => by simp only [execOp, (Fr5.eval 57 (by omega)).trans (show _ = Value.pointer (some ⟨whb, 0, none⟩) from by simp [upd, e0, e10])]; simp [go_sem]) fun Fr6 => ?_
  refine lyp Fr6 rfl HCC rfl (by omega) (wanted_none rfl) (v := Value.pointer (some ⟨whb, 67, none⟩)) (fun wr hwr => by simp only [execOp, (Fr6.eval 58 (by omega)).trans (show _ = Value.pointer (some ⟨whb, 0, none⟩) from by simp [upd, e0, e10])]; simp [go_sem]) fun Fr7 => ?_
  refine lyp Fr7 rfl HCC rfl (by omega) (wanted_none rfl) (v := Value.int .i64 (last + 1)) (fun wr hwr => by simp only [execOp, (Fr7.eval 59 (by omega)).trans (show _ = Value.pointer (some ⟨whb, 67, none⟩) from by simp [upd, e0, e10])]; simp [go_sem, hwr.2]) fun Fr8 => ?_
  refine lyp Fr8 rfl HCC rfl (by omega) (wanted_none rfl) (v := Value.int .i64 ((p : Nat) : Int)) (fun wr hwr => by simp only [execOp, (Fr8.eval 10 (by omega)).trans (show _ = Value.int .i64 ((p : Nat) : Int) from by simp [upd, e0, e10])]; first | rfl | simp [go_sem]) fun Fr9 => ?_
  refine lst rfl HCC rfl (wanted_none rfl) (w1 := w4) (by simp only [execOp, (Fr9.eval 56 (by omega)).trans (show _ = Value.map (some mp) from by simp [upd, e0, e10]), (Fr9.eval 60 (by omega)).trans (show _ = Value.int .i64 (last + 1) from by simp [upd, e0, e10]), (Fr9.eval 61 (by omega)).trans (show _ = Value.int .i64 ((p : Nat) : Int) from by simp [upd, e0, e10])]; simp [go_sem, show (Instr.mapUpdate 45 (.map (some mp)) (.int .i64 (last + 1)) (.int .i64 ((p : Nat) : Int))).run Try.prog Y.drew = .ok () w4 from hrun, hrun]) ?_
  refine ⟨fun h => by omega, ?_⟩
  refine hK _ _ ?_
  clear F0 Fr1 Fr2 Fr3 Fr4 Fr5 Fr6 Fr7 Fr8 Fr9 e0 e10 HCC
  simp only [Act.put, List.setIfInBounds_toArray, List.set_cons_succ, List.set_cons_zero]
  have hY2 := (HY.out.more (Below.drew (Below.refl Y.heap.size Y))).map hc4 hm4
  have HF : Hid (WL base whb mp u vs' now (last + 1) (A ++ [t]) ((A ++ [t]).map (kvT u)) w4) := by
    have e : (A ++ [t]).map (kvT u) = A.map (kvT u) ++ [(last + 1, ((p : Nat) : Int))] := by rw [List.map_append]; simp only [List.map_cons, List.map_nil, kvT]; rw [← HP.out, HT.out]
    rw [e]
    exact hY2
  have HCF : Hid (Chg (wown whb mp vs) w w4) := (HCY.out.drewN 1).trans (hc4.mono (B := wown whb mp vs) (fun j _ e => Or.inr (Or.inl e))) (fun _ _ e => e)
  have c67 := HF.out.c67
  clear hY2 hrun hm4 hc4 hs4 HY HCY
  go_wp2_with fail
  go_ret
  exact ⟨rfl, vs', HF.out, HCF.out, HWO.out⟩
end Go.Proofs.Ytmnihombiabkgaa
