import Derived.Test.YtmnihombiabkgaaTh
namespace Go.Proofs.Ytmnihombiabkgaa
open Go.RowKit Go.PlainAid Go.MapKept
set_option linter.unusedVariables false
set_option linter.unusedSimpArgs false
set_option maxRecDepth 100000 in
set_option maxHeartbeats 3200000 in
theorem cancel_no {base whb mp : Nat} {u now last : Int} {vs : List Value} {A : List Tm} (n : Int) (w : World) (h : WL base whb mp u vs now last A (A.map (kvT u)) w) (hn : ∀ t ∈ A, t.num ≠ n) :
    Calls Try.prog 14 #[.pointer (some ⟨whb, 0, none⟩), .int .i64 n] w fun e w' => e = .returned (.bool false) ∧ w' = w := by
  have hf : A.find? (fun t => decide (t.num = n)) = none := List.find?_eq_none.2 (fun t ht => by simpa using hn t ht)
  have hlk : (Instr.lookup 45 (.map (some mp)) (.int .i64 n) true).run Try.prog w = .ok (.tuple #[.int .i64 0, .bool false]) w := by
    have := h.m.look_ok n true
    rw [look_kv, hf] at this
    exact this
  have c65 := h.c65
  clear h hf hn
  go_enter Try.func14, Try.ntmps14
  go_wp2_with fail
  go_ret
  exact ⟨rfl, rfl⟩
set_option maxRecDepth 100000 in
set_option maxHeartbeats 3200000 in
theorem cancel_yes {base whb mp : Nat} {u now last : Int} {vs : List Value} {A : List Tm} (t : Tm) (w : World) (h : WL base whb mp u vs now last A (A.map (kvT u)) w) (hB : WB u now last A) (ht : t ∈ A) :
    Calls Try.prog 14 #[.pointer (some ⟨whb, 0, none⟩), .int .i64 t.num] w fun e w' => e = .returned (.bool true) ∧ ∃ vs', WL base whb mp u vs' now last (gone t.num A) ((gone t.num A).map (kvT u)) w' ∧ WStp whb mp vs vs' w w' := by
  obtain ⟨hu1, hu2⟩ := hB.hu
  obtain ⟨p, hp⟩ : ∃ p, p = pl u t := ⟨_, rfl⟩
  have hp64 : p < 64 := by rw [hp]; exact pl_lt t hu1 hu2
  have hf : A.find? (fun x => decide (x.num = t.num)) = some t := by
    cases hq : A.find? (fun x => decide (x.num = t.num)) with
    | none => exact absurd (List.find?_eq_none.1 hq t ht) (by simp)
    | some x =>
      have h1 := List.find?_some hq
      have h2 := List.mem_of_find?_eq_some hq
      rw [up_inj hB.up h2 ht (by simpa using h1)]
  have hlk : (Instr.lookup 45 (.map (some mp)) (.int .i64 t.num) true).run Try.prog w = .ok (.tuple #[.int .i64 (p : Int), .bool true]) w := by
    have := h.m.look_ok t.num true
    rw [look_kv, hf] at this
    rw [hp]
    exact this
  have htl : t ∈ slotOf u A p := slot_mem.2 ⟨ht, hp.symm⟩
  obtain ⟨i, hi⟩ := List.getElem?_of_mem htl
  have hil : i < (slotOf u A p).length := (List.getElem?_eq_some_iff.1 hi).1
  have hsl : (slotOf u A p).length ≤ 1000000 := by
    have h1 := hB.len
    have h2 := hB.hl
    have h3 : (slotOf u A p).length ≤ A.length := List.length_filter_le _ _
    omega
  obtain ⟨v, hv⟩ := h.get hp64
  have cp : w.cell? ⟨whb, p, none⟩ = some v := (h.cs hp64).trans hv
  have c65 := h.c65
  have hsu := slot_up (u := u) hB.up p
  have HBS : Hid _ := bs_any w (h.r p v hv) hsl hsu hi
  have HW : Hid (WL base whb mp u vs now last A (A.map (kvT u)) w) := h
  have HV : Hid (vs[p]? = some v) := hv
  have HIL : Hid (i < (slotOf u A p).length) := hil
  have HSL : Hid ((slotOf u A p).length ≤ 1000000) := hsl
  have HUP : Hid (Up A) := hB.up
  have HGA : Hid (gone t.num (slotOf u A p) = (slotOf u A p).eraseIdx i) := gone_at hsu hi
  have HGO : Hid (∀ q, q ≠ p → slotOf u (gone t.num A) q = slotOf u A q) := fun q hq => by
    rw [slot_gone]
    refine gone_none (fun x hx e => hq ?_)
    obtain ⟨hx1, hx2⟩ := slot_mem.1 hx
    rw [up_inj HUP.out hx1 ht e] at hx2
    exact hx2.symm.trans hp.symm
  have hi6 : i ≤ 1000000 := by omega
  obtain ⟨tn, htn⟩ : ∃ tn, tn = t.num := ⟨_, rfl⟩
  rw [← htn] at hlk HBS HGA HGO ⊢
  clear h hB hf ht htl hi hil hsl hv hsu hp htn
  go_enter Try.func14, Try.ntmps14
  go_wp2_with fail
  refine Calls.mono HBS.out ?_
  rintro e w1 ⟨rfl, hb1⟩
  have HB1 : Hid (Below w.heap.size w w1) := hb1
  have HW1 : Hid (WL base whb mp u vs now last A (A.map (kvT u)) w1) := HW.out.more hb1
  clear hb1 hlk cp c65 HBS HW
  go_wp2_with fail
  rename_i K hK
  try rw [show ∀ a : Act, a.put none undef = a from fun _ => rfl]
  refine wp_region_mix (fun _ : World => True) (fun i => i == 6 || i == 10 || i == 99) 99 (by kernel_rfl) rfl (by kernel_rfl) (by kernel_rfl) (by kernel_rfl) ?_
  refine withFrP (N := 48) rfl ?_
  intro f0 F0 hff
  have e0 : f0 0 = Value.pointer (some ⟨whb, 0, none⟩) := hff 0
  have e5 : f0 5 = Value.int .i64 (p : Int) := hff 5
  have e7 : f0 7 = v := hff 7
  have e8 : f0 8 = Value.int .i64 (i : Int) := hff 8
  clear hff
  have HCC : (fun _ : World => True) (({ w1 with drawn := w1.drawn + 1 } : World)) := trivial
  have HDL : Hid _ := delete_any (base := base) (v := v) (i := i) ({ w1 with drawn := w1.drawn + 1 } : World) ((HW1.out.more (Below.drew (Below.refl w1.heap.size w1))).r p v HV.out) HSL.out HIL.out
  refine lyp F0 rfl HCC rfl (by omega) (wanted_none rfl) (v := Value.pointer (some ⟨whb, 0, none⟩)) (fun wr hwr => by simp only [execOp, (F0.eval 0 (by omega)).trans (show _ = Value.pointer (some ⟨whb, 0, none⟩) from by simp [upd, e0, e5, e7, e8])]; first | rfl | simp [go_sem]) fun Fp1 => ?_
  refine lyp Fp1 rfl HCC rfl (by omega) (wanted_none rfl) (v := Value.int .i64 (p : Int)) (fun wr hwr => by simp only [execOp, (Fp1.eval 5 (by omega)).trans (show _ = Value.int .i64 (p : Int) from by simp [upd, e0, e5, e7, e8])]; first | rfl | simp [go_sem]) fun Fp2 => ?_
  refine lyp Fp2 rfl HCC rfl (by omega) (wanted_none rfl) (v := v) (fun wr hwr => by simp only [execOp, (Fp2.eval 7 (by omega)).trans (show _ = v from by simp [upd, e0, e5, e7, e8])]; first | rfl | simp [go_sem]) fun Fp3 => ?_
  refine lyp Fp3 rfl HCC rfl (by omega) (wanted_none rfl) (v := Value.int .i64 (i : Int)) (fun wr hwr => by simp only [execOp, (Fp3.eval 8 (by omega)).trans (show _ = Value.int .i64 (i : Int) from by simp [upd, e0, e5, e7, e8])]; first | rfl | simp [go_sem]) fun Fp4 => ?_
  refine lyp Fp4 rfl HCC rfl (by omega) (wanted_none rfl) (v := Value.int .i64 (i : Int)) (fun wr hwr => by simp only [execOp, (Fp4.eval 8 (by omega)).trans (show _ = Value.int .i64 (i : Int) from by simp [upd, e0, e5, e7, e8])]; first | rfl | simp [go_sem]) fun Fp5 => ?_
  refine lyp Fp5 rfl HCC rfl (by omega) (wanted_none rfl) (v := Value.int .i64 ((i : Int) + 1)) (fun wr hwr => by simp only [execOp, (Fp5.eval 37 (by omega)).trans (show _ = Value.int .i64 (i : Int) from by simp [upd, e0, e5, e7, e8])]; simp [go_sem, Act.eval, show IntKind.i64.wrap ((i : Int) + 1) = (i : Int) + 1 from by rw [IntKind.wrap_i64]; omega]) fun Fp6 => ?_
  refine lcp Fp6 rfl HCC rfl (by omega) (wanted_none rfl) (g := 23) (args := #[v, Value.int .i64 (i : Int), Value.int .i64 ((i : Int) + 1)]) (by simp only [execOp, resolve, invoke, List.map_toArray, List.map_cons, List.map_nil, (Fp6.eval 35 (by omega)).trans (show _ = v from by simp [upd, e0, e5, e7, e8]), (Fp6.eval 36 (by omega)).trans (show _ = Value.int .i64 (i : Int) from by simp [upd, e0, e5, e7, e8]), (Fp6.eval 38 (by omega)).trans (show _ = Value.int .i64 ((i : Int) + 1) from by simp [upd, e0, e5, e7, e8])]; simp [go_sem, Act.eval]) HDL.out ?_
  rintro e w4 ⟨v4, rfl, hr4, ho4, hc4⟩
  refine ⟨_, rfl, fun Fp7 => ?_⟩
  have HR4 : Hid _ := hr4
  have HO4 : Hid (v4.ownBlock = v.ownBlock) := ho4
  have HC4 : Hid (Chg (fun k => v.ownBlock = some k) ({ w1 with drawn := w1.drawn + 1 } : World) w4) := hc4
  obtain ⟨ao4, cap4, hv4, _⟩ := own_slice hr4
  have hB4 : Blk w4 whb (wbox vs u mp now last) 48 := hc4.blk (show Blk ({ w1 with drawn := w1.drawn + 1 } : World) whb (wbox vs u mp now last) 48 from HW1.out.b) (fun e => (HW1.out.slot_ne HV.out e).1 rfl)
  have cp4 : w4.cell? ⟨whb, p, none⟩ = some v := (hB4.cell p).trans ((wbox_slot HW1.out.n hp64).trans HV.out)
  have HC6 : (fun _ : World => True) w4 := trivial
  clear hr4 ho4 hc4
  refine lyp Fp7 rfl HC6 rfl (by omega) (wanted_none rfl) (v := Value.pointer (some ⟨whb, 0, none⟩)) (fun wr hwr => by simp only [execOp, (Fp7.eval 33 (by omega)).trans (show _ = Value.pointer (some ⟨whb, 0, none⟩) from by simp [upd, e0, e5, e7, e8])]; simp [go_sem]) fun Fp8 => ?_
  refine lyp Fp8 rfl HC6 rfl (by omega) (wanted_none rfl) (v := Value.pointer (some ⟨whb, 0, none⟩)) (fun wr hwr => by simp only [execOp, (Fp8.eval 40 (by omega)).trans (show _ = Value.pointer (some ⟨whb, 0, none⟩) from by simp [upd, e0, e5, e7, e8])]; simp [go_sem]) fun Fp9 => ?_
  refine lyp Fp9 rfl HC6 rfl (by omega) (wanted_none rfl) (v := Value.pointer (some ⟨whb, p, none⟩)) (fun wr hwr => by simp only [execOp, (Fp9.eval 41 (by omega)).trans (show _ = Value.pointer (some ⟨whb, 0, none⟩) from by simp [upd, e0, e5, e7, e8]), (Fp9.eval 34 (by omega)).trans (show _ = Value.int .i64 (p : Int) from by simp [upd, e0, e5, e7, e8])]; simp only [Sem.run_bind, Sem.run_pure, Result.andThen_ok, idx_arr wr whb p hp64]; try rfl) fun Fp10 => ?_
  refine lst rfl HC6 rfl (wanted_none rfl) (w1 := w4.setCell ⟨whb, p, none⟩ v4) (by simp only [execOp, (Fp10.eval 42 (by omega)).trans (show _ = Value.pointer (some ⟨whb, p, none⟩) from by simp [upd, e0, e5, e7, e8]), (Fp10.eval 39 (by omega)).trans (show _ = v4 from by simp [upd, e0, e5, e7, e8]), hv4]; simp [go_sem, hB4.frozen p, cp4]) ?_
  have HC7 : (fun _ : World => True) (w4.setCell ⟨whb, p, none⟩ v4) := trivial
  refine ⟨fun _ => HC7, ?_⟩
  refine hK _ _ ?_
  clear F0 Fp1 Fp2 Fp3 Fp4 Fp5 Fp6 Fp7 Fp8 Fp9 Fp10 e0 e5 e7 e8 HCC HC6 HC7 HDL cp4
  simp only [Act.put, List.setIfInBounds_toArray, List.set_cons_succ, List.set_cons_zero]
  have HY : Hid (WL base whb mp u (vs.set p v4) now last (gone tn A) (A.map (kvT u)) (w4.setCell ⟨whb, p, none⟩ v4)) := by
    refine WL.setSlot (w := ({ w1 with drawn := w1.drawn + 1 } : World)) (HW1.out.more (Below.drew (Below.refl w1.heap.size w1))) hp64 HV.out HC4.out ?_ (fun k hk => Or.inl (by rw [← HO4.out]; exact hk)) HGO.out
    rw [slot_gone, HGA.out]
    exact HR4.out
  have HCY : Hid (Chg (wown whb mp vs) w (w4.setCell ⟨whb, p, none⟩ v4)) := by
    have a1 : Chg (wown whb mp vs) w w1 := Chg.ofBelow _ HB1.out
    have a3 := (a1.drewN 1).trans (HC4.out.mono (B := wown whb mp vs) (fun j _ e => Or.inr (Or.inr ⟨_, List.mem_of_getElem? HV.out, e⟩))) (fun _ _ e => e)
    exact a3.trans ((setCell_chg w4 whb p v4).mono (B := wown whb mp vs) (fun j _ e => Or.inl e)) (fun _ _ e => e)
  have HWO : Hid (∀ k, wown whb mp (vs.set p v4) k → wown whb mp vs k ∨ w.heap.size ≤ k) := fun k hk => wown_set HV.out (fun k hk => Or.inl (by rw [← HO4.out]; exact hk)) hk
  clear HR4 HC4 hB4 HO4
  obtain ⟨vs', hvs'⟩ : ∃ vs', vs' = vs.set p v4 := ⟨_, rfl⟩
  rw [← hvs'] at HY HWO
  clear hvs'
  generalize w4.setCell ⟨whb, p, none⟩ v4 = Y at *
  have c65 := HY.out.c65
  obtain ⟨w5, hrun, hm5, hc5, hs5⟩ := HY.out.m.del tn
  have hrun' : ∀ ty, (Builtin.delete_ #[45, 3] ty #[.map (some mp), .int .i64 tn]).run Try.prog Y = .ok (.tuple #[]) w5 := hrun
  have HF : Hid (WL base whb mp u vs' now last (gone tn A) ((gone tn A).map (kvT u)) w5) := by
    rw [← rm_kv u tn HUP.out]
    exact HY.out.map hc5 hm5
  have HCF : Hid (Chg (wown whb mp vs) w w5) := HCY.out.trans (hc5.mono (B := wown whb mp vs) (fun j _ e => Or.inr (Or.inl e))) (fun _ _ e => e)
  clear hrun hm5 hc5 hs5 HY HCY
  go_wp2_with fail
  go_ret
  exact ⟨rfl, vs', HF.out, HCF.out, HWO.out⟩
end Go.Proofs.Ytmnihombiabkgaa
