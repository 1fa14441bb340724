import Derived.Test.YtcjgicfmfjomgaaDl
namespace Go.Proofs.Ytcjgicfmfjomgaa
open Go.RowKit Go.PlainAid Go.MapKept
set_option linter.unusedVariables false
set_option linter.unusedSimpArgs false
/-- What is acknowledged is no longer under way. -/
def LV.ack (x : LV) (a : Int) : LV := if a ≤ x.acked then x else { x with acked := a, under := x.under.drop (a - x.acked).toNat }
theorem LM.ack {L lb cb mb : Nat} {uv v' : Value} {x : LV} {w w2 : World} (a : Int) (j : Nat) (h : LM L lb cb mb uv x w) (hr : w2.ownsRow L 41 1 v' (x.under.drop j).length ((x.under.drop j).map Dv.v)) (hob : v'.ownBlock = uv.ownBlock) (hc : Chg (fun k => uv.ownBlock = some k) w w2) :
    LM L lb cb mb v' { x with acked := a, under := x.under.drop j } ((w2.setCell ⟨lb, 6, none⟩ v').setCell ⟨lb, 5, none⟩ (.int .i64 a)) ∧ LStp lb cb mb uv v' x { x with acked := a, under := x.under.drop j } w ((w2.setCell ⟨lb, 6, none⟩ v').setCell ⟨lb, 5, none⟩ (.int .i64 a)) := by
  have hne := h.ne_lb
  obtain ⟨s0, r0, hcc⟩ := h.c
  have hB2 : Blk w2 lb (lbox x cb mb uv) 77 := hc.blk h.b (fun e => hne.2.2.1 lb e rfl)
  have hB3 := hB2.set 6 v'
  have hB4 := hB3.set 5 (.int .i64 a)
  have c6 := setCell_chg w2 lb 6 v'
  have c5 := setCell_chg (w2.setCell ⟨lb, 6, none⟩ v') lb 5 (.int .i64 a)
  have c65 := c6.trans c5 (fun _ _ e => e)
  have huc : ∀ g, uv.ownBlock = some g → g ≠ cb := fun g e e2 => by
    obtain ⟨cur, hcur⟩ := ownsRow_type h.u e
    rw [e2] at hcur
    have := hcur.symm.trans hcc
    cases this
  have hsub : List.Sublist ({ x with acked := a, under := x.under.drop j } : LV).all x.all := by
    unfold LV.all
    exact ((List.Sublist.refl _).append (List.drop_sublist _ _)).append (List.Sublist.refl _)
  have hdt : ∀ e ∈ x.all, ((w2.setCell ⟨lb, 6, none⟩ v').setCell ⟨lb, 5, none⟩ (.int .i64 a)).ownsRow L 5 1 e.v e.s.length (e.s.map B) := fun e he => by
    have h1 := h.dt e he
    have h2 := ownsRow_same h1 (fun g q => hc.block g (ownsRow_lt h1 q).2 (fun q2 => by
      obtain ⟨c1, q1⟩ := ownsRow_type h1 q
      obtain ⟨c2, q3⟩ := ownsRow_type h.u q2
      exact Blk.ne_t q1 q3 (by decide) rfl))
    exact ownsRow_same h2 (fun g q => c65.block g (ownsRow_lt h2 q).2 (hne.2.2.2 e he g q))
  have hM2 := h.m.same (hc.block mb h.m.lt (fun e => by
    obtain ⟨cur, hcur⟩ := ownsRow_type h.u e
    exact h.m.ne_b hcur rfl))
  refine ⟨⟨hB4, ⟨s0, r0, ?_⟩, ?_, hM2.same (c65.block mb hM2.lt hne.2.1), fun e he => hdt e (hsub.subset he), h.dj.sublist hsub, h.lo⟩, ?_, fun k hk => ?_⟩
  · have h1 := (hc.block cb h.clt (fun e => huc cb e rfl)).trans hcc
    exact (c65.block cb (Nat.lt_of_lt_of_le h.clt hc.size) hne.1).trans h1
  · exact ownsRow_same hr (fun g e => c65.block g (ownsRow_lt hr e).2 (hne.2.2.1 g (by rw [← hob]; exact e)))
  · exact (hc.mono (B := lown lb cb mb uv x) (fun j _ e => .inr (.inr (.inr (.inl e))))).trans (c65.mono (B := lown lb cb mb uv x) (fun j _ e => .inl e)) (fun _ _ e => e)
  · rcases hk with q | q | q | q | ⟨e, he, q⟩
    · exact .inl (.inl q)
    · exact .inl (.inr (.inl q))
    · exact .inl (.inr (.inr (.inl q)))
    · exact .inl (.inr (.inr (.inr (.inl (by rw [← hob]; exact q)))))
    · exact .inl (.inr (.inr (.inr (.inr ⟨e, hsub.subset he, q⟩))))
theorem under_one {L lb cb mb : Nat} {uv : Value} {x : LV} {w : World} (h : LM L lb cb mb uv x w) : ∀ u ∈ x.under.map Dv.v, u.oneCell' = true := fun u hu => by
  obtain ⟨d, hd, rfl⟩ := List.mem_map.1 hu
  obtain ⟨ao, c, hv, _⟩ := own_slice (h.dt d (by unfold LV.all; simp [hd]))
  rw [hv]
  rfl
set_option maxRecDepth 100000 in
set_option maxHeartbeats 3200000 in
theorem ack_new {L lb cb mb : Nat} {uv : Value} {x : LV} (a : Int) (w : World) (h : LM L lb cb mb uv x w) (ha : x.acked < a) (hb : 0 ≤ x.acked ∧ x.acked ≤ 1099511627776) (hu : x.under.length ≤ 1000) (hau : a ≤ x.acked + (x.under.length : Int)) :
    Calls Try.prog 37 #[.pointer (some ⟨lb, 0, none⟩), .int .i64 a] w fun e w' => e = .returned (.tuple #[]) ∧ ∃ uv', LM L lb cb mb uv' (x.ack a) w' ∧ LStp lb cb mb uv uv' x (x.ack a) w w' := by
  obtain ⟨uo, uc, huv, _⟩ := own_slice h.u
  subst huv
  obtain ⟨j, hj⟩ : ∃ j : Nat, a = x.acked + (j : Int) := ⟨(a - x.acked).toNat, by omega⟩
  have e1 : x.ack a = { x with acked := a, under := x.under.drop j } := by
    unfold LV.ack
    rw [if_neg (by omega), show (a - x.acked).toNat = j from by omega]
  rw [e1]
  have c5 : w.cell? ⟨lb, 5, none⟩ = some (.int .i64 x.acked) := h.b.cell 5
  obtain ⟨un, hun⟩ : ∃ un, un = x.under.length := ⟨_, rfl⟩
  have HUN : Hid (un = x.under.length) := hun
  rw [← hun] at h hu hau
  obtain ⟨ak, hak⟩ : ∃ ak, ak = x.acked := ⟨_, rfl⟩
  have HAK : Hid (ak = x.acked) := hak
  rw [← hak] at c5 ha hb hau hj
  have HM : Hid (LM L lb cb mb (.slice uo un uc) x w) := h
  have HOF : Hid (∀ wz : World, Blk wz lb (lbox x cb mb (.slice uo un uc)) 77 → wz.cell? ⟨lb, 5, none⟩ = some (.int .i64 ak)) := fun wz hz => by rw [hak]; exact hz.cell 5
  have HDL : Hid _ := delete_any (base := L) (j := j) (v := .slice uo un uc) w.drew (l := x.under.map Dv.v) (by rw [List.length_map]; have := HM.out.u; exact this) (under_one HM.out) (by rw [List.length_map, ← hun]; omega) (by omega) (by rw [List.length_map, ← hun]; omega)
  have HJ : Hid (a = ak + (j : Int)) := hj
  have ha' : ¬ a ≤ ak := by omega
  have hjb : j ≤ 1000 := by omega
  clear h hun hak e1 hj hau
  go_enter Try.func37, Try.ntmps37
  go_upto_region 1 with fail
  rename_i K hK
  try rw [show ∀ a : Act, a.put none undef = a from fun _ => rfl]
  refine wp_region_mix (fun wz => Blk wz lb (lbox x cb mb (.slice uo un uc)) 77) (fun i => i == 11 || i == 14) 14 (by kernel_rfl) rfl (by kernel_rfl) (by kernel_rfl) (by kernel_rfl) ?_
  refine withFrP (N := 28) rfl ?_
  intro f0 F0 hff
  have e0 : f0 0 = Value.pointer (some ⟨lb, 0, none⟩) := hff 0
  have e1 : f0 1 = Value.int .i64 a := hff 1
  clear hff
  have HCC : (fun wz => Blk wz lb (lbox x cb mb (.slice uo un uc)) 77) (({ w with drawn := w.drawn + 1 } : World)) := HM.out.b
  refine lyp F0 rfl HCC rfl (by omega) (wanted_none rfl) (v := Value.pointer (some ⟨lb, 0, none⟩)) (fun wr hwr => by simp only [execOp, (F0.eval 0 (by omega)).trans (show _ = Value.pointer (some ⟨lb, 0, none⟩) from by simp [upd, e0, e1])]; first | rfl | simp [go_sem]) fun Fp1 => ?_
  refine lyp Fp1 rfl HCC rfl (by omega) (wanted_none rfl) (v := Value.pointer (some ⟨lb, 0, none⟩)) (fun wr hwr => by simp only [execOp, (Fp1.eval 0 (by omega)).trans (show _ = Value.pointer (some ⟨lb, 0, none⟩) from by simp [upd, e0, e1])]; first | rfl | simp [go_sem]) fun Fp2 => ?_
  refine lyp Fp2 rfl HCC rfl (by omega) (wanted_none rfl) (v := Value.pointer (some ⟨lb, 0, none⟩)) (fun wr hwr => by simp only [execOp, (Fp2.eval 11 (by omega)).trans (show _ = Value.pointer (some ⟨lb, 0, none⟩) from by simp [upd, e0, e1])]; simp [go_sem]) fun Fp3 => ?_
  refine lyp Fp3 rfl HCC rfl (by omega) (wanted_none rfl) (v := Value.pointer (some ⟨lb, 6, none⟩)) (fun wr hwr => by simp only [execOp, (Fp3.eval 12 (by omega)).trans (show _ = Value.pointer (some ⟨lb, 0, none⟩) from by simp [upd, e0, e1])]; simp [go_sem]) fun Fp4 => ?_
  refine lyp Fp4 rfl HCC rfl (by omega) (wanted_none rfl) (v := Value.slice uo un uc) (fun wr hwr => by simp only [execOp, (Fp4.eval 13 (by omega)).trans (show _ = Value.pointer (some ⟨lb, 6, none⟩) from by simp [upd, e0, e1])]; simp [go_sem, show wr.cell? ⟨lb, 6, none⟩ = some (Value.slice uo un uc) from Blk.cell hwr 6]) fun Fp5 => ?_
  refine lyp Fp5 rfl HCC rfl (by omega) (wanted_none rfl) (v := Value.int .i64 a) (fun wr hwr => by simp only [execOp, (Fp5.eval 1 (by omega)).trans (show _ = Value.int .i64 a from by simp [upd, e0, e1])]; first | rfl | simp [go_sem]) fun Fp6 => ?_
  refine lyp Fp6 rfl HCC rfl (by omega) (wanted_none rfl) (v := Value.pointer (some ⟨lb, 0, none⟩)) (fun wr hwr => by simp only [execOp, (Fp6.eval 0 (by omega)).trans (show _ = Value.pointer (some ⟨lb, 0, none⟩) from by simp [upd, e0, e1])]; first | rfl | simp [go_sem]) fun Fp7 => ?_
  refine lyp Fp7 rfl HCC rfl (by omega) (wanted_none rfl) (v := Value.pointer (some ⟨lb, 0, none⟩)) (fun wr hwr => by simp only [execOp, (Fp7.eval 16 (by omega)).trans (show _ = Value.pointer (some ⟨lb, 0, none⟩) from by simp [upd, e0, e1])]; simp [go_sem]) fun Fp8 => ?_
  refine lyp Fp8 rfl HCC rfl (by omega) (wanted_none rfl) (v := Value.pointer (some ⟨lb, 5, none⟩)) (fun wr hwr => by simp only [execOp, (Fp8.eval 17 (by omega)).trans (show _ = Value.pointer (some ⟨lb, 0, none⟩) from by simp [upd, e0, e1])]; simp [go_sem]) fun Fp9 => ?_
  refine lyp Fp9 rfl HCC rfl (by omega) (wanted_none rfl) (v := Value.int .i64 ak) (fun wr hwr => by simp only [execOp, (Fp9.eval 18 (by omega)).trans (show _ = Value.pointer (some ⟨lb, 5, none⟩) from by simp [upd, e0, e1])]; simp [go_sem, HOF.out wr hwr]) fun Fp10 => ?_
  refine lyp Fp10 rfl HCC rfl (by omega) (wanted_none rfl) (v := Value.int .i64 (j : Int)) (fun wr hwr => by simp only [execOp, (Fp10.eval 15 (by omega)).trans (show _ = Value.int .i64 a from by simp [upd, e0, e1]), (Fp10.eval 19 (by omega)).trans (show _ = Value.int .i64 ak from by simp [upd, e0, e1])]; simp [go_sem, Act.eval, show IntKind.i64.wrap (a - ak) = (j : Int) from by have := HJ.out; rw [IntKind.wrap_i64]; omega]) fun Fp11 => ?_
  refine lcp Fp11 rfl HCC rfl (by omega) (wanted_none rfl) (g := 57) (args := #[Value.slice uo un uc, Value.int .i64 0, Value.int .i64 (j : Int)]) (by simp only [execOp, resolve, invoke, List.map_toArray, List.map_cons, List.map_nil, (Fp11.eval 14 (by omega)).trans (show _ = Value.slice uo un uc from by simp [upd, e0, e1]), (Fp11.eval 20 (by omega)).trans (show _ = Value.int .i64 (j : Int) from by simp [upd, e0, e1])]; simp [go_sem, Act.eval]) HDL.out ?_
  rintro e w3 ⟨v3, rfl, hr3, ho3, hc3⟩
  rw [← List.map_drop, List.length_map] at hr3
  have HV3 : Hid (∃ vo3 vc3, v3 = .slice vo3 (x.under.drop j).length vc3) := by obtain ⟨vo3, vc3, hv3, _⟩ := own_slice hr3; exact ⟨vo3, vc3, hv3⟩
  replace hc3 : Chg (fun k => (Value.slice uo un uc).ownBlock = some k) w w3 := (Chg.refl _ w).drewN 1 |>.trans hc3 (fun _ _ e => e)
  refine ⟨_, rfl, fun Fp12 => ?_⟩
  have HC3 : (fun wz => Blk wz lb (lbox x cb mb (.slice uo un uc)) 77) w3 := hc3.blk HM.out.b (fun e => HM.out.ne_lb.2.2.1 lb e rfl)
  have HB3 : Hid (Blk w3 lb (lbox x cb mb (.slice uo un uc)) 77) := HC3
  refine lyp Fp12 rfl HC3 rfl (by omega) (wanted_none rfl) (v := Value.pointer (some ⟨lb, 0, none⟩)) (fun wr hwr => by simp only [execOp, (Fp12.eval 10 (by omega)).trans (show _ = Value.pointer (some ⟨lb, 0, none⟩) from by simp [upd, e0, e1])]; simp [go_sem]) fun Fp13 => ?_
  refine lyp Fp13 rfl HC3 rfl (by omega) (wanted_none rfl) (v := Value.pointer (some ⟨lb, 6, none⟩)) (fun wr hwr => by simp only [execOp, (Fp13.eval 22 (by omega)).trans (show _ = Value.pointer (some ⟨lb, 0, none⟩) from by simp [upd, e0, e1])]; simp [go_sem]) fun Fp14 => ?_
  refine lst rfl HC3 rfl (wanted_none rfl) (w1 := w3.setCell ⟨lb, 6, none⟩ v3) (by simp only [execOp, (Fp14.eval 23 (by omega)).trans (show _ = Value.pointer (some ⟨lb, 6, none⟩) from by simp [upd, e0, e1]), (Fp14.eval 21 (by omega)).trans (show _ = v3 from by simp [upd, e0, e1])]; obtain ⟨vo3, vc3, hv3⟩ := HV3.out; simp only [hv3]; simp [go_sem, HB3.out.frozen 6, show w3.cell? ⟨lb, 6, none⟩ = some (Value.slice uo un uc) from HB3.out.cell 6]) ?_
  refine ⟨fun h => by omega, ?_⟩
  refine hK _ _ ?_
  clear F0 Fp1 Fp2 Fp3 Fp4 Fp5 Fp6 Fp7 Fp8 Fp9 Fp10 Fp11 Fp12 Fp13 Fp14 e0 e1 HCC HC3
  simp only [Act.put, List.setIfInBounds_toArray, List.set_cons_succ, List.set_cons_zero]
  have hB5 : Blk (w3.setCell ⟨lb, 6, none⟩ v3) lb ((lbox x cb mb (.slice uo un uc)).setIfInBounds 6 v3) 77 := HB3.out.set 6 v3
  have HF : Hid _ := LM.ack a j HM.out (v' := v3) (w2 := w3) hr3 ho3 hc3
  have d5 : (w3.setCell ⟨lb, 6, none⟩ v3).cell? ⟨lb, 5, none⟩ = some (.int .i64 ak) := by rw [HAK.out]; exact hB5.cell 5
  have f5 : (w3.setCell ⟨lb, 6, none⟩ v3).frozen? ⟨lb, 5, none⟩ = false := hB5.frozen 5
  clear hr3 ho3 hc3 hB5 c5
  go_wp2_with fail
  go_end0
  exact ⟨rfl, _, HF.out.1, by rw [← HUN.out]; exact HF.out.2⟩
theorem ack_any {L lb cb mb : Nat} {uv : Value} {x : LV} (a : Int) (w : World) (h : LM L lb cb mb uv x w) (hb : 0 ≤ x.acked ∧ x.acked ≤ 1099511627776) (hu : x.under.length ≤ 1000) (hau : a ≤ x.acked + (x.under.length : Int)) :
    Calls Try.prog 37 #[.pointer (some ⟨lb, 0, none⟩), .int .i64 a] w fun e w' => e = .returned (.tuple #[]) ∧ ∃ uv', LM L lb cb mb uv' (x.ack a) w' ∧ LStp lb cb mb uv uv' x (x.ack a) w w' := by
  by_cases ha : a ≤ x.acked
  · refine (ack_old a w h ha).mono ?_
    rintro e w' ⟨rfl, rfl⟩
    have e1 : x.ack a = x := if_pos ha
    rw [e1]
    exact ⟨rfl, uv, h, LStp.refl (Below.refl _ _)⟩
  · exact ack_new a w h (by omega) hb hu hau
end Go.Proofs.Ytcjgicfmfjomgaa
