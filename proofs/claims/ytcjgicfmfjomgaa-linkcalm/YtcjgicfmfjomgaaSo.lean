import Derived.Test.YtcjgicfmfjomgaaIn0
namespace Go.Proofs.Ytcjgicfmfjomgaa
open Go.RowKit Go.PlainAid Go.MapKept
set_option linter.unusedVariables false
set_option linter.unusedSimpArgs false
set_option maxRecDepth 100000 in
set_option maxHeartbeats 3200000 in
theorem sound_0 {L xb n t : Nat} {S : Ln} {col : Nat → Nat} {win : Nat → Nat} (w : World) (h : LNM L xb S col w) (hI : LInv S win n t) (ht : t ≤ 400) :
    Calls Try.prog 23 #[.pointer (some ⟨xb, 0, none⟩), .int .i64 0, .int .i64 (win 0 : Int)] w fun e w' => e = .returned (.bool true) ∧ Below w.heap.size w w' := by
  have he := hI.ei 0 (by omega)
  have hm := (h.em 0 (by omega)).lm
  obtain ⟨a, ha⟩ := hI.d 0 (by omega)
  have hwn := hI.wn 0 (by omega)
  have hlen := ha.len
  rw [List.length_map] at hlen
  have hts := he.ts
  have hbx := he.bx
  have hao := ha.ao
  have hgo := ha.go
  have hnx := hI.d 1 (by omega)
  obtain ⟨io, ic, hiv, _⟩ := own_slice (h.em 0 (by omega)).ir
  obtain ⟨wn, hw⟩ : ∃ wn, wn = win 0 := ⟨_, rfl⟩
  obtain ⟨il, hil⟩ : ∃ il, il = (S.e 0).inn.length := ⟨_, rfl⟩
  obtain ⟨un, hun⟩ : ∃ un, un = (S.e 0).x.under.length := ⟨_, rfl⟩
  obtain ⟨bn, hbn⟩ : ∃ bn, bn = (S.e 0).x.box.length := ⟨_, rfl⟩
  obtain ⟨ou, hou⟩ : ∃ ou, ou = (S.e 0).out := ⟨_, rfl⟩
  obtain ⟨op, hop⟩ : ∃ op, op = bn + un := ⟨_, rfl⟩
  rw [← hil] at hlen hts hiv
  rw [← hun] at hlen hbx hgo
  rw [← hbn] at hlen hbx
  rw [← hw] at hbx hwn ⊢
  rw [← hou] at hao hgo
  have c0 : w.cell? ⟨xb, 0, none⟩ = some (.pointer (some ⟨(S.e 0).lb, 0, none⟩)) := h.b.cell 0
  have HC : Hid (w.cell? ⟨xb, 2, none⟩ = some (.slice io il ic) ∧ w.cell? ⟨xb, 4, none⟩ = some (.int .i64 (ou : Int))) := ⟨by rw [← hiv]; exact h.b.cell 2, by rw [hou]; exact h.b.cell 4⟩
  have HX : Hid (xb < w.heap.size) := h.b.lt
  have HRM : Hid _ := room_any w hm (by rw [he.wi, ← hw]; omega) (by rw [← hbn]; omega) (by rw [← hun]; omega)
  have HER : Hid (((S.e 0).x.win : Int) - ((S.e 0).x.box.length : Int) - ((S.e 0).x.under.length : Int) = (wn : Int) - (op : Int)) := show _ = _ from by rw [he.wi, ← hw, ← hbn, ← hun]; omega
  have hds : ∀ d ∈ (S.e 0).x.under, d.s.length ≤ 1000000 := fun d hd => by
    have h1 : d.s ∈ (S.e 0).inn.map Dv.s := by
      have h2 : d.s ∈ ((S.e 0).inn.map Dv.s).drop a := by rw [ha.rest]; exact List.mem_append.2 (.inl (List.mem_map_of_mem hd))
      exact List.mem_of_mem_drop h2
    have := ha.ln _ h1
    omega
  have HUN : Hid (∀ q, Calls Try.prog 14 #[.pointer (some ⟨(S.e 0).lb, 0, none⟩)] (w.drewN q) _) := fun q => under_any (w.drewN q) (hm.more (below_drewN (Below.refl _ _) q)) (by obtain ⟨b, hb⟩ := hI.d (1 - 0) (by omega); have := hb.nx; rw [show 1 - (1 - 0) = 0 from rfl] at this; have h8 := hb.go; have h9 := hb.len; have h10 := (hI.ei (1 - 0) (by omega)).ts; rw [List.length_map] at h9; omega) (by rw [ha.ack]; omega) (by rw [← hun]; omega) hds
  have HEU : Hid ((S.e 0).x.under.length = un) := hun.symm
  have h1 : un ≤ op := by omega
  have h2 : op ≤ wn := by omega
  have h3 : (il : Int) - (op : Int) ≤ (ou : Int) := by omega
  have h5 : ¬ op = 0 → 0 < il := fun _ => by omega
  have hi4 : il ≤ 400 := by omega
  have hw16 : wn ≤ 16 := hwn.2
  clear h hI he hm ha hlen hts hbx hao hgo hiv hw hil hun hbn hou hop hnx hds hwn
  go_enter Try.func23, Try.ntmps23
  go_wp2_with fail
  refine Calls.mono HRM.out ?_
  rintro e w1 ⟨rfl, q, rfl⟩
  rw [HER.out]
  clear HRM HER
  go_wp2_with fail
  refine Calls.mono (HUN.out q) ?_
  rintro e w5 ⟨v5, l5, rfl, hl5, hSL5, hb5⟩
  have hll : l5.length = un := by
    have := congrArg List.length hl5
    rw [List.length_map, tell_len, List.length_map] at this
    rw [this]
    exact HEU.out
  obtain ⟨vo5, vc5, hv5, _⟩ := own_slice hSL5.r
  rw [hll] at hv5
  subst hv5
  have HB5 : Hid (Below w.heap.size w w5) := show Below _ _ _ from ⟨hb5.os, hb5.tape, hb5.output, hb5.size, hb5.block⟩
  have c2 : w5.cell? ⟨xb, 2, none⟩ = some (.slice io il ic) := (HB5.out.cell (p := ⟨xb, 2, none⟩) HX.out).trans HC.out.1
  have c4 : w5.cell? ⟨xb, 4, none⟩ = some (.int .i64 (ou : Int)) := (HB5.out.cell (p := ⟨xb, 4, none⟩) HX.out).trans HC.out.2
  clear hl5 hSL5 hb5 hll HUN HEU c0
  have ewo : (wn : Int) - ((wn : Int) - (op : Int)) = (op : Int) := by omega
  go_upto_region 3 with fail
  try simp only [ewo]
  by_cases h4 : op = 0
  · have h4p : (op : Int) = 0 := by omega
    rename_i K hK
    try rw [show ∀ a : Act, a.put none undef = a from fun _ => rfl]
    refine wp_region_mix (fun wz => wz.cell? ⟨xb, 2, none⟩ = some (Value.slice io il ic) ∧ wz.cell? ⟨xb, 4, none⟩ = some (Value.int .i64 (ou : Int))) (fun i => i == 99) 99 (by kernel_rfl) rfl (by kernel_rfl) (by kernel_rfl) (by kernel_rfl) ?_
    refine withFrP (N := 66) rfl ?_
    intro f0 F0 hff
    have e0 : f0 0 = Value.pointer (some ⟨xb, 0, none⟩) := hff 0
    have e1 : f0 1 = Value.int .i64 0 := hff 1
    have e2 : f0 2 = Value.int .i64 (wn : Int) := hff 2
    have e7 : f0 7 = Value.int .i64 (op : Int) := hff 7
    have e8 : f0 8 = Value.int .i64 (un : Int) := hff 8
    clear hff
    have HCC : (fun wz => wz.cell? ⟨xb, 2, none⟩ = some (Value.slice io il ic) ∧ wz.cell? ⟨xb, 4, none⟩ = some (Value.int .i64 (ou : Int))) (({ w5 with drawn := w5.drawn + 1 } : World)) := ⟨c2, c4⟩
    refine lyp F0 rfl HCC rfl (by omega) (wanted_none rfl) (v := Value.int .i64 (op : Int)) (fun wr hwr => by simp only [execOp, (F0.eval 7 (by omega)).trans (show _ = Value.int .i64 (op : Int) from by simp [upd, e0, e1, e2, e7, e8])]; first | rfl | simp [go_sem]) fun Fp1 => ?_
    refine lyp Fp1 rfl HCC rfl (by omega) (wanted_none rfl) (v := Value.int .i64 (un : Int)) (fun wr hwr => by simp only [execOp, (Fp1.eval 8 (by omega)).trans (show _ = Value.int .i64 (un : Int) from by simp [upd, e0, e1, e2, e7, e8])]; first | rfl | simp [go_sem]) fun Fp2 => ?_
    refine lyp Fp2 rfl HCC rfl (by omega) (wanted_none rfl) (v := Value.bool true) (fun wr hwr => by simp only [execOp, (Fp2.eval 26 (by omega)).trans (show _ = Value.int .i64 (op : Int) from by simp [upd, e0, e1, e2, e7, e8]), (Fp2.eval 27 (by omega)).trans (show _ = Value.int .i64 (un : Int) from by simp [upd, e0, e1, e2, e7, e8])]; simp [go_sem, Act.eval, h1]) fun Fp3 => ?_
    refine lyp Fp3 rfl HCC rfl (by omega) (wanted_none rfl) (v := Value.bool true) (fun wr hwr => by simp only [execOp, (Fp3.eval 28 (by omega)).trans (show _ = Value.bool true from by simp [upd, e0, e1, e2, e7, e8])]; first | rfl | simp [go_sem]) fun Fp4 => ?_
    refine lyp Fp4 rfl HCC rfl (by omega) (want_yes Fp4 rfl (e := 29) rfl (by omega) (show _ = Value.bool true from by simp [upd, e0, e1, e2, e7, e8])) (v := Value.int .i64 (op : Int)) (fun wr hwr => by simp only [execOp, (Fp4.eval 7 (by omega)).trans (show _ = Value.int .i64 (op : Int) from by simp [upd, e0, e1, e2, e7, e8])]; first | rfl | simp [go_sem]) fun Fp5 => ?_
    refine lyp Fp5 rfl HCC rfl (by omega) (want_yes Fp5 rfl (e := 29) rfl (by omega) (show _ = Value.bool true from by simp [upd, e0, e1, e2, e7, e8])) (v := Value.int .i64 (wn : Int)) (fun wr hwr => by simp only [execOp, (Fp5.eval 2 (by omega)).trans (show _ = Value.int .i64 (wn : Int) from by simp [upd, e0, e1, e2, e7, e8])]; first | rfl | simp [go_sem]) fun Fp6 => ?_
    refine lyp Fp6 rfl HCC rfl (by omega) (want_yes Fp6 rfl (e := 29) rfl (by omega) (show _ = Value.bool true from by simp [upd, e0, e1, e2, e7, e8])) (v := Value.bool true) (fun wr hwr => by simp only [execOp, (Fp6.eval 30 (by omega)).trans (show _ = Value.int .i64 (op : Int) from by simp [upd, e0, e1, e2, e7, e8]), (Fp6.eval 31 (by omega)).trans (show _ = Value.int .i64 (wn : Int) from by simp [upd, e0, e1, e2, e7, e8])]; simp [go_sem, Act.eval, h2]) fun Fp7 => ?_
    refine lyp Fp7 rfl HCC rfl (by omega) (wanted_none rfl) (v := Value.bool true) (fun wr hwr => by simp only [execOp, (Fp7.eval 29 (by omega)).trans (show _ = Value.bool true from by simp [upd, e0, e1, e2, e7, e8]), (Fp7.eval 32 (by omega)).trans (show _ = Value.bool true from by simp [upd, e0, e1, e2, e7, e8])]; simp [go_sem, Act.eval]) fun Fp8 => ?_
    refine lyp Fp8 rfl HCC rfl (by omega) (wanted_none rfl) (v := Value.bool true) (fun wr hwr => by simp only [execOp, (Fp8.eval 33 (by omega)).trans (show _ = Value.bool true from by simp [upd, e0, e1, e2, e7, e8])]; first | rfl | simp [go_sem]) fun Fp9 => ?_
    refine lyp Fp9 rfl HCC rfl (by omega) (want_yes Fp9 rfl (e := 34) rfl (by omega) (show _ = Value.bool true from by simp [upd, e0, e1, e2, e7, e8])) (v := Value.pointer (some ⟨xb, 0, none⟩)) (fun wr hwr => by simp only [execOp, (Fp9.eval 0 (by omega)).trans (show _ = Value.pointer (some ⟨xb, 0, none⟩) from by simp [upd, e0, e1, e2, e7, e8])]; first | rfl | simp [go_sem]) fun Fp10 => ?_
    refine lyp Fp10 rfl HCC rfl (by omega) (want_yes Fp10 rfl (e := 34) rfl (by omega) (show _ = Value.bool true from by simp [upd, e0, e1, e2, e7, e8])) (v := Value.int .i64 0) (fun wr hwr => by simp only [execOp, (Fp10.eval 1 (by omega)).trans (show _ = Value.int .i64 0 from by simp [upd, e0, e1, e2, e7, e8])]; first | rfl | simp [go_sem]) fun Fp11 => ?_
    refine lyp Fp11 rfl HCC rfl (by omega) (want_yes Fp11 rfl (e := 34) rfl (by omega) (show _ = Value.bool true from by simp [upd, e0, e1, e2, e7, e8])) (v := Value.pointer (some ⟨xb, 0, none⟩)) (fun wr hwr => by simp only [execOp, (Fp11.eval 35 (by omega)).trans (show _ = Value.pointer (some ⟨xb, 0, none⟩) from by simp [upd, e0, e1, e2, e7, e8])]; simp [go_sem]) fun Fp12 => ?_
    refine lyp Fp12 rfl HCC rfl (by omega) (want_yes Fp12 rfl (e := 34) rfl (by omega) (show _ = Value.bool true from by simp [upd, e0, e1, e2, e7, e8])) (v := Value.pointer (some ⟨xb, 2, none⟩)) (fun wr hwr => by simp only [execOp, (Fp12.eval 37 (by omega)).trans (show _ = Value.pointer (some ⟨xb, 0, none⟩) from by simp [upd, e0, e1, e2, e7, e8])]; simp [go_sem]) fun Fp13 => ?_
    refine lyp Fp13 rfl HCC rfl (by omega) (want_yes Fp13 rfl (e := 34) rfl (by omega) (show _ = Value.bool true from by simp [upd, e0, e1, e2, e7, e8])) (v := Value.pointer (some ⟨xb, 2, none⟩)) (fun wr hwr => by simp only [execOp, (Fp13.eval 38 (by omega)).trans (show _ = Value.pointer (some ⟨xb, 2, none⟩) from by simp [upd, e0, e1, e2, e7, e8]), (Fp13.eval 36 (by omega)).trans (show _ = Value.int .i64 0 from by simp [upd, e0, e1, e2, e7, e8])]; simp [go_sem, Act.eval]) fun Fp14 => ?_
    refine lyp Fp14 rfl HCC rfl (by omega) (want_yes Fp14 rfl (e := 34) rfl (by omega) (show _ = Value.bool true from by simp [upd, e0, e1, e2, e7, e8])) (v := Value.slice io il ic) (fun wr hwr => by simp only [execOp, (Fp14.eval 39 (by omega)).trans (show _ = Value.pointer (some ⟨xb, 2, none⟩) from by simp [upd, e0, e1, e2, e7, e8])]; simp [go_sem, hwr.1]) fun Fp15 => ?_
    refine lyp Fp15 rfl HCC rfl (by omega) (want_yes Fp15 rfl (e := 34) rfl (by omega) (show _ = Value.bool true from by simp [upd, e0, e1, e2, e7, e8])) (v := Value.int .i64 (il : Nat)) (fun wr hwr => by simp only [execOp, resolve, invoke, builtin, List.map_toArray, List.map_cons, List.map_nil, (Fp15.eval 40 (by omega)).trans (show _ = Value.slice io il ic from by simp [upd, e0, e1, e2, e7, e8])]; simp [go_sem, Builtin.len_, Builtin.lenOf]) fun Fp16 => ?_
    refine lyp Fp16 rfl HCC rfl (by omega) (want_yes Fp16 rfl (e := 34) rfl (by omega) (show _ = Value.bool true from by simp [upd, e0, e1, e2, e7, e8])) (v := Value.int .i64 (op : Int)) (fun wr hwr => by simp only [execOp, (Fp16.eval 7 (by omega)).trans (show _ = Value.int .i64 (op : Int) from by simp [upd, e0, e1, e2, e7, e8])]; first | rfl | simp [go_sem]) fun Fp17 => ?_
    refine lyp Fp17 rfl HCC rfl (by omega) (want_yes Fp17 rfl (e := 34) rfl (by omega) (show _ = Value.bool true from by simp [upd, e0, e1, e2, e7, e8])) (v := Value.int .i64 ((il : Int) - (op : Int))) (fun wr hwr => by simp only [execOp, (Fp17.eval 41 (by omega)).trans (show _ = Value.int .i64 (il : Nat) from by simp [upd, e0, e1, e2, e7, e8]), (Fp17.eval 42 (by omega)).trans (show _ = Value.int .i64 (op : Int) from by simp [upd, e0, e1, e2, e7, e8])]; simp [go_sem, Act.eval, show IntKind.i64.wrap ((il : Int) - (op : Int)) = (il : Int) - (op : Int) from by rw [IntKind.wrap_i64]; omega]) fun Fp18 => ?_
    refine lyp Fp18 rfl HCC rfl (by omega) (want_yes Fp18 rfl (e := 34) rfl (by omega) (show _ = Value.bool true from by simp [upd, e0, e1, e2, e7, e8])) (v := Value.pointer (some ⟨xb, 0, none⟩)) (fun wr hwr => by simp only [execOp, (Fp18.eval 0 (by omega)).trans (show _ = Value.pointer (some ⟨xb, 0, none⟩) from by simp [upd, e0, e1, e2, e7, e8])]; first | rfl | simp [go_sem]) fun Fp19 => ?_
    refine lyp Fp19 rfl HCC rfl (by omega) (want_yes Fp19 rfl (e := 34) rfl (by omega) (show _ = Value.bool true from by simp [upd, e0, e1, e2, e7, e8])) (v := Value.int .i64 0) (fun wr hwr => by simp only [execOp, (Fp19.eval 1 (by omega)).trans (show _ = Value.int .i64 0 from by simp [upd, e0, e1, e2, e7, e8])]; first | rfl | simp [go_sem]) fun Fp20 => ?_
    refine lyp Fp20 rfl HCC rfl (by omega) (want_yes Fp20 rfl (e := 34) rfl (by omega) (show _ = Value.bool true from by simp [upd, e0, e1, e2, e7, e8])) (v := Value.pointer (some ⟨xb, 0, none⟩)) (fun wr hwr => by simp only [execOp, (Fp20.eval 44 (by omega)).trans (show _ = Value.pointer (some ⟨xb, 0, none⟩) from by simp [upd, e0, e1, e2, e7, e8])]; simp [go_sem]) fun Fp21 => ?_
    refine lyp Fp21 rfl HCC rfl (by omega) (want_yes Fp21 rfl (e := 34) rfl (by omega) (show _ = Value.bool true from by simp [upd, e0, e1, e2, e7, e8])) (v := Value.pointer (some ⟨xb, 4, none⟩)) (fun wr hwr => by simp only [execOp, (Fp21.eval 46 (by omega)).trans (show _ = Value.pointer (some ⟨xb, 0, none⟩) from by simp [upd, e0, e1, e2, e7, e8])]; simp [go_sem]) fun Fp22 => ?_
    refine lyp Fp22 rfl HCC rfl (by omega) (want_yes Fp22 rfl (e := 34) rfl (by omega) (show _ = Value.bool true from by simp [upd, e0, e1, e2, e7, e8])) (v := Value.pointer (some ⟨xb, 4, none⟩)) (fun wr hwr => by simp only [execOp, (Fp22.eval 47 (by omega)).trans (show _ = Value.pointer (some ⟨xb, 4, none⟩) from by simp [upd, e0, e1, e2, e7, e8]), (Fp22.eval 45 (by omega)).trans (show _ = Value.int .i64 0 from by simp [upd, e0, e1, e2, e7, e8])]; simp [go_sem, Act.eval]) fun Fp23 => ?_
    refine lyp Fp23 rfl HCC rfl (by omega) (want_yes Fp23 rfl (e := 34) rfl (by omega) (show _ = Value.bool true from by simp [upd, e0, e1, e2, e7, e8])) (v := Value.int .i64 (ou : Int)) (fun wr hwr => by simp only [execOp, (Fp23.eval 48 (by omega)).trans (show _ = Value.pointer (some ⟨xb, 4, none⟩) from by simp [upd, e0, e1, e2, e7, e8])]; simp [go_sem, hwr.2]) fun Fp24 => ?_
    refine lyp Fp24 rfl HCC rfl (by omega) (want_yes Fp24 rfl (e := 34) rfl (by omega) (show _ = Value.bool true from by simp [upd, e0, e1, e2, e7, e8])) (v := Value.bool true) (fun wr hwr => by simp only [execOp, (Fp24.eval 43 (by omega)).trans (show _ = Value.int .i64 ((il : Int) - (op : Int)) from by simp [upd, e0, e1, e2, e7, e8]), (Fp24.eval 49 (by omega)).trans (show _ = Value.int .i64 (ou : Int) from by simp [upd, e0, e1, e2, e7, e8])]; simp [go_sem, Act.eval, h3]) fun Fp25 => ?_
    refine lyp Fp25 rfl HCC rfl (by omega) (wanted_none rfl) (v := Value.bool true) (fun wr hwr => by simp only [execOp, (Fp25.eval 34 (by omega)).trans (show _ = Value.bool true from by simp [upd, e0, e1, e2, e7, e8]), (Fp25.eval 50 (by omega)).trans (show _ = Value.bool true from by simp [upd, e0, e1, e2, e7, e8])]; simp [go_sem, Act.eval]) fun Fp26 => ?_
    refine lyp Fp26 rfl HCC rfl (by omega) (wanted_none rfl) (v := Value.bool true) (fun wr hwr => by simp only [execOp, (Fp26.eval 51 (by omega)).trans (show _ = Value.bool true from by simp [upd, e0, e1, e2, e7, e8])]; first | rfl | simp [go_sem]) fun Fp27 => ?_
    refine lyp Fp27 rfl HCC rfl (by omega) (want_yes Fp27 rfl (e := 52) rfl (by omega) (show _ = Value.bool true from by simp [upd, e0, e1, e2, e7, e8])) (v := Value.int .i64 (op : Int)) (fun wr hwr => by simp only [execOp, (Fp27.eval 7 (by omega)).trans (show _ = Value.int .i64 (op : Int) from by simp [upd, e0, e1, e2, e7, e8])]; first | rfl | simp [go_sem]) fun Fp28 => ?_
    refine lyp Fp28 rfl HCC rfl (by omega) (want_yes Fp28 rfl (e := 52) rfl (by omega) (show _ = Value.bool true from by simp [upd, e0, e1, e2, e7, e8])) (v := Value.bool true) (fun wr hwr => by simp only [execOp, (Fp28.eval 53 (by omega)).trans (show _ = Value.int .i64 (op : Int) from by simp [upd, e0, e1, e2, e7, e8])]; simp [go_sem, Act.eval, h4p, h4]) fun Fp29 => ?_
    refine lyp Fp29 rfl HCC rfl (by omega) (want_yes Fp29 rfl (e := 52) rfl (by omega) (show _ = Value.bool true from by simp [upd, e0, e1, e2, e7, e8])) (v := Value.bool true) (fun wr hwr => by simp only [execOp, (Fp29.eval 54 (by omega)).trans (show _ = Value.bool true from by simp [upd, e0, e1, e2, e7, e8])]; first | rfl | simp [go_sem]) fun Fp30 => ?_
    refine lnp Fp30 rfl HCC rfl (by omega) (want_no Fp30 rfl (e := 55) rfl (by omega) (show _ = Value.bool true from by simp [upd, e0, e1, e2, e7, e8]) (by decide)) fun Fp31 => ?_
    refine lnp Fp31 rfl HCC rfl (by omega) (want_no Fp31 rfl (e := 55) rfl (by omega) (show _ = Value.bool true from by simp [upd, e0, e1, e2, e7, e8]) (by decide)) fun Fp32 => ?_
    refine lnp Fp32 rfl HCC rfl (by omega) (want_no Fp32 rfl (e := 55) rfl (by omega) (show _ = Value.bool true from by simp [upd, e0, e1, e2, e7, e8]) (by decide)) fun Fp33 => ?_
    refine lnp Fp33 rfl HCC rfl (by omega) (want_no Fp33 rfl (e := 55) rfl (by omega) (show _ = Value.bool true from by simp [upd, e0, e1, e2, e7, e8]) (by decide)) fun Fp34 => ?_
    refine lnp Fp34 rfl HCC rfl (by omega) (want_no Fp34 rfl (e := 55) rfl (by omega) (show _ = Value.bool true from by simp [upd, e0, e1, e2, e7, e8]) (by decide)) fun Fp35 => ?_
    refine lnp Fp35 rfl HCC rfl (by omega) (want_no Fp35 rfl (e := 55) rfl (by omega) (show _ = Value.bool true from by simp [upd, e0, e1, e2, e7, e8]) (by decide)) fun Fp36 => ?_
    refine lnp Fp36 rfl HCC rfl (by omega) (want_no Fp36 rfl (e := 55) rfl (by omega) (show _ = Value.bool true from by simp [upd, e0, e1, e2, e7, e8]) (by decide)) fun Fp37 => ?_
    refine lnp Fp37 rfl HCC rfl (by omega) (want_no Fp37 rfl (e := 55) rfl (by omega) (show _ = Value.bool true from by simp [upd, e0, e1, e2, e7, e8]) (by decide)) fun Fp38 => ?_
    refine lyp Fp38 rfl HCC rfl (by omega) (want_yes Fp38 rfl (e := 52) rfl (by omega) (show _ = Value.bool true from by simp [upd, e0, e1, e2, e7, e8])) (v := Value.bool true) (fun wr hwr => by simp only [execOp, (Fp38.eval 55 (by omega)).trans (show _ = Value.bool true from by simp [upd, e0, e1, e2, e7, e8])]; simp [go_sem, Act.eval]) fun Fp39 => ?_
    refine lyp Fp39 rfl HCC rfl (by omega) (wanted_none rfl) (v := Value.bool true) (fun wr hwr => by simp only [execOp, (Fp39.eval 52 (by omega)).trans (show _ = Value.bool true from by simp [upd, e0, e1, e2, e7, e8]), (Fp39.eval 64 (by omega)).trans (show _ = Value.bool true from by simp [upd, e0, e1, e2, e7, e8])]; simp [go_sem, Act.eval]) fun Fp40 => ?_
    refine lyp Fp40 rfl HCC rfl (by omega) (wanted_none rfl) (v := Value.bool true) (fun wr hwr => by simp only [execOp, (Fp40.eval 65 (by omega)).trans (show _ = Value.bool true from by simp [upd, e0, e1, e2, e7, e8])]; first | rfl | simp [go_sem]) fun Fp41 => ?_
    refine ⟨fun _ => HCC, ?_⟩
    refine hK _ _ ?_
    clear F0 Fp1 Fp2 Fp3 Fp4 Fp5 Fp6 Fp7 Fp8 Fp9 Fp10 Fp11 Fp12 Fp13 Fp14 Fp15 Fp16 Fp17 Fp18 Fp19 Fp20 Fp21 Fp22 Fp23 Fp24 Fp25 Fp26 Fp27 Fp28 Fp29 Fp30 Fp31 Fp32 Fp33 Fp34 Fp35 Fp36 Fp37 Fp38 Fp39 Fp40 Fp41 e0 e1 e2 e7 e8 HCC
    simp only [Act.put, List.setIfInBounds_toArray, List.set_cons_succ, List.set_cons_zero]
    go_wp2_with fail
    go_ret
    exact ⟨rfl, HB5.out.drew⟩
  · have h4p : ¬ (op : Int) = 0 := by omega
    replace h5 := h5 h4
    rename_i K hK
    try rw [show ∀ a : Act, a.put none undef = a from fun _ => rfl]
    refine wp_region_mix (fun wz => wz.cell? ⟨xb, 2, none⟩ = some (Value.slice io il ic) ∧ wz.cell? ⟨xb, 4, none⟩ = some (Value.int .i64 (ou : Int))) (fun i => i == 99) 99 (by kernel_rfl) rfl (by kernel_rfl) (by kernel_rfl) (by kernel_rfl) ?_
    refine withFrP (N := 66) rfl ?_
    intro f0 F0 hff
    have e0 : f0 0 = Value.pointer (some ⟨xb, 0, none⟩) := hff 0
    have e1 : f0 1 = Value.int .i64 0 := hff 1
    have e2 : f0 2 = Value.int .i64 (wn : Int) := hff 2
    have e7 : f0 7 = Value.int .i64 (op : Int) := hff 7
    have e8 : f0 8 = Value.int .i64 (un : Int) := hff 8
    clear hff
    have HCC : (fun wz => wz.cell? ⟨xb, 2, none⟩ = some (Value.slice io il ic) ∧ wz.cell? ⟨xb, 4, none⟩ = some (Value.int .i64 (ou : Int))) (({ w5 with drawn := w5.drawn + 1 } : World)) := ⟨c2, c4⟩
    refine lyp F0 rfl HCC rfl (by omega) (wanted_none rfl) (v := Value.int .i64 (op : Int)) (fun wr hwr => by simp only [execOp, (F0.eval 7 (by omega)).trans (show _ = Value.int .i64 (op : Int) from by simp [upd, e0, e1, e2, e7, e8])]; first | rfl | simp [go_sem]) fun Fp1 => ?_
    refine lyp Fp1 rfl HCC rfl (by omega) (wanted_none rfl) (v := Value.int .i64 (un : Int)) (fun wr hwr => by simp only [execOp, (Fp1.eval 8 (by omega)).trans (show _ = Value.int .i64 (un : Int) from by simp [upd, e0, e1, e2, e7, e8])]; first | rfl | simp [go_sem]) fun Fp2 => ?_
    refine lyp Fp2 rfl HCC rfl (by omega) (wanted_none rfl) (v := Value.bool true) (fun wr hwr => by simp only [execOp, (Fp2.eval 26 (by omega)).trans (show _ = Value.int .i64 (op : Int) from by simp [upd, e0, e1, e2, e7, e8]), (Fp2.eval 27 (by omega)).trans (show _ = Value.int .i64 (un : Int) from by simp [upd, e0, e1, e2, e7, e8])]; simp [go_sem, Act.eval, h1]) fun Fp3 => ?_
    refine lyp Fp3 rfl HCC rfl (by omega) (wanted_none rfl) (v := Value.bool true) (fun wr hwr => by simp only [execOp, (Fp3.eval 28 (by omega)).trans (show _ = Value.bool true from by simp [upd, e0, e1, e2, e7, e8])]; first | rfl | simp [go_sem]) fun Fp4 => ?_
    refine lyp Fp4 rfl HCC rfl (by omega) (want_yes Fp4 rfl (e := 29) rfl (by omega) (show _ = Value.bool true from by simp [upd, e0, e1, e2, e7, e8])) (v := Value.int .i64 (op : Int)) (fun wr hwr => by simp only [execOp, (Fp4.eval 7 (by omega)).trans (show _ = Value.int .i64 (op : Int) from by simp [upd, e0, e1, e2, e7, e8])]; first | rfl | simp [go_sem]) fun Fp5 => ?_
    refine lyp Fp5 rfl HCC rfl (by omega) (want_yes Fp5 rfl (e := 29) rfl (by omega) (show _ = Value.bool true from by simp [upd, e0, e1, e2, e7, e8])) (v := Value.int .i64 (wn : Int)) (fun wr hwr => by simp only [execOp, (Fp5.eval 2 (by omega)).trans (show _ = Value.int .i64 (wn : Int) from by simp [upd, e0, e1, e2, e7, e8])]; first | rfl | simp [go_sem]) fun Fp6 => ?_
    refine lyp Fp6 rfl HCC rfl (by omega) (want_yes Fp6 rfl (e := 29) rfl (by omega) (show _ = Value.bool true from by simp [upd, e0, e1, e2, e7, e8])) (v := Value.bool true) (fun wr hwr => by simp only [execOp, (Fp6.eval 30 (by omega)).trans (show _ = Value.int .i64 (op : Int) from by simp [upd, e0, e1, e2, e7, e8]), (Fp6.eval 31 (by omega)).trans (show _ = Value.int .i64 (wn : Int) from by simp [upd, e0, e1, e2, e7, e8])]; simp [go_sem, Act.eval, h2]) fun Fp7 => ?_
    refine lyp Fp7 rfl HCC rfl (by omega) (wanted_none rfl) (v := Value.bool true) (fun wr hwr => by simp only [execOp, (Fp7.eval 29 (by omega)).trans (show _ = Value.bool true from by simp [upd, e0, e1, e2, e7, e8]), (Fp7.eval 32 (by omega)).trans (show _ = Value.bool true from by simp [upd, e0, e1, e2, e7, e8])]; simp [go_sem, Act.eval]) fun Fp8 => ?_
    refine lyp Fp8 rfl HCC rfl (by omega) (wanted_none rfl) (v := Value.bool true) (fun wr hwr => by simp only [execOp, (Fp8.eval 33 (by omega)).trans (show _ = Value.bool true from by simp [upd, e0, e1, e2, e7, e8])]; first | rfl | simp [go_sem]) fun Fp9 => ?_
    refine lyp Fp9 rfl HCC rfl (by omega) (want_yes Fp9 rfl (e := 34) rfl (by omega) (show _ = Value.bool true from by simp [upd, e0, e1, e2, e7, e8])) (v := Value.pointer (some ⟨xb, 0, none⟩)) (fun wr hwr => by simp only [execOp, (Fp9.eval 0 (by omega)).trans (show _ = Value.pointer (some ⟨xb, 0, none⟩) from by simp [upd, e0, e1, e2, e7, e8])]; first | rfl | simp [go_sem]) fun Fp10 => ?_
    refine lyp Fp10 rfl HCC rfl (by omega) (want_yes Fp10 rfl (e := 34) rfl (by omega) (show _ = Value.bool true from by simp [upd, e0, e1, e2, e7, e8])) (v := Value.int .i64 0) (fun wr hwr => by simp only [execOp, (Fp10.eval 1 (by omega)).trans (show _ = Value.int .i64 0 from by simp [upd, e0, e1, e2, e7, e8])]; first | rfl | simp [go_sem]) fun Fp11 => ?_
    refine lyp Fp11 rfl HCC rfl (by omega) (want_yes Fp11 rfl (e := 34) rfl (by omega) (show _ = Value.bool true from by simp [upd, e0, e1, e2, e7, e8])) (v := Value.pointer (some ⟨xb, 0, none⟩)) (fun wr hwr => by simp only [execOp, (Fp11.eval 35 (by omega)).trans (show _ = Value.pointer (some ⟨xb, 0, none⟩) from by simp [upd, e0, e1, e2, e7, e8])]; simp [go_sem]) fun Fp12 => ?_
    refine lyp Fp12 rfl HCC rfl (by omega) (want_yes Fp12 rfl (e := 34) rfl (by omega) (show _ = Value.bool true from by simp [upd, e0, e1, e2, e7, e8])) (v := Value.pointer (some ⟨xb, 2, none⟩)) (fun wr hwr => by simp only [execOp, (Fp12.eval 37 (by omega)).trans (show _ = Value.pointer (some ⟨xb, 0, none⟩) from by simp [upd, e0, e1, e2, e7, e8])]; simp [go_sem]) fun Fp13 => ?_
    refine lyp Fp13 rfl HCC rfl (by omega) (want_yes Fp13 rfl (e := 34) rfl (by omega) (show _ = Value.bool true from by simp [upd, e0, e1, e2, e7, e8])) (v := Value.pointer (some ⟨xb, 2, none⟩)) (fun wr hwr => by simp only [execOp, (Fp13.eval 38 (by omega)).trans (show _ = Value.pointer (some ⟨xb, 2, none⟩) from by simp [upd, e0, e1, e2, e7, e8]), (Fp13.eval 36 (by omega)).trans (show _ = Value.int .i64 0 from by simp [upd, e0, e1, e2, e7, e8])]; simp [go_sem, Act.eval]) fun Fp14 => ?_
    refine lyp Fp14 rfl HCC rfl (by omega) (want_yes Fp14 rfl (e := 34) rfl (by omega) (show _ = Value.bool true from by simp [upd, e0, e1, e2, e7, e8])) (v := Value.slice io il ic) (fun wr hwr => by simp only [execOp, (Fp14.eval 39 (by omega)).trans (show _ = Value.pointer (some ⟨xb, 2, none⟩) from by simp [upd, e0, e1, e2, e7, e8])]; simp [go_sem, hwr.1]) fun Fp15 => ?_
    refine lyp Fp15 rfl HCC rfl (by omega) (want_yes Fp15 rfl (e := 34) rfl (by omega) (show _ = Value.bool true from by simp [upd, e0, e1, e2, e7, e8])) (v := Value.int .i64 (il : Nat)) (fun wr hwr => by simp only [execOp, resolve, invoke, builtin, List.map_toArray, List.map_cons, List.map_nil, (Fp15.eval 40 (by omega)).trans (show _ = Value.slice io il ic from by simp [upd, e0, e1, e2, e7, e8])]; simp [go_sem, Builtin.len_, Builtin.lenOf]) fun Fp16 => ?_
    refine lyp Fp16 rfl HCC rfl (by omega) (want_yes Fp16 rfl (e := 34) rfl (by omega) (show _ = Value.bool true from by simp [upd, e0, e1, e2, e7, e8])) (v := Value.int .i64 (op : Int)) (fun wr hwr => by simp only [execOp, (Fp16.eval 7 (by omega)).trans (show _ = Value.int .i64 (op : Int) from by simp [upd, e0, e1, e2, e7, e8])]; first | rfl | simp [go_sem]) fun Fp17 => ?_
    refine lyp Fp17 rfl HCC rfl (by omega) (want_yes Fp17 rfl (e := 34) rfl (by omega) (show _ = Value.bool true from by simp [upd, e0, e1, e2, e7, e8])) (v := Value.int .i64 ((il : Int) - (op : Int))) (fun wr hwr => by simp only [execOp, (Fp17.eval 41 (by omega)).trans (show _ = Value.int .i64 (il : Nat) from by simp [upd, e0, e1, e2, e7, e8]), (Fp17.eval 42 (by omega)).trans (show _ = Value.int .i64 (op : Int) from by simp [upd, e0, e1, e2, e7, e8])]; simp [go_sem, Act.eval, show IntKind.i64.wrap ((il : Int) - (op : Int)) = (il : Int) - (op : Int) from by rw [IntKind.wrap_i64]; omega]) fun Fp18 => ?_
    refine lyp Fp18 rfl HCC rfl (by omega) (want_yes Fp18 rfl (e := 34) rfl (by omega) (show _ = Value.bool true from by simp [upd, e0, e1, e2, e7, e8])) (v := Value.pointer (some ⟨xb, 0, none⟩)) (fun wr hwr => by simp only [execOp, (Fp18.eval 0 (by omega)).trans (show _ = Value.pointer (some ⟨xb, 0, none⟩) from by simp [upd, e0, e1, e2, e7, e8])]; first | rfl | simp [go_sem]) fun Fp19 => ?_
    refine lyp Fp19 rfl HCC rfl (by omega) (want_yes Fp19 rfl (e := 34) rfl (by omega) (show _ = Value.bool true from by simp [upd, e0, e1, e2, e7, e8])) (v := Value.int .i64 0) (fun wr hwr => by simp only [execOp, (Fp19.eval 1 (by omega)).trans (show _ = Value.int .i64 0 from by simp [upd, e0, e1, e2, e7, e8])]; first | rfl | simp [go_sem]) fun Fp20 => ?_
    refine lyp Fp20 rfl HCC rfl (by omega) (want_yes Fp20 rfl (e := 34) rfl (by omega) (show _ = Value.bool true from by simp [upd, e0, e1, e2, e7, e8])) (v := Value.pointer (some ⟨xb, 0, none⟩)) (fun wr hwr => by simp only [execOp, (Fp20.eval 44 (by omega)).trans (show _ = Value.pointer (some ⟨xb, 0, none⟩) from by simp [upd, e0, e1, e2, e7, e8])]; simp [go_sem]) fun Fp21 => ?_
    refine lyp Fp21 rfl HCC rfl (by omega) (want_yes Fp21 rfl (e := 34) rfl (by omega) (show _ = Value.bool true from by simp [upd, e0, e1, e2, e7, e8])) (v := Value.pointer (some ⟨xb, 4, none⟩)) (fun wr hwr => by simp only [execOp, (Fp21.eval 46 (by omega)).trans (show _ = Value.pointer (some ⟨xb, 0, none⟩) from by simp [upd, e0, e1, e2, e7, e8])]; simp [go_sem]) fun Fp22 => ?_
    refine lyp Fp22 rfl HCC rfl (by omega) (want_yes Fp22 rfl (e := 34) rfl (by omega) (show _ = Value.bool true from by simp [upd, e0, e1, e2, e7, e8])) (v := Value.pointer (some ⟨xb, 4, none⟩)) (fun wr hwr => by simp only [execOp, (Fp22.eval 47 (by omega)).trans (show _ = Value.pointer (some ⟨xb, 4, none⟩) from by simp [upd, e0, e1, e2, e7, e8]), (Fp22.eval 45 (by omega)).trans (show _ = Value.int .i64 0 from by simp [upd, e0, e1, e2, e7, e8])]; simp [go_sem, Act.eval]) fun Fp23 => ?_
    refine lyp Fp23 rfl HCC rfl (by omega) (want_yes Fp23 rfl (e := 34) rfl (by omega) (show _ = Value.bool true from by simp [upd, e0, e1, e2, e7, e8])) (v := Value.int .i64 (ou : Int)) (fun wr hwr => by simp only [execOp, (Fp23.eval 48 (by omega)).trans (show _ = Value.pointer (some ⟨xb, 4, none⟩) from by simp [upd, e0, e1, e2, e7, e8])]; simp [go_sem, hwr.2]) fun Fp24 => ?_
    refine lyp Fp24 rfl HCC rfl (by omega) (want_yes Fp24 rfl (e := 34) rfl (by omega) (show _ = Value.bool true from by simp [upd, e0, e1, e2, e7, e8])) (v := Value.bool true) (fun wr hwr => by simp only [execOp, (Fp24.eval 43 (by omega)).trans (show _ = Value.int .i64 ((il : Int) - (op : Int)) from by simp [upd, e0, e1, e2, e7, e8]), (Fp24.eval 49 (by omega)).trans (show _ = Value.int .i64 (ou : Int) from by simp [upd, e0, e1, e2, e7, e8])]; simp [go_sem, Act.eval, h3]) fun Fp25 => ?_
    refine lyp Fp25 rfl HCC rfl (by omega) (wanted_none rfl) (v := Value.bool true) (fun wr hwr => by simp only [execOp, (Fp25.eval 34 (by omega)).trans (show _ = Value.bool true from by simp [upd, e0, e1, e2, e7, e8]), (Fp25.eval 50 (by omega)).trans (show _ = Value.bool true from by simp [upd, e0, e1, e2, e7, e8])]; simp [go_sem, Act.eval]) fun Fp26 => ?_
    refine lyp Fp26 rfl HCC rfl (by omega) (wanted_none rfl) (v := Value.bool true) (fun wr hwr => by simp only [execOp, (Fp26.eval 51 (by omega)).trans (show _ = Value.bool true from by simp [upd, e0, e1, e2, e7, e8])]; first | rfl | simp [go_sem]) fun Fp27 => ?_
    refine lyp Fp27 rfl HCC rfl (by omega) (want_yes Fp27 rfl (e := 52) rfl (by omega) (show _ = Value.bool true from by simp [upd, e0, e1, e2, e7, e8])) (v := Value.int .i64 (op : Int)) (fun wr hwr => by simp only [execOp, (Fp27.eval 7 (by omega)).trans (show _ = Value.int .i64 (op : Int) from by simp [upd, e0, e1, e2, e7, e8])]; first | rfl | simp [go_sem]) fun Fp28 => ?_
    refine lyp Fp28 rfl HCC rfl (by omega) (want_yes Fp28 rfl (e := 52) rfl (by omega) (show _ = Value.bool true from by simp [upd, e0, e1, e2, e7, e8])) (v := Value.bool false) (fun wr hwr => by simp only [execOp, (Fp28.eval 53 (by omega)).trans (show _ = Value.int .i64 (op : Int) from by simp [upd, e0, e1, e2, e7, e8])]; simp [go_sem, Act.eval, h4p, h4]) fun Fp29 => ?_
    refine lyp Fp29 rfl HCC rfl (by omega) (want_yes Fp29 rfl (e := 52) rfl (by omega) (show _ = Value.bool true from by simp [upd, e0, e1, e2, e7, e8])) (v := Value.bool false) (fun wr hwr => by simp only [execOp, (Fp29.eval 54 (by omega)).trans (show _ = Value.bool false from by simp [upd, e0, e1, e2, e7, e8])]; first | rfl | simp [go_sem]) fun Fp30 => ?_
    refine lyp Fp30 rfl HCC rfl (by omega) (want_yes Fp30 rfl (e := 55) rfl (by omega) (show _ = Value.bool false from by simp [upd, e0, e1, e2, e7, e8])) (v := Value.pointer (some ⟨xb, 0, none⟩)) (fun wr hwr => by simp only [execOp, (Fp30.eval 0 (by omega)).trans (show _ = Value.pointer (some ⟨xb, 0, none⟩) from by simp [upd, e0, e1, e2, e7, e8])]; first | rfl | simp [go_sem]) fun Fp31 => ?_
    refine lyp Fp31 rfl HCC rfl (by omega) (want_yes Fp31 rfl (e := 55) rfl (by omega) (show _ = Value.bool false from by simp [upd, e0, e1, e2, e7, e8])) (v := Value.int .i64 0) (fun wr hwr => by simp only [execOp, (Fp31.eval 1 (by omega)).trans (show _ = Value.int .i64 0 from by simp [upd, e0, e1, e2, e7, e8])]; first | rfl | simp [go_sem]) fun Fp32 => ?_
    refine lyp Fp32 rfl HCC rfl (by omega) (want_yes Fp32 rfl (e := 55) rfl (by omega) (show _ = Value.bool false from by simp [upd, e0, e1, e2, e7, e8])) (v := Value.pointer (some ⟨xb, 0, none⟩)) (fun wr hwr => by simp only [execOp, (Fp32.eval 56 (by omega)).trans (show _ = Value.pointer (some ⟨xb, 0, none⟩) from by simp [upd, e0, e1, e2, e7, e8])]; simp [go_sem]) fun Fp33 => ?_
    refine lyp Fp33 rfl HCC rfl (by omega) (want_yes Fp33 rfl (e := 55) rfl (by omega) (show _ = Value.bool false from by simp [upd, e0, e1, e2, e7, e8])) (v := Value.pointer (some ⟨xb, 2, none⟩)) (fun wr hwr => by simp only [execOp, (Fp33.eval 58 (by omega)).trans (show _ = Value.pointer (some ⟨xb, 0, none⟩) from by simp [upd, e0, e1, e2, e7, e8])]; simp [go_sem]) fun Fp34 => ?_
    refine lyp Fp34 rfl HCC rfl (by omega) (want_yes Fp34 rfl (e := 55) rfl (by omega) (show _ = Value.bool false from by simp [upd, e0, e1, e2, e7, e8])) (v := Value.pointer (some ⟨xb, 2, none⟩)) (fun wr hwr => by simp only [execOp, (Fp34.eval 59 (by omega)).trans (show _ = Value.pointer (some ⟨xb, 2, none⟩) from by simp [upd, e0, e1, e2, e7, e8]), (Fp34.eval 57 (by omega)).trans (show _ = Value.int .i64 0 from by simp [upd, e0, e1, e2, e7, e8])]; simp [go_sem, Act.eval]) fun Fp35 => ?_
    refine lyp Fp35 rfl HCC rfl (by omega) (want_yes Fp35 rfl (e := 55) rfl (by omega) (show _ = Value.bool false from by simp [upd, e0, e1, e2, e7, e8])) (v := Value.slice io il ic) (fun wr hwr => by simp only [execOp, (Fp35.eval 60 (by omega)).trans (show _ = Value.pointer (some ⟨xb, 2, none⟩) from by simp [upd, e0, e1, e2, e7, e8])]; simp [go_sem, hwr.1]) fun Fp36 => ?_
    refine lyp Fp36 rfl HCC rfl (by omega) (want_yes Fp36 rfl (e := 55) rfl (by omega) (show _ = Value.bool false from by simp [upd, e0, e1, e2, e7, e8])) (v := Value.int .i64 (il : Nat)) (fun wr hwr => by simp only [execOp, resolve, invoke, builtin, List.map_toArray, List.map_cons, List.map_nil, (Fp36.eval 61 (by omega)).trans (show _ = Value.slice io il ic from by simp [upd, e0, e1, e2, e7, e8])]; simp [go_sem, Builtin.len_, Builtin.lenOf]) fun Fp37 => ?_
    refine lyp Fp37 rfl HCC rfl (by omega) (want_yes Fp37 rfl (e := 55) rfl (by omega) (show _ = Value.bool false from by simp [upd, e0, e1, e2, e7, e8])) (v := Value.bool true) (fun wr hwr => by simp only [execOp, (Fp37.eval 62 (by omega)).trans (show _ = Value.int .i64 (il : Nat) from by simp [upd, e0, e1, e2, e7, e8])]; simp [go_sem, Act.eval, h5]) fun Fp38 => ?_
    refine lyp Fp38 rfl HCC rfl (by omega) (want_yes Fp38 rfl (e := 52) rfl (by omega) (show _ = Value.bool true from by simp [upd, e0, e1, e2, e7, e8])) (v := Value.bool true) (fun wr hwr => by simp only [execOp, (Fp38.eval 55 (by omega)).trans (show _ = Value.bool false from by simp [upd, e0, e1, e2, e7, e8]), (Fp38.eval 63 (by omega)).trans (show _ = Value.bool true from by simp [upd, e0, e1, e2, e7, e8])]; simp [go_sem, Act.eval]) fun Fp39 => ?_
    refine lyp Fp39 rfl HCC rfl (by omega) (wanted_none rfl) (v := Value.bool true) (fun wr hwr => by simp only [execOp, (Fp39.eval 52 (by omega)).trans (show _ = Value.bool true from by simp [upd, e0, e1, e2, e7, e8]), (Fp39.eval 64 (by omega)).trans (show _ = Value.bool true from by simp [upd, e0, e1, e2, e7, e8])]; simp [go_sem, Act.eval]) fun Fp40 => ?_
    refine lyp Fp40 rfl HCC rfl (by omega) (wanted_none rfl) (v := Value.bool true) (fun wr hwr => by simp only [execOp, (Fp40.eval 65 (by omega)).trans (show _ = Value.bool true from by simp [upd, e0, e1, e2, e7, e8])]; first | rfl | simp [go_sem]) fun Fp41 => ?_
    refine ⟨fun _ => HCC, ?_⟩
    refine hK _ _ ?_
    clear F0 Fp1 Fp2 Fp3 Fp4 Fp5 Fp6 Fp7 Fp8 Fp9 Fp10 Fp11 Fp12 Fp13 Fp14 Fp15 Fp16 Fp17 Fp18 Fp19 Fp20 Fp21 Fp22 Fp23 Fp24 Fp25 Fp26 Fp27 Fp28 Fp29 Fp30 Fp31 Fp32 Fp33 Fp34 Fp35 Fp36 Fp37 Fp38 Fp39 Fp40 Fp41 e0 e1 e2 e7 e8 HCC
    simp only [Act.put, List.setIfInBounds_toArray, List.set_cons_succ, List.set_cons_zero]
    go_wp2_with fail
    go_ret
    exact ⟨rfl, HB5.out.drew⟩
set_option maxRecDepth 100000 in
set_option maxHeartbeats 3200000 in
theorem sound_1 {L xb n t : Nat} {S : Ln} {col : Nat → Nat} {win : Nat → Nat} (w : World) (h : LNM L xb S col w) (hI : LInv S win n t) (ht : t ≤ 400) :
    Calls Try.prog 23 #[.pointer (some ⟨xb, 0, none⟩), .int .i64 1, .int .i64 (win 1 : Int)] w fun e w' => e = .returned (.bool true) ∧ Below w.heap.size w w' := by
  have he := hI.ei 1 (by omega)
  have hm := (h.em 1 (by omega)).lm
  obtain ⟨a, ha⟩ := hI.d 1 (by omega)
  have hwn := hI.wn 1 (by omega)
  have hlen := ha.len
  rw [List.length_map] at hlen
  have hts := he.ts
  have hbx := he.bx
  have hao := ha.ao
  have hgo := ha.go
  have hnx := hI.d 1 (by omega)
  obtain ⟨io, ic, hiv, _⟩ := own_slice (h.em 1 (by omega)).ir
  obtain ⟨wn, hw⟩ : ∃ wn, wn = win 1 := ⟨_, rfl⟩
  obtain ⟨il, hil⟩ : ∃ il, il = (S.e 1).inn.length := ⟨_, rfl⟩
  obtain ⟨un, hun⟩ : ∃ un, un = (S.e 1).x.under.length := ⟨_, rfl⟩
  obtain ⟨bn, hbn⟩ : ∃ bn, bn = (S.e 1).x.box.length := ⟨_, rfl⟩
  obtain ⟨ou, hou⟩ : ∃ ou, ou = (S.e 1).out := ⟨_, rfl⟩
  obtain ⟨op, hop⟩ : ∃ op, op = bn + un := ⟨_, rfl⟩
  rw [← hil] at hlen hts hiv
  rw [← hun] at hlen hbx hgo
  rw [← hbn] at hlen hbx
  rw [← hw] at hbx hwn ⊢
  rw [← hou] at hao hgo
  have c0 : w.cell? ⟨xb, 1, none⟩ = some (.pointer (some ⟨(S.e 1).lb, 0, none⟩)) := h.b.cell 1
  have HC : Hid (w.cell? ⟨xb, 3, none⟩ = some (.slice io il ic) ∧ w.cell? ⟨xb, 5, none⟩ = some (.int .i64 (ou : Int))) := ⟨by rw [← hiv]; exact h.b.cell 3, by rw [hou]; exact h.b.cell 5⟩
  have HX : Hid (xb < w.heap.size) := h.b.lt
  have HRM : Hid _ := room_any w hm (by rw [he.wi, ← hw]; omega) (by rw [← hbn]; omega) (by rw [← hun]; omega)
  have HER : Hid (((S.e 1).x.win : Int) - ((S.e 1).x.box.length : Int) - ((S.e 1).x.under.length : Int) = (wn : Int) - (op : Int)) := show _ = _ from by rw [he.wi, ← hw, ← hbn, ← hun]; omega
  have hds : ∀ d ∈ (S.e 1).x.under, d.s.length ≤ 1000000 := fun d hd => by
    have h1 : d.s ∈ (S.e 1).inn.map Dv.s := by
      have h2 : d.s ∈ ((S.e 1).inn.map Dv.s).drop a := by rw [ha.rest]; exact List.mem_append.2 (.inl (List.mem_map_of_mem hd))
      exact List.mem_of_mem_drop h2
    have := ha.ln _ h1
    omega
  have HUN : Hid (∀ q, Calls Try.prog 14 #[.pointer (some ⟨(S.e 1).lb, 0, none⟩)] (w.drewN q) _) := fun q => under_any (w.drewN q) (hm.more (below_drewN (Below.refl _ _) q)) (by obtain ⟨b, hb⟩ := hI.d (1 - 1) (by omega); have := hb.nx; rw [show 1 - (1 - 1) = 1 from rfl] at this; have h8 := hb.go; have h9 := hb.len; have h10 := (hI.ei (1 - 1) (by omega)).ts; rw [List.length_map] at h9; omega) (by rw [ha.ack]; omega) (by rw [← hun]; omega) hds
  have HEU : Hid ((S.e 1).x.under.length = un) := hun.symm
  have h1 : un ≤ op := by omega
  have h2 : op ≤ wn := by omega
  have h3 : (il : Int) - (op : Int) ≤ (ou : Int) := by omega
  have h5 : ¬ op = 0 → 0 < il := fun _ => by omega
  have hi4 : il ≤ 400 := by omega
  have hw16 : wn ≤ 16 := hwn.2
  clear h hI he hm ha hlen hts hbx hao hgo hiv hw hil hun hbn hou hop hnx hds hwn
  go_enter Try.func23, Try.ntmps23
  go_wp2_with fail
  refine Calls.mono HRM.out ?_
  rintro e w1 ⟨rfl, q, rfl⟩
  rw [HER.out]
  clear HRM HER
  go_wp2_with fail
  refine Calls.mono (HUN.out q) ?_
  rintro e w5 ⟨v5, l5, rfl, hl5, hSL5, hb5⟩
  have hll : l5.length = un := by
    have := congrArg List.length hl5
    rw [List.length_map, tell_len, List.length_map] at this
    rw [this]
    exact HEU.out
  obtain ⟨vo5, vc5, hv5, _⟩ := own_slice hSL5.r
  rw [hll] at hv5
  subst hv5
  have HB5 : Hid (Below w.heap.size w w5) := show Below _ _ _ from ⟨hb5.os, hb5.tape, hb5.output, hb5.size, hb5.block⟩
  have c2 : w5.cell? ⟨xb, 3, none⟩ = some (.slice io il ic) := (HB5.out.cell (p := ⟨xb, 3, none⟩) HX.out).trans HC.out.1
  have c4 : w5.cell? ⟨xb, 5, none⟩ = some (.int .i64 (ou : Int)) := (HB5.out.cell (p := ⟨xb, 5, none⟩) HX.out).trans HC.out.2
  clear hl5 hSL5 hb5 hll HUN HEU c0
  have ewo : (wn : Int) - ((wn : Int) - (op : Int)) = (op : Int) := by omega
  go_upto_region 3 with fail
  try simp only [ewo]
  by_cases h4 : op = 0
  · have h4p : (op : Int) = 0 := by omega
    rename_i K hK
    try rw [show ∀ a : Act, a.put none undef = a from fun _ => rfl]
    refine wp_region_mix (fun wz => wz.cell? ⟨xb, 3, none⟩ = some (Value.slice io il ic) ∧ wz.cell? ⟨xb, 5, none⟩ = some (Value.int .i64 (ou : Int))) (fun i => i == 99) 99 (by kernel_rfl) rfl (by kernel_rfl) (by kernel_rfl) (by kernel_rfl) ?_
    refine withFrP (N := 66) rfl ?_
    intro f0 F0 hff
    have e0 : f0 0 = Value.pointer (some ⟨xb, 0, none⟩) := hff 0
    have e1 : f0 1 = Value.int .i64 1 := hff 1
    have e2 : f0 2 = Value.int .i64 (wn : Int) := hff 2
    have e7 : f0 7 = Value.int .i64 (op : Int) := hff 7
    have e8 : f0 8 = Value.int .i64 (un : Int) := hff 8
    clear hff
    have HCC : (fun wz => wz.cell? ⟨xb, 3, none⟩ = some (Value.slice io il ic) ∧ wz.cell? ⟨xb, 5, none⟩ = some (Value.int .i64 (ou : Int))) (({ w5 with drawn := w5.drawn + 1 } : World)) := ⟨c2, c4⟩
    refine lyp F0 rfl HCC rfl (by omega) (wanted_none rfl) (v := Value.int .i64 (op : Int)) (fun wr hwr => by simp only [execOp, (F0.eval 7 (by omega)).trans (show _ = Value.int .i64 (op : Int) from by simp [upd, e0, e1, e2, e7, e8])]; first | rfl | simp [go_sem]) fun Fp1 => ?_
    refine lyp Fp1 rfl HCC rfl (by omega) (wanted_none rfl) (v := Value.int .i64 (un : Int)) (fun wr hwr => by simp only [execOp, (Fp1.eval 8 (by omega)).trans (show _ = Value.int .i64 (un : Int) from by simp [upd, e0, e1, e2, e7, e8])]; first | rfl | simp [go_sem]) fun Fp2 => ?_
    refine lyp Fp2 rfl HCC rfl (by omega) (wanted_none rfl) (v := Value.bool true) (fun wr hwr => by simp only [execOp, (Fp2.eval 26 (by omega)).trans (show _ = Value.int .i64 (op : Int) from by simp [upd, e0, e1, e2, e7, e8]), (Fp2.eval 27 (by omega)).trans (show _ = Value.int .i64 (un : Int) from by simp [upd, e0, e1, e2, e7, e8])]; simp [go_sem, Act.eval, h1]) fun Fp3 => ?_
    refine lyp Fp3 rfl HCC rfl (by omega) (wanted_none rfl) (v := Value.bool true) (fun wr hwr => by simp only [execOp, (Fp3.eval 28 (by omega)).trans (show _ = Value.bool true from by simp [upd, e0, e1, e2, e7, e8])]; first | rfl | simp [go_sem]) fun Fp4 => ?_
    refine lyp Fp4 rfl HCC rfl (by omega) (want_yes Fp4 rfl (e := 29) rfl (by omega) (show _ = Value.bool true from by simp [upd, e0, e1, e2, e7, e8])) (v := Value.int .i64 (op : Int)) (fun wr hwr => by simp only [execOp, (Fp4.eval 7 (by omega)).trans (show _ = Value.int .i64 (op : Int) from by simp [upd, e0, e1, e2, e7, e8])]; first | rfl | simp [go_sem]) fun Fp5 => ?_
    refine lyp Fp5 rfl HCC rfl (by omega) (want_yes Fp5 rfl (e := 29) rfl (by omega) (show _ = Value.bool true from by simp [upd, e0, e1, e2, e7, e8])) (v := Value.int .i64 (wn : Int)) (fun wr hwr => by simp only [execOp, (Fp5.eval 2 (by omega)).trans (show _ = Value.int .i64 (wn : Int) from by simp [upd, e0, e1, e2, e7, e8])]; first | rfl | simp [go_sem]) fun Fp6 => ?_
    refine lyp Fp6 rfl HCC rfl (by omega) (want_yes Fp6 rfl (e := 29) rfl (by omega) (show _ = Value.bool true from by simp [upd, e0, e1, e2, e7, e8])) (v := Value.bool true) (fun wr hwr => by simp only [execOp, (Fp6.eval 30 (by omega)).trans (show _ = Value.int .i64 (op : Int) from by simp [upd, e0, e1, e2, e7, e8]), (Fp6.eval 31 (by omega)).trans (show _ = Value.int .i64 (wn : Int) from by simp [upd, e0, e1, e2, e7, e8])]; simp [go_sem, Act.eval, h2]) fun Fp7 => ?_
    refine lyp Fp7 rfl HCC rfl (by omega) (wanted_none rfl) (v := Value.bool true) (fun wr hwr => by simp only [execOp, (Fp7.eval 29 (by omega)).trans (show _ = Value.bool true from by simp [upd, e0, e1, e2, e7, e8]), (Fp7.eval 32 (by omega)).trans (show _ = Value.bool true from by simp [upd, e0, e1, e2, e7, e8])]; simp [go_sem, Act.eval]) fun Fp8 => ?_
    refine lyp Fp8 rfl HCC rfl (by omega) (wanted_none rfl) (v := Value.bool true) (fun wr hwr => by simp only [execOp, (Fp8.eval 33 (by omega)).trans (show _ = Value.bool true from by simp [upd, e0, e1, e2, e7, e8])]; first | rfl | simp [go_sem]) fun Fp9 => ?_
    refine lyp Fp9 rfl HCC rfl (by omega) (want_yes Fp9 rfl (e := 34) rfl (by omega) (show _ = Value.bool true from by simp [upd, e0, e1, e2, e7, e8])) (v := Value.pointer (some ⟨xb, 0, none⟩)) (fun wr hwr => by simp only [execOp, (Fp9.eval 0 (by omega)).trans (show _ = Value.pointer (some ⟨xb, 0, none⟩) from by simp [upd, e0, e1, e2, e7, e8])]; first | rfl | simp [go_sem]) fun Fp10 => ?_
    refine lyp Fp10 rfl HCC rfl (by omega) (want_yes Fp10 rfl (e := 34) rfl (by omega) (show _ = Value.bool true from by simp [upd, e0, e1, e2, e7, e8])) (v := Value.int .i64 1) (fun wr hwr => by simp only [execOp, (Fp10.eval 1 (by omega)).trans (show _ = Value.int .i64 1 from by simp [upd, e0, e1, e2, e7, e8])]; first | rfl | simp [go_sem]) fun Fp11 => ?_
    refine lyp Fp11 rfl HCC rfl (by omega) (want_yes Fp11 rfl (e := 34) rfl (by omega) (show _ = Value.bool true from by simp [upd, e0, e1, e2, e7, e8])) (v := Value.pointer (some ⟨xb, 0, none⟩)) (fun wr hwr => by simp only [execOp, (Fp11.eval 35 (by omega)).trans (show _ = Value.pointer (some ⟨xb, 0, none⟩) from by simp [upd, e0, e1, e2, e7, e8])]; simp [go_sem]) fun Fp12 => ?_
    refine lyp Fp12 rfl HCC rfl (by omega) (want_yes Fp12 rfl (e := 34) rfl (by omega) (show _ = Value.bool true from by simp [upd, e0, e1, e2, e7, e8])) (v := Value.pointer (some ⟨xb, 2, none⟩)) (fun wr hwr => by simp only [execOp, (Fp12.eval 37 (by omega)).trans (show _ = Value.pointer (some ⟨xb, 0, none⟩) from by simp [upd, e0, e1, e2, e7, e8])]; simp [go_sem]) fun Fp13 => ?_
    refine lyp Fp13 rfl HCC rfl (by omega) (want_yes Fp13 rfl (e := 34) rfl (by omega) (show _ = Value.bool true from by simp [upd, e0, e1, e2, e7, e8])) (v := Value.pointer (some ⟨xb, 3, none⟩)) (fun wr hwr => by simp only [execOp, (Fp13.eval 38 (by omega)).trans (show _ = Value.pointer (some ⟨xb, 2, none⟩) from by simp [upd, e0, e1, e2, e7, e8]), (Fp13.eval 36 (by omega)).trans (show _ = Value.int .i64 1 from by simp [upd, e0, e1, e2, e7, e8])]; simp [go_sem, Act.eval]) fun Fp14 => ?_
    refine lyp Fp14 rfl HCC rfl (by omega) (want_yes Fp14 rfl (e := 34) rfl (by omega) (show _ = Value.bool true from by simp [upd, e0, e1, e2, e7, e8])) (v := Value.slice io il ic) (fun wr hwr => by simp only [execOp, (Fp14.eval 39 (by omega)).trans (show _ = Value.pointer (some ⟨xb, 3, none⟩) from by simp [upd, e0, e1, e2, e7, e8])]; simp [go_sem, hwr.1]) fun Fp15 => ?_
    refine lyp Fp15 rfl HCC rfl (by omega) (want_yes Fp15 rfl (e := 34) rfl (by omega) (show _ = Value.bool true from by simp [upd, e0, e1, e2, e7, e8])) (v := Value.int .i64 (il : Nat)) (fun wr hwr => by simp only [execOp, resolve, invoke, builtin, List.map_toArray, List.map_cons, List.map_nil, (Fp15.eval 40 (by omega)).trans (show _ = Value.slice io il ic from by simp [upd, e0, e1, e2, e7, e8])]; simp [go_sem, Builtin.len_, Builtin.lenOf]) fun Fp16 => ?_
    refine lyp Fp16 rfl HCC rfl (by omega) (want_yes Fp16 rfl (e := 34) rfl (by omega) (show _ = Value.bool true from by simp [upd, e0, e1, e2, e7, e8])) (v := Value.int .i64 (op : Int)) (fun wr hwr => by simp only [execOp, (Fp16.eval 7 (by omega)).trans (show _ = Value.int .i64 (op : Int) from by simp [upd, e0, e1, e2, e7, e8])]; first | rfl | simp [go_sem]) fun Fp17 => ?_
    refine lyp Fp17 rfl HCC rfl (by omega) (want_yes Fp17 rfl (e := 34) rfl (by omega) (show _ = Value.bool true from by simp [upd, e0, e1, e2, e7, e8])) (v := Value.int .i64 ((il : Int) - (op : Int))) (fun wr hwr => by simp only [execOp, (Fp17.eval 41 (by omega)).trans (show _ = Value.int .i64 (il : Nat) from by simp [upd, e0, e1, e2, e7, e8]), (Fp17.eval 42 (by omega)).trans (show _ = Value.int .i64 (op : Int) from by simp [upd, e0, e1, e2, e7, e8])]; simp [go_sem, Act.eval, show IntKind.i64.wrap ((il : Int) - (op : Int)) = (il : Int) - (op : Int) from by rw [IntKind.wrap_i64]; omega]) fun Fp18 => ?_
    refine lyp Fp18 rfl HCC rfl (by omega) (want_yes Fp18 rfl (e := 34) rfl (by omega) (show _ = Value.bool true from by simp [upd, e0, e1, e2, e7, e8])) (v := Value.pointer (some ⟨xb, 0, none⟩)) (fun wr hwr => by simp only [execOp, (Fp18.eval 0 (by omega)).trans (show _ = Value.pointer (some ⟨xb, 0, none⟩) from by simp [upd, e0, e1, e2, e7, e8])]; first | rfl | simp [go_sem]) fun Fp19 => ?_
    refine lyp Fp19 rfl HCC rfl (by omega) (want_yes Fp19 rfl (e := 34) rfl (by omega) (show _ = Value.bool true from by simp [upd, e0, e1, e2, e7, e8])) (v := Value.int .i64 1) (fun wr hwr => by simp only [execOp, (Fp19.eval 1 (by omega)).trans (show _ = Value.int .i64 1 from by simp [upd, e0, e1, e2, e7, e8])]; first | rfl | simp [go_sem]) fun Fp20 => ?_
    refine lyp Fp20 rfl HCC rfl (by omega) (want_yes Fp20 rfl (e := 34) rfl (by omega) (show _ = Value.bool true from by simp [upd, e0, e1, e2, e7, e8])) (v := Value.pointer (some ⟨xb, 0, none⟩)) (fun wr hwr => by simp only [execOp, (Fp20.eval 44 (by omega)).trans (show _ = Value.pointer (some ⟨xb, 0, none⟩) from by simp [upd, e0, e1, e2, e7, e8])]; simp [go_sem]) fun Fp21 => ?_
    refine lyp Fp21 rfl HCC rfl (by omega) (want_yes Fp21 rfl (e := 34) rfl (by omega) (show _ = Value.bool true from by simp [upd, e0, e1, e2, e7, e8])) (v := Value.pointer (some ⟨xb, 4, none⟩)) (fun wr hwr => by simp only [execOp, (Fp21.eval 46 (by omega)).trans (show _ = Value.pointer (some ⟨xb, 0, none⟩) from by simp [upd, e0, e1, e2, e7, e8])]; simp [go_sem]) fun Fp22 => ?_
    refine lyp Fp22 rfl HCC rfl (by omega) (want_yes Fp22 rfl (e := 34) rfl (by omega) (show _ = Value.bool true from by simp [upd, e0, e1, e2, e7, e8])) (v := Value.pointer (some ⟨xb, 5, none⟩)) (fun wr hwr => by simp only [execOp, (Fp22.eval 47 (by omega)).trans (show _ = Value.pointer (some ⟨xb, 4, none⟩) from by simp [upd, e0, e1, e2, e7, e8]), (Fp22.eval 45 (by omega)).trans (show _ = Value.int .i64 1 from by simp [upd, e0, e1, e2, e7, e8])]; simp [go_sem, Act.eval]) fun Fp23 => ?_
    refine lyp Fp23 rfl HCC rfl (by omega) (want_yes Fp23 rfl (e := 34) rfl (by omega) (show _ = Value.bool true from by simp [upd, e0, e1, e2, e7, e8])) (v := Value.int .i64 (ou : Int)) (fun wr hwr => by simp only [execOp, (Fp23.eval 48 (by omega)).trans (show _ = Value.pointer (some ⟨xb, 5, none⟩) from by simp [upd, e0, e1, e2, e7, e8])]; simp [go_sem, hwr.2]) fun Fp24 => ?_
    refine lyp Fp24 rfl HCC rfl (by omega) (want_yes Fp24 rfl (e := 34) rfl (by omega) (show _ = Value.bool true from by simp [upd, e0, e1, e2, e7, e8])) (v := Value.bool true) (fun wr hwr => by simp only [execOp, (Fp24.eval 43 (by omega)).trans (show _ = Value.int .i64 ((il : Int) - (op : Int)) from by simp [upd, e0, e1, e2, e7, e8]), (Fp24.eval 49 (by omega)).trans (show _ = Value.int .i64 (ou : Int) from by simp [upd, e0, e1, e2, e7, e8])]; simp [go_sem, Act.eval, h3]) fun Fp25 => ?_
    refine lyp Fp25 rfl HCC rfl (by omega) (wanted_none rfl) (v := Value.bool true) (fun wr hwr => by simp only [execOp, (Fp25.eval 34 (by omega)).trans (show _ = Value.bool true from by simp [upd, e0, e1, e2, e7, e8]), (Fp25.eval 50 (by omega)).trans (show _ = Value.bool true from by simp [upd, e0, e1, e2, e7, e8])]; simp [go_sem, Act.eval]) fun Fp26 => ?_
    refine lyp Fp26 rfl HCC rfl (by omega) (wanted_none rfl) (v := Value.bool true) (fun wr hwr => by simp only [execOp, (Fp26.eval 51 (by omega)).trans (show _ = Value.bool true from by simp [upd, e0, e1, e2, e7, e8])]; first | rfl | simp [go_sem]) fun Fp27 => ?_
    refine lyp Fp27 rfl HCC rfl (by omega) (want_yes Fp27 rfl (e := 52) rfl (by omega) (show _ = Value.bool true from by simp [upd, e0, e1, e2, e7, e8])) (v := Value.int .i64 (op : Int)) (fun wr hwr => by simp only [execOp, (Fp27.eval 7 (by omega)).trans (show _ = Value.int .i64 (op : Int) from by simp [upd, e0, e1, e2, e7, e8])]; first | rfl | simp [go_sem]) fun Fp28 => ?_
    refine lyp Fp28 rfl HCC rfl (by omega) (want_yes Fp28 rfl (e := 52) rfl (by omega) (show _ = Value.bool true from by simp [upd, e0, e1, e2, e7, e8])) (v := Value.bool true) (fun wr hwr => by simp only [execOp, (Fp28.eval 53 (by omega)).trans (show _ = Value.int .i64 (op : Int) from by simp [upd, e0, e1, e2, e7, e8])]; simp [go_sem, Act.eval, h4p, h4]) fun Fp29 => ?_
    refine lyp Fp29 rfl HCC rfl (by omega) (want_yes Fp29 rfl (e := 52) rfl (by omega) (show _ = Value.bool true from by simp [upd, e0, e1, e2, e7, e8])) (v := Value.bool true) (fun wr hwr => by simp only [execOp, (Fp29.eval 54 (by omega)).trans (show _ = Value.bool true from by simp [upd, e0, e1, e2, e7, e8])]; first | rfl | simp [go_sem]) fun Fp30 => ?_
    refine lnp Fp30 rfl HCC rfl (by omega) (want_no Fp30 rfl (e := 55) rfl (by omega) (show _ = Value.bool true from by simp [upd, e0, e1, e2, e7, e8]) (by decide)) fun Fp31 => ?_
    refine lnp Fp31 rfl HCC rfl (by omega) (want_no Fp31 rfl (e := 55) rfl (by omega) (show _ = Value.bool true from by simp [upd, e0, e1, e2, e7, e8]) (by decide)) fun Fp32 => ?_
    refine lnp Fp32 rfl HCC rfl (by omega) (want_no Fp32 rfl (e := 55) rfl (by omega) (show _ = Value.bool true from by simp [upd, e0, e1, e2, e7, e8]) (by decide)) fun Fp33 => ?_
    refine lnp Fp33 rfl HCC rfl (by omega) (want_no Fp33 rfl (e := 55) rfl (by omega) (show _ = Value.bool true from by simp [upd, e0, e1, e2, e7, e8]) (by decide)) fun Fp34 => ?_
    refine lnp Fp34 rfl HCC rfl (by omega) (want_no Fp34 rfl (e := 55) rfl (by omega) (show _ = Value.bool true from by simp [upd, e0, e1, e2, e7, e8]) (by decide)) fun Fp35 => ?_
    refine lnp Fp35 rfl HCC rfl (by omega) (want_no Fp35 rfl (e := 55) rfl (by omega) (show _ = Value.bool true from by simp [upd, e0, e1, e2, e7, e8]) (by decide)) fun Fp36 => ?_
    refine lnp Fp36 rfl HCC rfl (by omega) (want_no Fp36 rfl (e := 55) rfl (by omega) (show _ = Value.bool true from by simp [upd, e0, e1, e2, e7, e8]) (by decide)) fun Fp37 => ?_
    refine lnp Fp37 rfl HCC rfl (by omega) (want_no Fp37 rfl (e := 55) rfl (by omega) (show _ = Value.bool true from by simp [upd, e0, e1, e2, e7, e8]) (by decide)) fun Fp38 => ?_
    refine lyp Fp38 rfl HCC rfl (by omega) (want_yes Fp38 rfl (e := 52) rfl (by omega) (show _ = Value.bool true from by simp [upd, e0, e1, e2, e7, e8])) (v := Value.bool true) (fun wr hwr => by simp only [execOp, (Fp38.eval 55 (by omega)).trans (show _ = Value.bool true from by simp [upd, e0, e1, e2, e7, e8])]; simp [go_sem, Act.eval]) fun Fp39 => ?_
    refine lyp Fp39 rfl HCC rfl (by omega) (wanted_none rfl) (v := Value.bool true) (fun wr hwr => by simp only [execOp, (Fp39.eval 52 (by omega)).trans (show _ = Value.bool true from by simp [upd, e0, e1, e2, e7, e8]), (Fp39.eval 64 (by omega)).trans (show _ = Value.bool true from by simp [upd, e0, e1, e2, e7, e8])]; simp [go_sem, Act.eval]) fun Fp40 => ?_
    refine lyp Fp40 rfl HCC rfl (by omega) (wanted_none rfl) (v := Value.bool true) (fun wr hwr => by simp only [execOp, (Fp40.eval 65 (by omega)).trans (show _ = Value.bool true from by simp [upd, e0, e1, e2, e7, e8])]; first | rfl | simp [go_sem]) fun Fp41 => ?_
    refine ⟨fun _ => HCC, ?_⟩
    refine hK _ _ ?_
    clear F0 Fp1 Fp2 Fp3 Fp4 Fp5 Fp6 Fp7 Fp8 Fp9 Fp10 Fp11 Fp12 Fp13 Fp14 Fp15 Fp16 Fp17 Fp18 Fp19 Fp20 Fp21 Fp22 Fp23 Fp24 Fp25 Fp26 Fp27 Fp28 Fp29 Fp30 Fp31 Fp32 Fp33 Fp34 Fp35 Fp36 Fp37 Fp38 Fp39 Fp40 Fp41 e0 e1 e2 e7 e8 HCC
    simp only [Act.put, List.setIfInBounds_toArray, List.set_cons_succ, List.set_cons_zero]
    go_wp2_with fail
    go_ret
    exact ⟨rfl, HB5.out.drew⟩
  · have h4p : ¬ (op : Int) = 0 := by omega
    replace h5 := h5 h4
    rename_i K hK
    try rw [show ∀ a : Act, a.put none undef = a from fun _ => rfl]
    refine wp_region_mix (fun wz => wz.cell? ⟨xb, 3, none⟩ = some (Value.slice io il ic) ∧ wz.cell? ⟨xb, 5, none⟩ = some (Value.int .i64 (ou : Int))) (fun i => i == 99) 99 (by kernel_rfl) rfl (by kernel_rfl) (by kernel_rfl) (by kernel_rfl) ?_
    refine withFrP (N := 66) rfl ?_
    intro f0 F0 hff
    have e0 : f0 0 = Value.pointer (some ⟨xb, 0, none⟩) := hff 0
    have e1 : f0 1 = Value.int .i64 1 := hff 1
    have e2 : f0 2 = Value.int .i64 (wn : Int) := hff 2
    have e7 : f0 7 = Value.int .i64 (op : Int) := hff 7
    have e8 : f0 8 = Value.int .i64 (un : Int) := hff 8
    clear hff
    have HCC : (fun wz => wz.cell? ⟨xb, 3, none⟩ = some (Value.slice io il ic) ∧ wz.cell? ⟨xb, 5, none⟩ = some (Value.int .i64 (ou : Int))) (({ w5 with drawn := w5.drawn + 1 } : World)) := ⟨c2, c4⟩
    refine lyp F0 rfl HCC rfl (by omega) (wanted_none rfl) (v := Value.int .i64 (op : Int)) (fun wr hwr => by simp only [execOp, (F0.eval 7 (by omega)).trans (show _ = Value.int .i64 (op : Int) from by simp [upd, e0, e1, e2, e7, e8])]; first | rfl | simp [go_sem]) fun Fp1 => ?_
    refine lyp Fp1 rfl HCC rfl (by omega) (wanted_none rfl) (v := Value.int .i64 (un : Int)) (fun wr hwr => by simp only [execOp, (Fp1.eval 8 (by omega)).trans (show _ = Value.int .i64 (un : Int) from by simp [upd, e0, e1, e2, e7, e8])]; first | rfl | simp [go_sem]) fun Fp2 => ?_
    refine lyp Fp2 rfl HCC rfl (by omega) (wanted_none rfl) (v := Value.bool true) (fun wr hwr => by simp only [execOp, (Fp2.eval 26 (by omega)).trans (show _ = Value.int .i64 (op : Int) from by simp [upd, e0, e1, e2, e7, e8]), (Fp2.eval 27 (by omega)).trans (show _ = Value.int .i64 (un : Int) from by simp [upd, e0, e1, e2, e7, e8])]; simp [go_sem, Act.eval, h1]) fun Fp3 => ?_
    refine lyp Fp3 rfl HCC rfl (by omega) (wanted_none rfl) (v := Value.bool true) (fun wr hwr => by simp only [execOp, (Fp3.eval 28 (by omega)).trans (show _ = Value.bool true from by simp [upd, e0, e1, e2, e7, e8])]; first | rfl | simp [go_sem]) fun Fp4 => ?_
    refine lyp Fp4 rfl HCC rfl (by omega) (want_yes Fp4 rfl (e := 29) rfl (by omega) (show _ = Value.bool true from by simp [upd, e0, e1, e2, e7, e8])) (v := Value.int .i64 (op : Int)) (fun wr hwr => by simp only [execOp, (Fp4.eval 7 (by omega)).trans (show _ = Value.int .i64 (op : Int) from by simp [upd, e0, e1, e2, e7, e8])]; first | rfl | simp [go_sem]) fun Fp5 => ?_
    refine lyp Fp5 rfl HCC rfl (by omega) (want_yes Fp5 rfl (e := 29) rfl (by omega) (show _ = Value.bool true from by simp [upd, e0, e1, e2, e7, e8])) (v := Value.int .i64 (wn : Int)) (fun wr hwr => by simp only [execOp, (Fp5.eval 2 (by omega)).trans (show _ = Value.int .i64 (wn : Int) from by simp [upd, e0, e1, e2, e7, e8])]; first | rfl | simp [go_sem]) fun Fp6 => ?_
    refine lyp Fp6 rfl HCC rfl (by omega) (want_yes Fp6 rfl (e := 29) rfl (by omega) (show _ = Value.bool true from by simp [upd, e0, e1, e2, e7, e8])) (v := Value.bool true) (fun wr hwr => by simp only [execOp, (Fp6.eval 30 (by omega)).trans (show _ = Value.int .i64 (op : Int) from by simp [upd, e0, e1, e2, e7, e8]), (Fp6.eval 31 (by omega)).trans (show _ = Value.int .i64 (wn : Int) from by simp [upd, e0, e1, e2, e7, e8])]; simp [go_sem, Act.eval, h2]) fun Fp7 => ?_
    refine lyp Fp7 rfl HCC rfl (by omega) (wanted_none rfl) (v := Value.bool true) (fun wr hwr => by simp only [execOp, (Fp7.eval 29 (by omega)).trans (show _ = Value.bool true from by simp [upd, e0, e1, e2, e7, e8]), (Fp7.eval 32 (by omega)).trans (show _ = Value.bool true from by simp [upd, e0, e1, e2, e7, e8])]; simp [go_sem, Act.eval]) fun Fp8 => ?_
    refine lyp Fp8 rfl HCC rfl (by omega) (wanted_none rfl) (v := Value.bool true) (fun wr hwr => by simp only [execOp, (Fp8.eval 33 (by omega)).trans (show _ = Value.bool true from by simp [upd, e0, e1, e2, e7, e8])]; first | rfl | simp [go_sem]) fun Fp9 => ?_
    refine lyp Fp9 rfl HCC rfl (by omega) (want_yes Fp9 rfl (e := 34) rfl (by omega) (show _ = Value.bool true from by simp [upd, e0, e1, e2, e7, e8])) (v := Value.pointer (some ⟨xb, 0, none⟩)) (fun wr hwr => by simp only [execOp, (Fp9.eval 0 (by omega)).trans (show _ = Value.pointer (some ⟨xb, 0, none⟩) from by simp [upd, e0, e1, e2, e7, e8])]; first | rfl | simp [go_sem]) fun Fp10 => ?_
    refine lyp Fp10 rfl HCC rfl (by omega) (want_yes Fp10 rfl (e := 34) rfl (by omega) (show _ = Value.bool true from by simp [upd, e0, e1, e2, e7, e8])) (v := Value.int .i64 1) (fun wr hwr => by simp only [execOp, (Fp10.eval 1 (by omega)).trans (show _ = Value.int .i64 1 from by simp [upd, e0, e1, e2, e7, e8])]; first | rfl | simp [go_sem]) fun Fp11 => ?_
    refine lyp Fp11 rfl HCC rfl (by omega) (want_yes Fp11 rfl (e := 34) rfl (by omega) (show _ = Value.bool true from by simp [upd, e0, e1, e2, e7, e8])) (v := Value.pointer (some ⟨xb, 0, none⟩)) (fun wr hwr => by simp only [execOp, (Fp11.eval 35 (by omega)).trans (show _ = Value.pointer (some ⟨xb, 0, none⟩) from by simp [upd, e0, e1, e2, e7, e8])]; simp [go_sem]) fun Fp12 => ?_
    refine lyp Fp12 rfl HCC rfl (by omega) (want_yes Fp12 rfl (e := 34) rfl (by omega) (show _ = Value.bool true from by simp [upd, e0, e1, e2, e7, e8])) (v := Value.pointer (some ⟨xb, 2, none⟩)) (fun wr hwr => by simp only [execOp, (Fp12.eval 37 (by omega)).trans (show _ = Value.pointer (some ⟨xb, 0, none⟩) from by simp [upd, e0, e1, e2, e7, e8])]; simp [go_sem]) fun Fp13 => ?_
    refine lyp Fp13 rfl HCC rfl (by omega) (want_yes Fp13 rfl (e := 34) rfl (by omega) (show _ = Value.bool true from by simp [upd, e0, e1, e2, e7, e8])) (v := Value.pointer (some ⟨xb, 3, none⟩)) (fun wr hwr => by simp only [execOp, (Fp13.eval 38 (by omega)).trans (show _ = Value.pointer (some ⟨xb, 2, none⟩) from by simp [upd, e0, e1, e2, e7, e8]), (Fp13.eval 36 (by omega)).trans (show _ = Value.int .i64 1 from by simp [upd, e0, e1, e2, e7, e8])]; simp [go_sem, Act.eval]) fun Fp14 => ?_
    refine lyp Fp14 rfl HCC rfl (by omega) (want_yes Fp14 rfl (e := 34) rfl (by omega) (show _ = Value.bool true from by simp [upd, e0, e1, e2, e7, e8])) (v := Value.slice io il ic) (fun wr hwr => by simp only [execOp, (Fp14.eval 39 (by omega)).trans (show _ = Value.pointer (some ⟨xb, 3, none⟩) from by simp [upd, e0, e1, e2, e7, e8])]; simp [go_sem, hwr.1]) fun Fp15 => ?_
    refine lyp Fp15 rfl HCC rfl (by omega) (want_yes Fp15 rfl (e := 34) rfl (by omega) (show _ = Value.bool true from by simp [upd, e0, e1, e2, e7, e8])) (v := Value.int .i64 (il : Nat)) (fun wr hwr => by simp only [execOp, resolve, invoke, builtin, List.map_toArray, List.map_cons, List.map_nil, (Fp15.eval 40 (by omega)).trans (show _ = Value.slice io il ic from by simp [upd, e0, e1, e2, e7, e8])]; simp [go_sem, Builtin.len_, Builtin.lenOf]) fun Fp16 => ?_
    refine lyp Fp16 rfl HCC rfl (by omega) (want_yes Fp16 rfl (e := 34) rfl (by omega) (show _ = Value.bool true from by simp [upd, e0, e1, e2, e7, e8])) (v := Value.int .i64 (op : Int)) (fun wr hwr => by simp only [execOp, (Fp16.eval 7 (by omega)).trans (show _ = Value.int .i64 (op : Int) from by simp [upd, e0, e1, e2, e7, e8])]; first | rfl | simp [go_sem]) fun Fp17 => ?_
    refine lyp Fp17 rfl HCC rfl (by omega) (want_yes Fp17 rfl (e := 34) rfl (by omega) (show _ = Value.bool true from by simp [upd, e0, e1, e2, e7, e8])) (v := Value.int .i64 ((il : Int) - (op : Int))) (fun wr hwr => by simp only [execOp, (Fp17.eval 41 (by omega)).trans (show _ = Value.int .i64 (il : Nat) from by simp [upd, e0, e1, e2, e7, e8]), (Fp17.eval 42 (by omega)).trans (show _ = Value.int .i64 (op : Int) from by simp [upd, e0, e1, e2, e7, e8])]; simp [go_sem, Act.eval, show IntKind.i64.wrap ((il : Int) - (op : Int)) = (il : Int) - (op : Int) from by rw [IntKind.wrap_i64]; omega]) fun Fp18 => ?_
    refine lyp Fp18 rfl HCC rfl (by omega) (want_yes Fp18 rfl (e := 34) rfl (by omega) (show _ = Value.bool true from by simp [upd, e0, e1, e2, e7, e8])) (v := Value.pointer (some ⟨xb, 0, none⟩)) (fun wr hwr => by simp only [execOp, (Fp18.eval 0 (by omega)).trans (show _ = Value.pointer (some ⟨xb, 0, none⟩) from by simp [upd, e0, e1, e2, e7, e8])]; first | rfl | simp [go_sem]) fun Fp19 => ?_
    refine lyp Fp19 rfl HCC rfl (by omega) (want_yes Fp19 rfl (e := 34) rfl (by omega) (show _ = Value.bool true from by simp [upd, e0, e1, e2, e7, e8])) (v := Value.int .i64 1) (fun wr hwr => by simp only [execOp, (Fp19.eval 1 (by omega)).trans (show _ = Value.int .i64 1 from by simp [upd, e0, e1, e2, e7, e8])]; first | rfl | simp [go_sem]) fun Fp20 => ?_
    refine lyp Fp20 rfl HCC rfl (by omega) (want_yes Fp20 rfl (e := 34) rfl (by omega) (show _ = Value.bool true from by simp [upd, e0, e1, e2, e7, e8])) (v := Value.pointer (some ⟨xb, 0, none⟩)) (fun wr hwr => by simp only [execOp, (Fp20.eval 44 (by omega)).trans (show _ = Value.pointer (some ⟨xb, 0, none⟩) from by simp [upd, e0, e1, e2, e7, e8])]; simp [go_sem]) fun Fp21 => ?_
    refine lyp Fp21 rfl HCC rfl (by omega) (want_yes Fp21 rfl (e := 34) rfl (by omega) (show _ = Value.bool true from by simp [upd, e0, e1, e2, e7, e8])) (v := Value.pointer (some ⟨xb, 4, none⟩)) (fun wr hwr => by simp only [execOp, (Fp21.eval 46 (by omega)).trans (show _ = Value.pointer (some ⟨xb, 0, none⟩) from by simp [upd, e0, e1, e2, e7, e8])]; simp [go_sem]) fun Fp22 => ?_
    refine lyp Fp22 rfl HCC rfl (by omega) (want_yes Fp22 rfl (e := 34) rfl (by omega) (show _ = Value.bool true from by simp [upd, e0, e1, e2, e7, e8])) (v := Value.pointer (some ⟨xb, 5, none⟩)) (fun wr hwr => by simp only [execOp, (Fp22.eval 47 (by omega)).trans (show _ = Value.pointer (some ⟨xb, 4, none⟩) from by simp [upd, e0, e1, e2, e7, e8]), (Fp22.eval 45 (by omega)).trans (show _ = Value.int .i64 1 from by simp [upd, e0, e1, e2, e7, e8])]; simp [go_sem, Act.eval]) fun Fp23 => ?_
    refine lyp Fp23 rfl HCC rfl (by omega) (want_yes Fp23 rfl (e := 34) rfl (by omega) (show _ = Value.bool true from by simp [upd, e0, e1, e2, e7, e8])) (v := Value.int .i64 (ou : Int)) (fun wr hwr => by simp only [execOp, (Fp23.eval 48 (by omega)).trans (show _ = Value.pointer (some ⟨xb, 5, none⟩) from by simp [upd, e0, e1, e2, e7, e8])]; simp [go_sem, hwr.2]) fun Fp24 => ?_
    refine lyp Fp24 rfl HCC rfl (by omega) (want_yes Fp24 rfl (e := 34) rfl (by omega) (show _ = Value.bool true from by simp [upd, e0, e1, e2, e7, e8])) (v := Value.bool true) (fun wr hwr => by simp only [execOp, (Fp24.eval 43 (by omega)).trans (show _ = Value.int .i64 ((il : Int) - (op : Int)) from by simp [upd, e0, e1, e2, e7, e8]), (Fp24.eval 49 (by omega)).trans (show _ = Value.int .i64 (ou : Int) from by simp [upd, e0, e1, e2, e7, e8])]; simp [go_sem, Act.eval, h3]) fun Fp25 => ?_
    refine lyp Fp25 rfl HCC rfl (by omega) (wanted_none rfl) (v := Value.bool true) (fun wr hwr => by simp only [execOp, (Fp25.eval 34 (by omega)).trans (show _ = Value.bool true from by simp [upd, e0, e1, e2, e7, e8]), (Fp25.eval 50 (by omega)).trans (show _ = Value.bool true from by simp [upd, e0, e1, e2, e7, e8])]; simp [go_sem, Act.eval]) fun Fp26 => ?_
    refine lyp Fp26 rfl HCC rfl (by omega) (wanted_none rfl) (v := Value.bool true) (fun wr hwr => by simp only [execOp, (Fp26.eval 51 (by omega)).trans (show _ = Value.bool true from by simp [upd, e0, e1, e2, e7, e8])]; first | rfl | simp [go_sem]) fun Fp27 => ?_
    refine lyp Fp27 rfl HCC rfl (by omega) (want_yes Fp27 rfl (e := 52) rfl (by omega) (show _ = Value.bool true from by simp [upd, e0, e1, e2, e7, e8])) (v := Value.int .i64 (op : Int)) (fun wr hwr => by simp only [execOp, (Fp27.eval 7 (by omega)).trans (show _ = Value.int .i64 (op : Int) from by simp [upd, e0, e1, e2, e7, e8])]; first | rfl | simp [go_sem]) fun Fp28 => ?_
    refine lyp Fp28 rfl HCC rfl (by omega) (want_yes Fp28 rfl (e := 52) rfl (by omega) (show _ = Value.bool true from by simp [upd, e0, e1, e2, e7, e8])) (v := Value.bool false) (fun wr hwr => by simp only [execOp, (Fp28.eval 53 (by omega)).trans (show _ = Value.int .i64 (op : Int) from by simp [upd, e0, e1, e2, e7, e8])]; simp [go_sem, Act.eval, h4p, h4]) fun Fp29 => ?_
    refine lyp Fp29 rfl HCC rfl (by omega) (want_yes Fp29 rfl (e := 52) rfl (by omega) (show _ = Value.bool true from by simp [upd, e0, e1, e2, e7, e8])) (v := Value.bool false) (fun wr hwr => by simp only [execOp, (Fp29.eval 54 (by omega)).trans (show _ = Value.bool false from by simp [upd, e0, e1, e2, e7, e8])]; first | rfl | simp [go_sem]) fun Fp30 => ?_
    refine lyp Fp30 rfl HCC rfl (by omega) (want_yes Fp30 rfl (e := 55) rfl (by omega) (show _ = Value.bool false from by simp [upd, e0, e1, e2, e7, e8])) (v := Value.pointer (some ⟨xb, 0, none⟩)) (fun wr hwr => by simp only [execOp, (Fp30.eval 0 (by omega)).trans (show _ = Value.pointer (some ⟨xb, 0, none⟩) from by simp [upd, e0, e1, e2, e7, e8])]; first | rfl | simp [go_sem]) fun Fp31 => ?_
    refine lyp Fp31 rfl HCC rfl (by omega) (want_yes Fp31 rfl (e := 55) rfl (by omega) (show _ = Value.bool false from by simp [upd, e0, e1, e2, e7, e8])) (v := Value.int .i64 1) (fun wr hwr => by simp only [execOp, (Fp31.eval 1 (by omega)).trans (show _ = Value.int .i64 1 from by simp [upd, e0, e1, e2, e7, e8])]; first | rfl | simp [go_sem]) fun Fp32 => ?_
    refine lyp Fp32 rfl HCC rfl (by omega) (want_yes Fp32 rfl (e := 55) rfl (by omega) (show _ = Value.bool false from by simp [upd, e0, e1, e2, e7, e8])) (v := Value.pointer (some ⟨xb, 0, none⟩)) (fun wr hwr => by simp only [execOp, (Fp32.eval 56 (by omega)).trans (show _ = Value.pointer (some ⟨xb, 0, none⟩) from by simp [upd, e0, e1, e2, e7, e8])]; simp [go_sem]) fun Fp33 => ?_
    refine lyp Fp33 rfl HCC rfl (by omega) (want_yes Fp33 rfl (e := 55) rfl (by omega) (show _ = Value.bool false from by simp [upd, e0, e1, e2, e7, e8])) (v := Value.pointer (some ⟨xb, 2, none⟩)) (fun wr hwr => by simp only [execOp, (Fp33.eval 58 (by omega)).trans (show _ = Value.pointer (some ⟨xb, 0, none⟩) from by simp [upd, e0, e1, e2, e7, e8])]; simp [go_sem]) fun Fp34 => ?_
    refine lyp Fp34 rfl HCC rfl (by omega) (want_yes Fp34 rfl (e := 55) rfl (by omega) (show _ = Value.bool false from by simp [upd, e0, e1, e2, e7, e8])) (v := Value.pointer (some ⟨xb, 3, none⟩)) (fun wr hwr => by simp only [execOp, (Fp34.eval 59 (by omega)).trans (show _ = Value.pointer (some ⟨xb, 2, none⟩) from by simp [upd, e0, e1, e2, e7, e8]), (Fp34.eval 57 (by omega)).trans (show _ = Value.int .i64 1 from by simp [upd, e0, e1, e2, e7, e8])]; simp [go_sem, Act.eval]) fun Fp35 => ?_
    refine lyp Fp35 rfl HCC rfl (by omega) (want_yes Fp35 rfl (e := 55) rfl (by omega) (show _ = Value.bool false from by simp [upd, e0, e1, e2, e7, e8])) (v := Value.slice io il ic) (fun wr hwr => by simp only [execOp, (Fp35.eval 60 (by omega)).trans (show _ = Value.pointer (some ⟨xb, 3, none⟩) from by simp [upd, e0, e1, e2, e7, e8])]; simp [go_sem, hwr.1]) fun Fp36 => ?_
    refine lyp Fp36 rfl HCC rfl (by omega) (want_yes Fp36 rfl (e := 55) rfl (by omega) (show _ = Value.bool false from by simp [upd, e0, e1, e2, e7, e8])) (v := Value.int .i64 (il : Nat)) (fun wr hwr => by simp only [execOp, resolve, invoke, builtin, List.map_toArray, List.map_cons, List.map_nil, (Fp36.eval 61 (by omega)).trans (show _ = Value.slice io il ic from by simp [upd, e0, e1, e2, e7, e8])]; simp [go_sem, Builtin.len_, Builtin.lenOf]) fun Fp37 => ?_
    refine lyp Fp37 rfl HCC rfl (by omega) (want_yes Fp37 rfl (e := 55) rfl (by omega) (show _ = Value.bool false from by simp [upd, e0, e1, e2, e7, e8])) (v := Value.bool true) (fun wr hwr => by simp only [execOp, (Fp37.eval 62 (by omega)).trans (show _ = Value.int .i64 (il : Nat) from by simp [upd, e0, e1, e2, e7, e8])]; simp [go_sem, Act.eval, h5]) fun Fp38 => ?_
    refine lyp Fp38 rfl HCC rfl (by omega) (want_yes Fp38 rfl (e := 52) rfl (by omega) (show _ = Value.bool true from by simp [upd, e0, e1, e2, e7, e8])) (v := Value.bool true) (fun wr hwr => by simp only [execOp, (Fp38.eval 55 (by omega)).trans (show _ = Value.bool false from by simp [upd, e0, e1, e2, e7, e8]), (Fp38.eval 63 (by omega)).trans (show _ = Value.bool true from by simp [upd, e0, e1, e2, e7, e8])]; simp [go_sem, Act.eval]) fun Fp39 => ?_
    refine lyp Fp39 rfl HCC rfl (by omega) (wanted_none rfl) (v := Value.bool true) (fun wr hwr => by simp only [execOp, (Fp39.eval 52 (by omega)).trans (show _ = Value.bool true from by simp [upd, e0, e1, e2, e7, e8]), (Fp39.eval 64 (by omega)).trans (show _ = Value.bool true from by simp [upd, e0, e1, e2, e7, e8])]; simp [go_sem, Act.eval]) fun Fp40 => ?_
    refine lyp Fp40 rfl HCC rfl (by omega) (wanted_none rfl) (v := Value.bool true) (fun wr hwr => by simp only [execOp, (Fp40.eval 65 (by omega)).trans (show _ = Value.bool true from by simp [upd, e0, e1, e2, e7, e8])]; first | rfl | simp [go_sem]) fun Fp41 => ?_
    refine ⟨fun _ => HCC, ?_⟩
    refine hK _ _ ?_
    clear F0 Fp1 Fp2 Fp3 Fp4 Fp5 Fp6 Fp7 Fp8 Fp9 Fp10 Fp11 Fp12 Fp13 Fp14 Fp15 Fp16 Fp17 Fp18 Fp19 Fp20 Fp21 Fp22 Fp23 Fp24 Fp25 Fp26 Fp27 Fp28 Fp29 Fp30 Fp31 Fp32 Fp33 Fp34 Fp35 Fp36 Fp37 Fp38 Fp39 Fp40 Fp41 e0 e1 e2 e7 e8 HCC
    simp only [Act.put, List.setIfInBounds_toArray, List.set_cons_succ, List.set_cons_zero]
    go_wp2_with fail
    go_ret
    exact ⟨rfl, HB5.out.drew⟩
end Go.Proofs.Ytcjgicfmfjomgaa
