import Derived.Test.YtmnihombiabkgaaRf1
namespace Go.Proofs.Ytmnihombiabkgaa
open Go.RowKit Go.PlainAid Go.MapKept
set_option linter.unusedVariables false
set_option linter.unusedSimpArgs false
set_option maxRecDepth 100000 in
set_option maxHeartbeats 3200000 in
theorem rarm_any {base rb : Nat} {s : WV} {v : Value} (d k i : Int) (w : World) (h : RW base rb s v w) (hlA : s.A.length ≤ 100000) (hn : 0 ≤ s.now ∧ s.now ≤ 1000000) (hl : 0 ≤ s.last ∧ s.last ≤ 1000000) :
    Calls Try.prog 38 #[.pointer (some ⟨rb, 0, none⟩), .int .i64 d, .int .i64 k, .int .i64 i] w fun e w' => e = .returned (.int .i64 (s.last + 1)) ∧ ∃ v', RW base rb ⟨s.now, s.last + 1, s.A ++ [(⟨s.now + dl d, s.last + 1, k, i⟩ : Tm)]⟩ v' w' ∧ RStp rb v v' w w' := by
  obtain ⟨now, last, A⟩ := s
  simp only at hlA hn hl ⊢
  obtain ⟨hw1, hw2⟩ := hn
  obtain ⟨hl1, hl2⟩ := hl
  have hd := dl_bd d
  obtain ⟨q, hq⟩ : ∃ q, q = dl d := ⟨_, rfl⟩
  have HQ : Hid (min (max d 1) 1099511627776 = q) := hq.symm
  rw [← hq] at hd ⊢
  obtain ⟨aos, caps, hvs, hcs⟩ := own_slice h.r
  obtain ⟨ns, hns⟩ : ∃ ns, ns = A.length := ⟨_, rfl⟩
  replace hvs : v = .slice aos A.length caps := hvs
  rw [← hns] at hvs
  have HNS : Hid (ns = A.length) := hns
  have hns5 : ns ≤ 100000 := by omega
  subst hvs
  have c0 : w.cell? ⟨rb, 0, none⟩ = some (.int .i64 now) := h.b.cell 0
  have c1 : w.cell? ⟨rb, 1, none⟩ = some (.int .i64 last) := h.b.cell 1
  have f1 : w.frozen? ⟨rb, 1, none⟩ = false := h.b.frozen 1
  obtain ⟨X, hX⟩ : ∃ X, X = w.setCell ⟨rb, 1, none⟩ (.int .i64 (last + 1)) := ⟨_, rfl⟩
  have hcX : Chg (fun k => k = rb) w X := by rw [hX]; exact setCell_chg _ _ _ _
  have hBX : Blk X rb #[.int .i64 now, .int .i64 (last + 1), .slice aos ns caps] 74 := by rw [hX]; exact h.b.set 1 _
  have HRX : Hid (RW base rb ⟨now, last + 1, A⟩ (.slice aos ns caps) X) := ⟨hBX, ownsRow_same h.r (fun g e => hcX.block g (ownsRow_lt h.r e).2 (h.ne g e)), h.lo⟩
  have HCX : Hid (Chg (fun k => k = rb) w X) := hcX
  have HEX : Hid (w.setCell ⟨rb, 1, none⟩ (.int .i64 (last + 1)) = X) := hX.symm
  clear h hcX hBX hX hq hns hcs hlA
  go_enter Try.func38, Try.ntmps38
  go_upto_if 10 with fail
  go_cut [1] from 9 (fun s1 wc => wc = w ∧ ∃ q1, s1 = .int .i64 q1 ∧ Hid (q1 = max d 1))
  case first =>
    by_cases hd1 : d < 1
    · go_wp2_with fail
      go_meet
      case rel => exact ⟨rfl, 1, rfl, show (1 : Int) = max d 1 from by omega⟩
    · go_wp2_with fail
      go_meet
      case rel => exact ⟨rfl, d, rfl, show d = max d 1 from by omega⟩
  case rest =>
  obtain ⟨hwc, q1, rfl, HQ1⟩ := hcut
  replace hwc := hwc.symm
  subst hwc
  go_upto_if 12 with fail
  go_cut [1] from 9 (fun s1 wc => wc = w ∧ s1 = .int .i64 q)
  case first =>
    by_cases hd1 : (1099511627776 : Int) < q1
    · go_wp2_with fail
      go_meet
      case rel => exact ⟨rfl, by rw [← HQ.out, ← HQ1.out]; congr 1; omega⟩
    · go_wp2_with fail
      go_meet
      case rel => exact ⟨rfl, by rw [← HQ.out, ← HQ1.out]; congr 1; omega⟩
  case rest =>
  obtain ⟨hwc, rfl⟩ := hcut
  replace hwc := hwc.symm
  subst hwc
  go_upto_region 6 with fail
  rw [HEX.out]
  clear c0 c1 f1 HEX
  have c0 : X.cell? ⟨rb, 0, none⟩ = some (.int .i64 now) := HRX.out.b.cell 0
  have c1 : X.cell? ⟨rb, 1, none⟩ = some (.int .i64 (last + 1)) := HRX.out.b.cell 1
  have c2 : X.cell? ⟨rb, 2, none⟩ = some (.slice aos ns caps) := HRX.out.b.cell 2
  go_wp2_with fail
  rename_i K hK
  try rw [show ∀ a : Act, a.put none undef = a from fun _ => rfl]
  refine wp_region_mix (fun wz => wz.cell? ⟨rb, 0, none⟩ = some (.int .i64 now) ∧ wz.cell? ⟨rb, 1, none⟩ = some (.int .i64 (last + 1)) ∧ wz.cell? ⟨rb, 2, none⟩ = some (.slice aos ns caps)) (fun i => i == 18 || i == 19 || i == 22) 22 (by kernel_rfl) rfl (by kernel_rfl) (by kernel_rfl) (by kernel_rfl) ?_
  refine withFrP (N := 46) rfl ?_
  intro f0 F0 hff
  have e0 : f0 0 = Value.pointer (some ⟨rb, 0, none⟩) := hff 0
  have e1 : f0 1 = Value.int .i64 q := hff 1
  have e2 : f0 2 = Value.int .i64 k := hff 2
  have e3 : f0 3 = Value.int .i64 i := hff 3
  clear hff
  have HCC : (fun wz => wz.cell? ⟨rb, 0, none⟩ = some (.int .i64 now) ∧ wz.cell? ⟨rb, 1, none⟩ = some (.int .i64 (last + 1)) ∧ wz.cell? ⟨rb, 2, none⟩ = some (.slice aos ns caps)) (({ X with drawn := X.drawn + 1 } : World)) := ⟨c0, c1, c2⟩
  refine lyp F0 rfl HCC rfl (by omega) (wanted_none rfl) (v := Value.pointer (some ⟨rb, 0, none⟩)) (fun wr hwr => by simp only [execOp, (F0.eval 0 (by omega)).trans (show _ = Value.pointer (some ⟨rb, 0, none⟩) from by simp [upd, e0, e1, e2, e3])]; first | rfl | simp [go_sem]) fun Fp1 => ?_
  refine lyp Fp1 rfl HCC rfl (by omega) (wanted_none rfl) (v := Value.pointer (some ⟨rb, 0, none⟩)) (fun wr hwr => by simp only [execOp, (Fp1.eval 0 (by omega)).trans (show _ = Value.pointer (some ⟨rb, 0, none⟩) from by simp [upd, e0, e1, e2, e3])]; first | rfl | simp [go_sem]) fun Fp2 => ?_
  refine lyp Fp2 rfl HCC rfl (by omega) (wanted_none rfl) (v := Value.pointer (some ⟨rb, 0, none⟩)) (fun wr hwr => by simp only [execOp, (Fp2.eval 21 (by omega)).trans (show _ = Value.pointer (some ⟨rb, 0, none⟩) from by simp [upd, e0, e1, e2, e3])]; simp [go_sem]) fun Fp3 => ?_
  refine lyp Fp3 rfl HCC rfl (by omega) (wanted_none rfl) (v := Value.pointer (some ⟨rb, 2, none⟩)) (fun wr hwr => by simp only [execOp, (Fp3.eval 22 (by omega)).trans (show _ = Value.pointer (some ⟨rb, 0, none⟩) from by simp [upd, e0, e1, e2, e3])]; simp [go_sem]) fun Fp4 => ?_
  refine lyp Fp4 rfl HCC rfl (by omega) (wanted_none rfl) (v := Value.slice aos ns caps) (fun wr hwr => by simp only [execOp, (Fp4.eval 23 (by omega)).trans (show _ = Value.pointer (some ⟨rb, 2, none⟩) from by simp [upd, e0, e1, e2, e3])]; simp [go_sem, hwr.2.2]) fun Fp5 => ?_
  refine lyp Fp5 rfl HCC rfl (by omega) (wanted_none rfl) (v := Value.pointer (some ⟨rb, 0, none⟩)) (fun wr hwr => by simp only [execOp, (Fp5.eval 0 (by omega)).trans (show _ = Value.pointer (some ⟨rb, 0, none⟩) from by simp [upd, e0, e1, e2, e3])]; first | rfl | simp [go_sem]) fun Fp6 => ?_
  refine lyp Fp6 rfl HCC rfl (by omega) (wanted_none rfl) (v := Value.pointer (some ⟨rb, 0, none⟩)) (fun wr hwr => by simp only [execOp, (Fp6.eval 25 (by omega)).trans (show _ = Value.pointer (some ⟨rb, 0, none⟩) from by simp [upd, e0, e1, e2, e3])]; simp [go_sem]) fun Fp7 => ?_
  refine lyp Fp7 rfl HCC rfl (by omega) (wanted_none rfl) (v := Value.pointer (some ⟨rb, 0, none⟩)) (fun wr hwr => by simp only [execOp, (Fp7.eval 26 (by omega)).trans (show _ = Value.pointer (some ⟨rb, 0, none⟩) from by simp [upd, e0, e1, e2, e3])]; simp [go_sem]) fun Fp8 => ?_
  refine lyp Fp8 rfl HCC rfl (by omega) (wanted_none rfl) (v := Value.int .i64 now) (fun wr hwr => by simp only [execOp, (Fp8.eval 27 (by omega)).trans (show _ = Value.pointer (some ⟨rb, 0, none⟩) from by simp [upd, e0, e1, e2, e3])]; simp [go_sem, hwr.1]) fun Fp9 => ?_
  refine lyp Fp9 rfl HCC rfl (by omega) (wanted_none rfl) (v := Value.int .i64 q) (fun wr hwr => by simp only [execOp, (Fp9.eval 1 (by omega)).trans (show _ = Value.int .i64 q from by simp [upd, e0, e1, e2, e3])]; first | rfl | simp [go_sem]) fun Fp10 => ?_
  refine lyp Fp10 rfl HCC rfl (by omega) (wanted_none rfl) (v := Value.int .i64 (now + q)) (fun wr hwr => by simp only [execOp, (Fp10.eval 28 (by omega)).trans (show _ = Value.int .i64 now from by simp [upd, e0, e1, e2, e3]), (Fp10.eval 29 (by omega)).trans (show _ = Value.int .i64 q from by simp [upd, e0, e1, e2, e3])]; simp [go_sem, Act.eval, show IntKind.i64.wrap (now + q) = now + q from by rw [IntKind.wrap_i64]; omega]) fun Fp11 => ?_
  refine lyp Fp11 rfl HCC rfl (by omega) (wanted_none rfl) (v := Value.pointer (some ⟨rb, 0, none⟩)) (fun wr hwr => by simp only [execOp, (Fp11.eval 0 (by omega)).trans (show _ = Value.pointer (some ⟨rb, 0, none⟩) from by simp [upd, e0, e1, e2, e3])]; first | rfl | simp [go_sem]) fun Fp12 => ?_
  refine lyp Fp12 rfl HCC rfl (by omega) (wanted_none rfl) (v := Value.pointer (some ⟨rb, 0, none⟩)) (fun wr hwr => by simp only [execOp, (Fp12.eval 31 (by omega)).trans (show _ = Value.pointer (some ⟨rb, 0, none⟩) from by simp [upd, e0, e1, e2, e3])]; simp [go_sem]) fun Fp13 => ?_
  refine lyp Fp13 rfl HCC rfl (by omega) (wanted_none rfl) (v := Value.pointer (some ⟨rb, 1, none⟩)) (fun wr hwr => by simp only [execOp, (Fp13.eval 32 (by omega)).trans (show _ = Value.pointer (some ⟨rb, 0, none⟩) from by simp [upd, e0, e1, e2, e3])]; simp [go_sem]) fun Fp14 => ?_
  refine lyp Fp14 rfl HCC rfl (by omega) (wanted_none rfl) (v := Value.int .i64 (last + 1)) (fun wr hwr => by simp only [execOp, (Fp14.eval 33 (by omega)).trans (show _ = Value.pointer (some ⟨rb, 1, none⟩) from by simp [upd, e0, e1, e2, e3])]; simp [go_sem, hwr.2.1]) fun Fp15 => ?_
  refine lyp Fp15 rfl HCC rfl (by omega) (wanted_none rfl) (v := Value.int .i64 k) (fun wr hwr => by simp only [execOp, (Fp15.eval 2 (by omega)).trans (show _ = Value.int .i64 k from by simp [upd, e0, e1, e2, e3])]; first | rfl | simp [go_sem]) fun Fp16 => ?_
  refine lyp Fp16 rfl HCC rfl (by omega) (wanted_none rfl) (v := Value.int .i64 i) (fun wr hwr => by simp only [execOp, (Fp16.eval 3 (by omega)).trans (show _ = Value.int .i64 i from by simp [upd, e0, e1, e2, e3])]; first | rfl | simp [go_sem]) fun Fp17 => ?_
  refine lyp Fp17 rfl HCC rfl (by omega) (wanted_none rfl) (v := Value.agg #[.int .i64 (now + q), .int .i64 (last + 1), .int .i64 k, .int .i64 i]) (fun wr hwr => by simp only [execOp, List.map_toArray, List.map_cons, List.map_nil, (Fp17.eval 30 (by omega)).trans (show _ = Value.int .i64 (now + q) from by simp [upd, e0, e1, e2, e3]), (Fp17.eval 34 (by omega)).trans (show _ = Value.int .i64 (last + 1) from by simp [upd, e0, e1, e2, e3]), (Fp17.eval 35 (by omega)).trans (show _ = Value.int .i64 k from by simp [upd, e0, e1, e2, e3]), (Fp17.eval 36 (by omega)).trans (show _ = Value.int .i64 i from by simp [upd, e0, e1, e2, e3])]; simp [go_sem]) fun Fp18 => ?_
  have hal : Below X.heap.size X (({ X with drawn := X.drawn + 1 } : World).alloc (.cells #[.int .i64 (now + q), .int .i64 (last + 1), .int .i64 k, .int .i64 i] 50)) := (Below.drew (Below.refl X.heap.size X)).alloc (Nat.le_refl _) _
  refine lep Fp18 rfl HCC rfl (by omega) (wanted_none rfl) (v := Value.slice (some ⟨X.heap.size, 0, none⟩) 1 1) (w1 := (({ X with drawn := X.drawn + 1 } : World).alloc (.cells #[.int .i64 (now + q), .int .i64 (last + 1), .int .i64 k, .int .i64 i] 50))) (by simp only [execOp, List.map_toArray, List.map_cons, List.map_nil, (Fp18.eval 37 (by omega)).trans (show _ = Value.agg #[.int .i64 (now + q), .int .i64 (last + 1), .int .i64 k, .int .i64 i] from by simp [upd, e0, e1, e2, e3])]; simp [go_sem]) fun Fp19 => ?_
  have hRY := HRX.out.more hal
  have HC2 : (fun wz => wz.cell? ⟨rb, 0, none⟩ = some (.int .i64 now) ∧ wz.cell? ⟨rb, 1, none⟩ = some (.int .i64 (last + 1)) ∧ wz.cell? ⟨rb, 2, none⟩ = some (.slice aos ns caps)) (({ X with drawn := X.drawn + 1 } : World).alloc (.cells #[.int .i64 (now + q), .int .i64 (last + 1), .int .i64 k, .int .i64 i] 50)) := ⟨hRY.b.cell 0, hRY.b.cell 1, hRY.b.cell 2⟩
  have hlo : base ≤ ({ X with drawn := X.drawn + 1 } : World).heap.size := Nat.le_trans HRX.out.lo (Nat.le_of_lt HRX.out.b.lt)
  obtain ⟨v6, w6, hr6, ho6, hg6, _⟩ := app_tm (w := ({ X with drawn := X.drawn + 1 } : World)) ⟨now + q, last + 1, k, i⟩ (HRX.out.more (Below.drew (Below.refl X.heap.size X))).r hlo (by rw [← HNS.out]; omega)
  obtain ⟨ao6, cap6, hv6, _⟩ := own_slice ho6
  replace hv6 : v6 = .slice ao6 (A ++ [(⟨now + q, last + 1, k, i⟩ : Tm)]).length cap6 := hv6
  rw [List.length_append, ← HNS.out] at hv6
  replace hv6 : v6 = .slice ao6 (ns + 1) cap6 := hv6
  subst hv6
  have hB6 : Blk w6 rb #[.int .i64 now, .int .i64 (last + 1), .slice aos ns caps] 74 := hg6.chg.blk (HRX.out.more (Below.drew (Below.refl X.heap.size X))).b (fun e => HRX.out.ne rb e rfl)
  have HC6 : (fun wz => wz.cell? ⟨rb, 0, none⟩ = some (.int .i64 now) ∧ wz.cell? ⟨rb, 1, none⟩ = some (.int .i64 (last + 1)) ∧ wz.cell? ⟨rb, 2, none⟩ = some (.slice aos ns caps)) w6 := ⟨hB6.cell 0, hB6.cell 1, hB6.cell 2⟩
  refine lep Fp19 rfl HC2 rfl (by omega) (wanted_none rfl) (v := Value.slice ao6 (ns + 1) cap6) (w1 := w6) (by simp only [execOp, resolve, invoke, builtin, List.map_toArray, List.map_cons, List.map_nil, (Fp19.eval 24 (by omega)).trans (show _ = Value.slice aos ns caps from by simp [upd, e0, e1, e2, e3]), (Fp19.eval 38 (by omega)).trans (show _ = Value.slice (some ⟨X.heap.size, 0, none⟩) 1 1 from by simp [upd, e0, e1, e2, e3])]; simp only [Sem.run_bind, Sem.run_pure, Result.andThen_ok]; rw [show (Builtin.append_ #[33, 33] 33 #[Value.slice aos ns caps, Value.slice (some ⟨X.heap.size, 0, none⟩) 1 1]).run Try.prog (({ X with drawn := X.drawn + 1 } : World).alloc (.cells #[.int .i64 (now + q), .int .i64 (last + 1), .int .i64 k, .int .i64 i] 50)) = .ok (.slice ao6 (ns + 1) cap6) w6 from hr6 33]; try rfl) fun Fp20 => ?_
  refine lyp Fp20 rfl HC6 rfl (by omega) (wanted_none rfl) (v := Value.pointer (some ⟨rb, 0, none⟩)) (fun wr hwr => by simp only [execOp, (Fp20.eval 20 (by omega)).trans (show _ = Value.pointer (some ⟨rb, 0, none⟩) from by simp [upd, e0, e1, e2, e3])]; simp [go_sem]) fun Fp21 => ?_
  refine lyp Fp21 rfl HC6 rfl (by omega) (wanted_none rfl) (v := Value.pointer (some ⟨rb, 2, none⟩)) (fun wr hwr => by simp only [execOp, (Fp21.eval 40 (by omega)).trans (show _ = Value.pointer (some ⟨rb, 0, none⟩) from by simp [upd, e0, e1, e2, e3])]; simp [go_sem]) fun Fp22 => ?_
  refine lst rfl HC6 rfl (wanted_none rfl) (w1 := w6.setCell ⟨rb, 2, none⟩ (.slice ao6 (ns + 1) cap6)) (by simp only [execOp, (Fp22.eval 41 (by omega)).trans (show _ = Value.pointer (some ⟨rb, 2, none⟩) from by simp [upd, e0, e1, e2, e3]), (Fp22.eval 39 (by omega)).trans (show _ = Value.slice ao6 (ns + 1) cap6 from by simp [upd, e0, e1, e2, e3])]; simp [go_sem, hB6.frozen 2, HC6.2.2]) ?_
  refine ⟨fun h => by omega, ?_⟩
  refine hK _ _ ?_
  clear F0 Fp1 Fp2 Fp3 Fp4 Fp5 Fp6 Fp7 Fp8 Fp9 Fp10 Fp11 Fp12 Fp13 Fp14 Fp15 Fp16 Fp17 Fp18 Fp19 Fp20 Fp21 Fp22 e0 e1 e2 e3 HCC HC2
  simp only [Act.put, List.setIfInBounds_toArray, List.set_cons_succ, List.set_cons_zero]
  have hBF : Blk (w6.setCell ⟨rb, 2, none⟩ (.slice ao6 (ns + 1) cap6)) rb #[.int .i64 now, .int .i64 (last + 1), .slice ao6 (ns + 1) cap6] 74 := hB6.set 2 _
  have hsz : w.heap.size ≤ X.heap.size := HCX.out.size
  have HF : Hid (RW base rb ⟨now, last + 1, A ++ [(⟨now + q, last + 1, k, i⟩ : Tm)]⟩ (.slice ao6 (ns + 1) cap6) (w6.setCell ⟨rb, 2, none⟩ (.slice ao6 (ns + 1) cap6))) := ⟨hBF, ownsRow_same ho6 (fun g e => (setCell_chg w6 rb 2 _).block g (ownsRow_lt ho6 e).2 (fun e2 => by
    rcases hg6.at' g e with h1 | h1
    · exact HRX.out.ne g h1 e2
    · have := HRX.out.b.lt
      replace h1 : X.heap.size ≤ g := h1
      omega)), HRX.out.lo⟩
  have HS : Hid (RStp rb (.slice aos ns caps) (.slice ao6 (ns + 1) cap6) w (w6.setCell ⟨rb, 2, none⟩ (.slice ao6 (ns + 1) cap6))) := by
    refine ⟨?_, fun k hk => ?_⟩
    · have a1 : Chg (rown rb (.slice aos ns caps)) w X := HCX.out.mono (fun j _ e => Or.inl e)
      have a2 := (a1.drewN 1).trans (hg6.chg.mono (B := rown rb (.slice aos ns caps)) (fun j _ e => Or.inr e)) (fun _ _ e => e)
      exact a2.trans ((setCell_chg w6 rb 2 _).mono (B := rown rb (.slice aos ns caps)) (fun j _ e => Or.inl e)) (fun _ _ e => e)
    · rcases hk with e | e
      · exact Or.inl (Or.inl e)
      · rcases hg6.at' k e with h1 | h1
        · exact Or.inl (Or.inr h1)
        · replace h1 : X.heap.size ≤ k := h1
          exact Or.inr (Nat.le_trans hsz h1)
  have cf : (w6.setCell ⟨rb, 2, none⟩ (.slice ao6 (ns + 1) cap6)).cell? ⟨rb, 1, none⟩ = some (.int .i64 (last + 1)) := hBF.cell 1
  clear hBF hsz hr6 ho6 hg6 hB6 HC6 hal hRY hlo c0 c1 c2
  go_wp2_with fail
  go_ret
  exact ⟨rfl, _, HF.out, HS.out⟩
end Go.Proofs.Ytmnihombiabkgaa
