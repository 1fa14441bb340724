import Derived.Deep.Cut
import Derived.Test.YtgohjkamikpdcaaLkI
namespace Go.Proofs.Ytgohjkamikpdcaa
open Go.RowKit Go.PlainAid
set_option linter.unusedVariables false
set_option linter.unusedSimpArgs false
set_option maxRecDepth 100000 in
set_option maxHeartbeats 3200000 in
/-- An answer is kept: it is left as it is, beside what it was. -/
theorem put_lateR {L kb : Nat} {vI vW vR vX l : Value} {es : List (LE Int)} {rs : List (LE (Int × Int))} {zs : List (Int × Int)} (w : World) (hK : KL L kb vI vW vR vX es rs w) (hl : w.ownsRow L 38 2 l zs.length (flatR zs)) (hap : ∀ g, l.ownBlock = some g → ¬ KLB kb vI vW vR vX es rs g) (hn : zs.length ≤ 1000) (hel : rs.length ≤ 1000000000000) :
    Calls Try.prog 26 #[.pointer (some ⟨kb, 0, none⟩), l] w fun r w' => r = .returned (.tuple #[]) ∧ ∃ v1 v2 es', KL L kb vI vW v1 v2 es es' w' ∧ es'.length = rs.length + 1 ∧ Chg (KLB kb vI vW vR vX es rs) w w' ∧ ∀ k, KLB kb vI vW v1 v2 es es' k → KLB kb vI vW vR vX es rs k ∨ l.ownBlock = some k ∨ w.heap.size ≤ k := by
  obtain ⟨lo, lc, hll, _⟩ := own_slice hl
  obtain ⟨ln, hln⟩ : ∃ ln, ln = zs.length := ⟨_, rfl⟩
  rw [← hln] at hll
  obtain ⟨io, ci, hii, _⟩ := own_slice hK.yi
  obtain ⟨wo, cw, hww, _⟩ := own_slice hK.yw
  obtain ⟨ne, hne⟩ : ∃ ne, ne = rs.length := ⟨_, rfl⟩
  rw [← hne] at hii hww
  have hLw : L ≤ w.heap.size := Nat.le_trans hK.lk (Nat.le_of_lt hK.blk.lt)
  have hone : l.oneCell' = true := by rw [hll]; rfl
  have xi := hK.yi
  rw [show rs.length = (rs.map LE.l).length from by simp] at xi
  obtain ⟨v1, w1, hr1, ho1, hg1⟩ := app_sl34 l hone xi hLw (by simp; omega)
  rw [List.length_map] at ho1
  obtain ⟨io1, ci1, hv1, _⟩ := own_slice ho1
  rw [← hne] at hv1
  have hkI : ∀ g, vR.ownBlock = some g → g ≠ kb := kb_ne hK.yi hK.blk (by decide)
  have hB1 : Blk w1 kb #[.bool true, vI, vW, .slice none 0 0, vR, vX, .slice none 0 0] 44 := hg1.chg.blk hK.blk (fun e => hkI kb e rfl)
  obtain ⟨Y, hY⟩ : ∃ Y, Y = w1.setCell ⟨kb, 4, none⟩ v1 := ⟨_, rfl⟩
  have hcY : Chg (fun k => k = kb ∨ vR.ownBlock = some k) w Y := by rw [hY]; exact (hg1.chg.mono (fun j _ e => Or.inr e)).trans (Chg.setCell _) (fun j _ e => Or.inl e)
  have hBY : Blk Y kb #[.bool true, vI, vW, .slice none 0 0, v1, vX, .slice none 0 0] 44 := by rw [hY]; exact hB1.set 4 v1
  have hkb1 : ∀ g, v1.ownBlock = some g → g ≠ kb := fun g e => by
    rcases hg1.at' g e with q | q
    · exact hkI g q
    · have := hK.blk.lt; omega
  have hoY : Y.ownsRow L 34 1 v1 (rs.length + 1) (rs.map LE.l ++ [l]) := by rw [hY]; exact ownsRow_same ho1 (fun g e => (Chg.setCell (w := w1) (g := kb) (k := 4) v1).block g (ownsRow_lt ho1 e).2 (hkb1 g e))
  have hsame : ∀ {t s n : Nat} {u : Value} {xs : List Value}, w.ownsRow L t s u n xs → t ≠ 44 → (∀ g, u.ownBlock = some g → vR.ownBlock ≠ some g) → Y.ownsRow L t s u n xs := fun hu h44 hts => ownsRow_same hu (fun g e => hcY.block g (ownsRow_lt hu e).2 (fun hb => by
    rcases hb with hb | hb
    · exact kb_ne hu hK.blk h44 g e hb
    · exact hts g e hb))
  have hwY := hsame hK.yw (by decide) (fun g e1 e2 => hK.rx g e2 e1)
  have hlY := hsame hl (by decide) (ty_ne hl hK.yi (by decide))
  have helY : ∀ e ∈ rs, Y.ownsRow L 38 2 e.l e.zs.length ((flatR e.zs)) := fun e he => hsame (hK.rl e he) (by decide) (ty_ne (hK.rl e he) hK.yi (by decide))
  have hewY : ∀ e ∈ rs, Y.ownsRow L 38 2 e.was e.zs.length ((flatR e.zs)) := fun e he => hsame (hK.rw' e he) (by decide) (ty_ne (hK.rw' e he) hK.yi (by decide))
  have hoi := hsame hK.xi (by decide) (ty_ne hK.xi hK.yi (by decide))
  have how := hsame hK.xw (by decide) (ty_ne hK.xw hK.yi (by decide))
  have hol : ∀ e ∈ es, Y.ownsRow L 3 1 e.l e.zs.length (e.zs.map I) := fun e he => hsame (hK.el e he) (by decide) (ty_ne (hK.el e he) hK.yi (by decide))
  have hox : ∀ e ∈ es, Y.ownsRow L 3 1 e.was e.zs.length (e.zs.map I) := fun e he => hsame (hK.ew e he) (by decide) (ty_ne (hK.ew e he) hK.yi (by decide))
  have HO : Hid _ := And.intro hoi (And.intro how (And.intro hol hox))
  clear hoi how hol hox
  have hiw1 : ∀ g, v1.ownBlock = some g → vX.ownBlock ≠ some g := fun g e1 e2 => by
    rcases hg1.at' g e1 with q | q
    · exact hK.rx g q e2
    · have := (ownsRow_lt hK.yw e2).2; omega
  have c0 : w.cell? ⟨kb, 0, none⟩ = some (.bool true) := hK.blk.cell 0
  have c1 : w.cell? ⟨kb, 4, none⟩ = some vR := hK.blk.cell 4
  have d1 : w1.cell? ⟨kb, 4, none⟩ = some vR := hB1.cell 4
  have f1 : w1.frozen? ⟨kb, 4, none⟩ = false := hB1.frozen 4
  have HK : Hid _ := hK
  have HAP : Hid _ := hap
  have HHR : Hid (∀ ty, (Builtin.append_ #[42, 42] ty #[vR, .slice (some ⟨w.heap.size, 0, none⟩) 1 1]).run Try.prog (w.alloc (.cells #[l] 34)) = .ok v1 w1) := hr1
  have HBY : Hid (Blk Y kb #[.bool true, vI, vW, .slice none 0 0, v1, vX, .slice none 0 0] 44) := hBY
  have HCY : Hid (Chg (fun k => k = kb ∨ vR.ownBlock = some k) w Y) := hcY
  have HOY : Hid (Y.ownsRow L 34 1 v1 (rs.length + 1) (rs.map LE.l ++ [l])) := hoY
  have HWY : Hid (Y.ownsRow L 34 1 vX rs.length (rs.map LE.was)) := hwY
  have HLY : Hid (Y.ownsRow L 38 2 l zs.length ((flatR zs))) := hlY
  have HEL : Hid (∀ e ∈ rs, Y.ownsRow L 38 2 e.l e.zs.length ((flatR e.zs))) := helY
  have HEW : Hid (∀ e ∈ rs, Y.ownsRow L 38 2 e.was e.zs.length ((flatR e.zs))) := hewY
  have HIW : Hid (∀ g, v1.ownBlock = some g → vX.ownBlock ≠ some g) := hiw1
  have HV1 : Hid (∀ g, v1.ownBlock = some g → vR.ownBlock = some g ∨ w.heap.size ≤ g) := fun g e => hg1.at' g e
  have HKB1 : Hid (∀ g, v1.ownBlock = some g → g ≠ kb) := hkb1
  have HNE : Hid (ne = rs.length) := hne
  have HZS : Hid (zs.length ≤ 1000) := hn
  have HLN : Hid (ln = zs.length) := hln
  have hne4 : ne ≤ 1000000000000 := by omega
  have HLW : Hid (L ≤ w.heap.size) := hLw
  have HEY : Hid (Y = w1.setCell ⟨kb, 4, none⟩ v1) := hY
  clear hl hK hap hr1 ho1 hg1 hkI hB1 hcY hBY hkb1 hoY hsame hwY hlY helY hewY hiw1 hone xi hne hln hLw hY hel hn
  subst hll hii hww hv1
  go_enter Try.func26, Try.ntmps26
  go_upto_region 2 with (at_builtin; refine wpList_runs rfl _ _ 42 rfl rfl rfl HHR.out ?_)
  rw [← HEY.out]
  clear c0 c1 d1 f1 HHR HEY
  go_wp2_with fail
  rename_i K hK
  try rw [show ∀ a : Act, a.put none undef = a from fun _ => rfl]
  refine wp_region_mix (fun wz => wz.cell? ⟨kb, 5, none⟩ = some (.slice wo ne cw)) (fun i => i == 6 || i == 7 || i == 8 || i == 11) 11 (by kernel_rfl) rfl (by kernel_rfl) (by kernel_rfl) (by kernel_rfl) ?_
  refine withFrP (N := 42) rfl ?_
  intro f0 F0 hff
  have e0 : f0 0 = Value.pointer (some ⟨kb, 0, none⟩) := hff 0
  have e1 : f0 1 = Value.slice lo ln lc := hff 1
  clear hff
  have HCC : (fun wz => wz.cell? ⟨kb, 5, none⟩ = some (.slice wo ne cw)) (({ Y with drawn := Y.drawn + 1 } : World)) := HBY.out.cell 5
  refine lyp F0 rfl HCC rfl (by omega) (wanted_none rfl) (v := Value.pointer (some ⟨kb, 0, none⟩)) (fun wr hwr => by simp only [execOp, (F0.eval 0 (by omega)).trans (show _ = Value.pointer (some ⟨kb, 0, none⟩) from by simp [upd, e0, e1])]; first | rfl | simp [go_sem]) fun Fp1 => ?_
  refine lyp Fp1 rfl HCC rfl (by omega) (wanted_none rfl) (v := Value.pointer (some ⟨kb, 0, none⟩)) (fun wr hwr => by simp only [execOp, (Fp1.eval 0 (by omega)).trans (show _ = Value.pointer (some ⟨kb, 0, none⟩) from by simp [upd, e0, e1])]; first | rfl | simp [go_sem]) fun Fp2 => ?_
  refine lyp Fp2 rfl HCC rfl (by omega) (wanted_none rfl) (v := Value.pointer (some ⟨kb, 0, none⟩)) (fun wr hwr => by simp only [execOp, (Fp2.eval 20 (by omega)).trans (show _ = Value.pointer (some ⟨kb, 0, none⟩) from by simp [upd, e0, e1])]; simp [go_sem]) fun Fp3 => ?_
  refine lyp Fp3 rfl HCC rfl (by omega) (wanted_none rfl) (v := Value.pointer (some ⟨kb, 5, none⟩)) (fun wr hwr => by simp only [execOp, (Fp3.eval 21 (by omega)).trans (show _ = Value.pointer (some ⟨kb, 0, none⟩) from by simp [upd, e0, e1])]; simp [go_sem]) fun Fp4 => ?_
  refine lyp Fp4 rfl HCC rfl (by omega) (wanted_none rfl) (v := Value.slice wo ne cw) (fun wr hwr => by simp only [execOp, (Fp4.eval 22 (by omega)).trans (show _ = Value.pointer (some ⟨kb, 5, none⟩) from by simp [upd, e0, e1])]; simp [go_sem, (show wr.cell? ⟨kb, 5, none⟩ = some (.slice wo ne cw) from hwr)]) fun Fp5 => ?_
  refine lyp Fp5 rfl HCC rfl (by omega) (wanted_none rfl) (v := Value.slice lo ln lc) (fun wr hwr => by simp only [execOp, (Fp5.eval 1 (by omega)).trans (show _ = Value.slice lo ln lc from by simp [upd, e0, e1])]; first | rfl | simp [go_sem]) fun Fp6 => ?_
  have hnilY : World.ownsRow ({ Y with drawn := Y.drawn + 1 } : World) Y.heap.size 38 2 (.slice none 0 0) 0 (flatR []) := World.ownsRow_nil _ _ _ _
  obtain ⟨vc, w2, hr2, hoc0, hgc⟩ := app_rows (w := ({ Y with drawn := Y.drawn + 1 } : World)) 34 38 (.agg #[.int .i64 0, .int .i64 0]) 2 16 Try.underlying34 info38 rfl (by decide) (by decide) hnilY (ao := lo) (m := ln) (cap := lc) (ys := (flatR zs)) (by rw [flatR_length, HLN.out]) (fun e => by
    subst e
    rcases HLY.out.2 with ⟨h1, h2⟩ | ⟨g2, c, cur, h1, _⟩
    · simp only [Value.slice.injEq] at h1
      exact ⟨h1.2.1, h1.2.2⟩
    · cases h1) (fun ad had i x hx => by
    subst had
    rcases HLY.out.2 with ⟨h1, h2⟩ | ⟨g2, c, cur, h1, _⟩
    · cases h1
    · simp only [Value.slice.injEq, Option.some.injEq] at h1
      obtain ⟨rfl, _, rfl⟩ := h1
      have hq := HLY.out.cells (g := g2) rfl i x hx
      exact hq) (oneFR zs) (by have := HZS.out; have := HLN.out; omega) (Nat.le_refl _)
  rw [Nat.zero_add, show flatR [] ++ (flatR zs) = (flatR zs) from rfl] at hoc0
  obtain ⟨co, cc, hvc, _⟩ := own_slice hoc0
  subst hvc
  have hb2 : Below Y.heap.size Y w2 := (Below.drew (Below.refl Y.heap.size Y)).trans (hgc.below (fun q hq => by cases hq) (Nat.le_refl _))
  have hocY : w2.ownsRow Y.heap.size 38 2 (.slice co ln cc) zs.length ((flatR zs)) := by rw [← HLN.out]; exact hoc0
  have hLY : L ≤ Y.heap.size := Nat.le_trans HLW.out HCY.out.size
  have hoc : w2.ownsRow L 38 2 (.slice co ln cc) zs.length ((flatR zs)) := ownsRow_mono hocY hLY
  have hB2 : Blk w2 kb #[.bool true, vI, vW, .slice none 0 0, .slice io1 (ne + 1) ci1, .slice wo ne cw, .slice none 0 0] 44 := (hb2.block kb HBY.out.lt).trans HBY.out
  have HC2 : (fun wz => wz.cell? ⟨kb, 5, none⟩ = some (.slice wo ne cw)) w2 := hB2.cell 5
  refine lep Fp6 rfl HCC rfl (by omega) (wanted_none rfl) (v := Value.slice co ln cc) (w1 := w2) (by simp only [execOp, resolve, invoke, builtin, List.map_toArray, List.map_cons, List.map_nil, (Fp6.eval 24 (by omega)).trans (show _ = Value.slice lo ln lc from by simp [upd, e0, e1])]; simp only [Sem.run_bind, Sem.run_pure, Result.andThen_ok, Act.eval, hr2]; try rfl) fun Fp7 => ?_
  refine lep Fp7 rfl HC2 rfl (by omega) (wanted_none rfl) (v := Value.slice (some ⟨w2.heap.size, 0, none⟩) 1 1) (w1 := (w2.alloc (.cells #[.slice co ln cc] 34))) (by simp only [execOp, List.map_toArray, List.map_cons, List.map_nil, (Fp7.eval 25 (by omega)).trans (show _ = Value.slice co ln cc from by simp [upd, e0, e1])]; simp [go_sem]) fun Fp8 => ?_
  have hB3 : Blk (w2.alloc (.cells #[.slice co ln cc] 34)) kb #[.bool true, vI, vW, .slice none 0 0, .slice io1 (ne + 1) ci1, .slice wo ne cw, .slice none 0 0] 44 := Blk.below hB2 ((Below.refl _ _).alloc (Nat.le_refl _) _) hB2.lt
  have HC3 : (fun wz => wz.cell? ⟨kb, 5, none⟩ = some (.slice wo ne cw)) (w2.alloc (.cells #[.slice co ln cc] 34)) := hB3.cell 5
  have hwY2 : w2.ownsRow L 34 1 (.slice wo ne cw) rs.length (rs.map LE.was) := ownsRow_same HWY.out (fun g e => hb2.block g (ownsRow_lt HWY.out e).2)
  have hwY3 := hwY2
  rw [show rs.length = (rs.map LE.was).length from by simp] at hwY3
  obtain ⟨v4, w4, hr4, ho4, hg4⟩ := app_sl34 (.slice co ln cc) rfl hwY3 (Nat.le_trans hLY hb2.size) (by rw [List.length_map]; have := HNE.out; omega)
  rw [List.length_map] at ho4
  obtain ⟨wo4, cw4, hv4, _⟩ := own_slice ho4
  rw [← HNE.out] at hv4
  subst hv4
  have hB4 : Blk w4 kb #[.bool true, vI, vW, .slice none 0 0, .slice io1 (ne + 1) ci1, .slice wo ne cw, .slice none 0 0] 44 := hg4.chg.blk hB2 (fun e => kb_ne hwY2 hB2 (by decide) kb e rfl)
  have HC6 : (fun wz => wz.cell? ⟨kb, 5, none⟩ = some (.slice wo ne cw)) w4 := hB4.cell 5
  refine lep Fp8 rfl HC3 rfl (by omega) (wanted_none rfl) (v := Value.slice wo4 (ne + 1) cw4) (w1 := w4) (by simp only [execOp, resolve, invoke, builtin, List.map_toArray, List.map_cons, List.map_nil, (Fp8.eval 23 (by omega)).trans (show _ = Value.slice wo ne cw from by simp [upd, e0, e1]), (Fp8.eval 26 (by omega)).trans (show _ = Value.slice (some ⟨w2.heap.size, 0, none⟩) 1 1 from by simp [upd, e0, e1])]; simp only [Sem.run_bind, Sem.run_pure, Result.andThen_ok, hr4]; try rfl) fun Fp9 => ?_
  refine lyp Fp9 rfl HC6 rfl (by omega) (wanted_none rfl) (v := Value.pointer (some ⟨kb, 0, none⟩)) (fun wr hwr => by simp only [execOp, (Fp9.eval 19 (by omega)).trans (show _ = Value.pointer (some ⟨kb, 0, none⟩) from by simp [upd, e0, e1])]; simp [go_sem]) fun Fp10 => ?_
  refine lyp Fp10 rfl HC6 rfl (by omega) (wanted_none rfl) (v := Value.pointer (some ⟨kb, 5, none⟩)) (fun wr hwr => by simp only [execOp, (Fp10.eval 28 (by omega)).trans (show _ = Value.pointer (some ⟨kb, 0, none⟩) from by simp [upd, e0, e1])]; simp [go_sem]) fun Fp11 => ?_
  refine lst rfl HC6 rfl (wanted_none rfl) (w1 := w4.setCell ⟨kb, 5, none⟩ (.slice wo4 (ne + 1) cw4)) (by simp only [execOp, (Fp11.eval 29 (by omega)).trans (show _ = Value.pointer (some ⟨kb, 5, none⟩) from by simp [upd, e0, e1]), (Fp11.eval 27 (by omega)).trans (show _ = Value.slice wo4 (ne + 1) cw4 from by simp [upd, e0, e1])]; simp [go_sem, hB4.frozen 5, show w4.cell? ⟨kb, 5, none⟩ = some (.slice wo ne cw) from HC6]) ?_
  refine ⟨fun h => by omega, ?_⟩
  refine hK _ _ ?_
  clear F0 Fp1 Fp2 Fp3 Fp4 Fp5 Fp6 Fp7 Fp8 Fp9 Fp10 Fp11 e0 e1 HCC HC2 HC3 hB3 hnilY hoc0 hgc hwY3
  simp only [Act.put, List.setIfInBounds_toArray, List.set_cons_succ, List.set_cons_zero]
  have hsf : ∀ {t s n : Nat} {u : Value} {xs : List Value}, Y.ownsRow L t s u n xs → t ≠ 44 → (∀ g, u.ownBlock = some g → (Value.slice wo ne cw).ownBlock ≠ some g) → (w4.setCell ⟨kb, 5, none⟩ (.slice wo4 (ne + 1) cw4)).ownsRow L t s u n xs := fun hu h44 hts => by
    have h1 := ownsRow_same hu (fun g e => hb2.block g (ownsRow_lt hu e).2)
    have h2 := ownsRow_same h1 (fun g e => hg4.chg.block g (ownsRow_lt h1 e).2 (hts g e))
    exact ownsRow_same h2 (fun g e => (Chg.setCell (w := w4) (g := kb) (k := 5) _).block g (ownsRow_lt h2 e).2 (fun e2 => kb_ne h2 hB4 h44 g e e2))
  have fi : (w4.setCell ⟨kb, 5, none⟩ (.slice wo4 (ne + 1) cw4)).ownsRow L 34 1 (.slice io1 (ne + 1) ci1) (rs ++ [(⟨.slice lo ln lc, .slice co ln cc, zs⟩ : LE (Int × Int))]).length ((rs ++ [(⟨.slice lo ln lc, .slice co ln cc, zs⟩ : LE (Int × Int))]).map LE.l) := by
    have := hsf HOY.out (by decide) (fun g e1 e2 => HIW.out g e1 e2)
    simpa using this
  have fw : (w4.setCell ⟨kb, 5, none⟩ (.slice wo4 (ne + 1) cw4)).ownsRow L 34 1 (.slice wo4 (ne + 1) cw4) (rs ++ [(⟨.slice lo ln lc, .slice co ln cc, zs⟩ : LE (Int × Int))]).length ((rs ++ [(⟨.slice lo ln lc, .slice co ln cc, zs⟩ : LE (Int × Int))]).map LE.was) := by
    have := ownsRow_same ho4 (fun g e => (Chg.setCell (w := w4) (g := kb) (k := 5) (.slice wo4 (ne + 1) cw4)).block g (ownsRow_lt ho4 e).2 (fun e2 => by
      rcases hg4.at' g e with q | q
      · exact kb_ne HWY.out HBY.out (by decide) g q e2
      · have h1 := HBY.out.lt
        have h2 := hb2.size
        omega))
    simpa using this
  have fl : ∀ e ∈ rs ++ [(⟨.slice lo ln lc, .slice co ln cc, zs⟩ : LE (Int × Int))], (w4.setCell ⟨kb, 5, none⟩ (.slice wo4 (ne + 1) cw4)).ownsRow L 38 2 e.l e.zs.length (flatR e.zs) := fun e he => by
    rcases List.mem_append.1 he with q | q
    · exact hsf (HEL.out e q) (by decide) (ty_ne (HEL.out e q) HWY.out (by decide))
    · rw [List.mem_singleton.1 q]
      exact hsf HLY.out (by decide) (ty_ne HLY.out HWY.out (by decide))
  have fx : ∀ e ∈ rs ++ [(⟨.slice lo ln lc, .slice co ln cc, zs⟩ : LE (Int × Int))], (w4.setCell ⟨kb, 5, none⟩ (.slice wo4 (ne + 1) cw4)).ownsRow L 38 2 e.was e.zs.length (flatR e.zs) := fun e he => by
    rcases List.mem_append.1 he with q | q
    · exact hsf (HEW.out e q) (by decide) (ty_ne (HEW.out e q) HWY.out (by decide))
    · rw [List.mem_singleton.1 q]
      have h1 : w4.ownsRow L 38 2 (.slice co ln cc) zs.length (flatR zs) := ownsRow_same hoc (fun g e => hg4.chg.block g (ownsRow_lt hoc e).2 (fun e2 => (ty_ne hoc hwY2 (by decide)) g e e2))
      exact ownsRow_same h1 (fun g e => (Chg.setCell (w := w4) (g := kb) (k := 5) (.slice wo4 (ne + 1) cw4)).block g (ownsRow_lt h1 e).2 (fun e2 => kb_ne h1 hB4 (by decide) g e e2))
  have fn' : ∀ e ∈ rs ++ [(⟨.slice lo ln lc, .slice co ln cc, zs⟩ : LE (Int × Int))], e.zs.length ≤ 1000 := fun e he => by
    rcases List.mem_append.1 he with q | q
    · exact HK.out.rn e q
    · rw [List.mem_singleton.1 q]
      have := HZS.out
      exact this
  have fd : ∀ g, (Value.slice io1 (ne + 1) ci1).ownBlock = some g → (Value.slice wo4 (ne + 1) cw4).ownBlock ≠ some g := fun g e1 e2 => by
    rcases hg4.at' g e2 with q | q
    · exact HIW.out g e1 q
    · have h1 := (ownsRow_lt HOY.out e1).2
      have h2 := hb2.size
      omega
  have fp : (rs ++ [(⟨.slice lo ln lc, .slice co ln cc, zs⟩ : LE (Int × Int))]).Pairwise fun e f => ∀ g, e.l.ownBlock = some g → f.l.ownBlock ≠ some g := by
    refine List.pairwise_append.2 ⟨HK.out.rj, List.pairwise_singleton _ _, fun e he f hf g e1 e2 => ?_⟩
    rw [List.mem_singleton.1 hf] at e2
    exact HAP.out g e2 (.inr (.inr (.inr (.inr (.inr (.inr (⟨e, he, .inl e1⟩)))))))
  have gi := hsf HO.out.1 (by decide) (ty_ne HO.out.1 HWY.out (by decide))
  have gw := hsf HO.out.2.1 (by decide) (ty_ne HO.out.2.1 HWY.out (by decide))
  have gl : ∀ e ∈ es, (w4.setCell ⟨kb, 5, none⟩ (.slice wo4 (ne + 1) cw4)).ownsRow L 3 1 e.l e.zs.length (e.zs.map I) := fun e he => hsf (HO.out.2.2.1 e he) (by decide) (ty_ne (HO.out.2.2.1 e he) HWY.out (by decide))
  have gx : ∀ e ∈ es, (w4.setCell ⟨kb, 5, none⟩ (.slice wo4 (ne + 1) cw4)).ownsRow L 3 1 e.was e.zs.length (e.zs.map I) := fun e he => hsf (HO.out.2.2.2 e he) (by decide) (ty_ne (HO.out.2.2.2 e he) HWY.out (by decide))
  have hfin : KL L kb vI vW (.slice io1 (ne + 1) ci1) (.slice wo4 (ne + 1) cw4) es (rs ++ [(⟨.slice lo ln lc, .slice co ln cc, zs⟩ : LE (Int × Int))]) (w4.setCell ⟨kb, 5, none⟩ (.slice wo4 (ne + 1) cw4)) :=
    ⟨hB4.set 5 _, gi, gw, gl, gx, HK.out.ln, HK.out.iw, HK.out.dj, fi, fw, fl, fx, fn', fd, fp, HK.out.lk⟩
  have HF : Hid _ := hfin
  have HCF : Hid (Chg (KLB kb vI vW (.slice io ne ci) (.slice wo ne cw) es rs) w (w4.setCell ⟨kb, 5, none⟩ (.slice wo4 (ne + 1) cw4))) := by
    have a1 : Chg (KLB kb vI vW (.slice io ne ci) (.slice wo ne cw) es rs) w Y := HCY.out.mono (fun j _ e => by
      rcases e with e | e
      · exact .inl e
      · exact .inr (.inr (.inr (.inl e))))
    have a2 := a1.trans (Chg.ofBelow (KLB kb vI vW (.slice io ne ci) (.slice wo ne cw) es rs) hb2) (fun _ _ e => e)
    have a3 := a2.trans (hg4.chg.mono (B := KLB kb vI vW (.slice io ne ci) (.slice wo ne cw) es rs) (fun j _ e => .inr (.inr (.inr (.inr (.inl e)))))) (fun _ _ e => e)
    exact a3.trans ((Chg.setCell (w := w4) (g := kb) (k := 5) _).mono (B := KLB kb vI vW (.slice io ne ci) (.slice wo ne cw) es rs) (fun j _ e => .inl e)) (fun _ _ e => e)
  have HBF : Hid (∀ k, KLB kb vI vW (.slice io1 (ne + 1) ci1) (.slice wo4 (ne + 1) cw4) es (rs ++ [(⟨.slice lo ln lc, .slice co ln cc, zs⟩ : LE (Int × Int))]) k → KLB kb vI vW (.slice io ne ci) (.slice wo ne cw) es rs k ∨ (Value.slice lo ln lc).ownBlock = some k ∨ w.heap.size ≤ k) := fun k hk => by
    have s1 := HCY.out.size
    have s2 := hb2.size
    rcases hk with q | q | q | q | q | ⟨x, hx, q⟩ | ⟨x, hx, q⟩
    · exact .inl (.inl q)
    · exact .inl (.inr (.inl q))
    · exact .inl (.inr (.inr (.inl q)))
    · rcases HV1.out k q with q | q
      · exact .inl (.inr (.inr (.inr (.inl q))))
      · exact .inr (.inr q)
    · rcases hg4.at' k q with q | q
      · exact .inl (.inr (.inr (.inr (.inr (.inl q)))))
      · exact .inr (.inr (by omega))
    · exact .inl (.inr (.inr (.inr (.inr (.inr (.inl ⟨x, hx, q⟩))))))
    · rcases List.mem_append.1 hx with hx | hx
      · exact .inl (.inr (.inr (.inr (.inr (.inr (.inr (⟨x, hx, q⟩)))))))
      · rw [List.mem_singleton.1 hx] at q
        rcases q with q | q
        · exact .inr (.inl q)
        · have := (ownsRow_lt hocY q).1
          exact .inr (.inr (by omega))
  clear hfin hsf fi fw fl fx fn' fd fp gi gw gl gx hB4 ho4 hg4 hoc hocY hwY2 hb2 hr2 hr4 HC6
  go_wp2_with fail
  refine bodyPost_ret (results_none rfl _ _ _) rfl ?_
  exact ⟨rfl, _, _, _, HF.out, by simp, HCF.out, HBF.out⟩
end Go.Proofs.Ytgohjkamikpdcaa
