import Derived.Test.YtcjgicfmfjomgaaTw
namespace Go.Proofs.Ytcjgicfmfjomgaa
open Go.RowKit Go.PlainAid Go.MapKept
set_option linter.unusedVariables false
set_option linter.unusedSimpArgs false
set_option maxRecDepth 100000 in
set_option maxHeartbeats 6400000 in
theorem alive_any (w : World) : Calls Try.prog 9 #[] w fun e w' => e = .returned (.bool true) ∧ Below w.heap.size w w' := by
  have HM1 : Hid _ := made_yes 0 1 2 3 w (by unfold repOk; omega) (by unfold argOk; omega)
  go_enter Try.func9, Try.ntmps9
  go_wp2_with fail
  refine Calls.mono HM1.out ?_
  rintro e w1 ⟨lb, cb, mb, eb, rfl, hE1, hb1⟩
  have HE1 : Hid _ := hE1
  have HB1 : Hid (Below w.heap.size w w1) := hb1
  have HM2 : Hid _ := made_yes 1 0 2 3 w1 (by unfold repOk; omega) (by unfold argOk; omega)
  clear hE1 hb1 HM1
  go_wp2_with fail
  refine Calls.mono HM2.out ?_
  rintro e w2 ⟨lb', cb', mb', eb', rfl, hE2, hb2⟩
  have HT : Hid (TW w.heap.size lb cb mb eb (.slice none 0 0) (fresh 0 1 2 3) lb' cb' mb' eb' (.slice none 0 0) (fresh 1 0 2 3) w w2) := show TW _ _ _ _ _ _ _ _ _ _ _ _ _ _ _ from by
    refine ⟨HE1.out.more hb2, hE2.low HB1.out.size, fun k hk hk' => ?_, HB1.out.trans (hb2.mono HB1.out.size)⟩
    have h1 := (HE1.out.elt hk).2
    have h2 := (hE2.elt hk').1
    omega
  have HS : Hid (w.heap.size ≤ w2.heap.size) := show _ ≤ _ from Nat.le_trans HB1.out.size hb2.size
  clear HM2 HE1 HB1 hE2 hb2
  have c1 : w2.cell? ⟨eb, 0, none⟩ = some (.pointer (some ⟨lb, 0, none⟩)) := HT.out.a.cell
  have v1 := one_conv w2 w2.heap.size rfl 97
  go_wp2_with fail
  have ht3 := HT.out.more (w1 := w2.alloc (.cells #[.int .u8 97] 5 (1, 2))) ((Below.refl _ _).alloc (Nat.le_refl _) _) HS.out HS.out
  refine Calls.mono (send_any _ ht3.a.lm (by simp [fresh]) (by simp [fresh]) (by simp [fresh]) (one_by 97 (Below.refl _ _)) (by simp)) ?_
  rintro e w3 ⟨rfl, x1, hx1, hM, hs⟩
  have e1 : sendCode (fresh 0 1 2 3) [97] = 0 := by decide
  unfold SentTo at hx1
  rw [if_pos e1] at hx1
  obtain ⟨d1, rfl⟩ := hx1
  rw [e1]
  have HT3 : Hid _ := ht3.fst hM hs
  have HS3 : Hid (w.heap.size ≤ w3.heap.size) := show _ ≤ _ from Nat.le_trans HS.out (Nat.le_trans (by simp) hs.1.size)
  clear HT HS hM hs e1 c1 v1 ht3
  have c1 : w3.cell? ⟨eb, 0, none⟩ = some (.pointer (some ⟨lb, 0, none⟩)) := HT3.out.a.cell
  go_wp2_with fail
  refine Calls.mono (send_any (s := []) _ HT3.out.a.lm (by simp [fresh, LV.push]) (by simp [fresh, LV.push]) (by simp [fresh, LV.push]) ⟨none, 0, 0, rfl, rfl, fun _ => ⟨rfl, rfl⟩, fun ad h => by cases h⟩ (by simp)) ?_
  rintro e w4 ⟨rfl, x2, hx2, hM, hs⟩
  have e1 : sendCode ((fresh 0 1 2 3).push ⟨d1, [97]⟩) [] = 0 := rfl
  unfold SentTo at hx2
  rw [if_pos e1] at hx2
  obtain ⟨d2, rfl⟩ := hx2
  rw [e1]
  have HT4 : Hid _ := HT3.out.fst hM hs
  have HS4 : Hid (w.heap.size ≤ w4.heap.size) := show _ ≤ _ from Nat.le_trans HS3.out hs.1.size
  clear HT3 HS3 hM hs e1 c1
  have c1 : w4.cell? ⟨eb, 0, none⟩ = some (.pointer (some ⟨lb, 0, none⟩)) := HT4.out.a.cell
  have v1 := one_conv w4 w4.heap.size rfl 99
  go_wp2_with fail
  have ht5 := HT4.out.more (w1 := w4.alloc (.cells #[.int .u8 99] 5 (1, 2))) ((Below.refl _ _).alloc (Nat.le_refl _) _) HS4.out HS4.out
  refine Calls.mono (send_any _ ht5.a.lm (by simp [fresh, LV.push]) (by simp [fresh, LV.push]) (by simp [fresh, LV.push]) (one_by 99 (Below.refl _ _)) (by simp)) ?_
  rintro e w5 ⟨rfl, x3, hx3, hM, hs⟩
  have e1 : sendCode (((fresh 0 1 2 3).push ⟨d1, [97]⟩).push ⟨d2, []⟩) [99] = 30 := rfl
  unfold SentTo at hx3
  rw [if_neg (by rw [e1]; decide)] at hx3
  subst hx3
  rw [e1]
  have HT5 : Hid _ := ht5.fst hM hs
  have HS5 : Hid (w.heap.size ≤ w5.heap.size) := show _ ≤ _ from Nat.le_trans HS4.out (Nat.le_trans (by simp) hs.1.size)
  clear HT4 HS4 hM hs e1 c1 v1 ht5
  have c1 : w5.cell? ⟨eb, 0, none⟩ = some (.pointer (some ⟨lb, 0, none⟩)) := HT5.out.a.cell
  go_wp2_with fail
  refine Calls.mono (out_any _ HT5.out.a.lm (by simp [fresh, LV.push]) (by simp [fresh, LV.push]) (by simp [fresh, LV.push]) (by simp [fresh, LV.push]) (by simp [fresh, LV.push, LV.all])) ?_
  rintro e w6 ⟨v, uv', l, rfl, hl, hSL, hM, hs, hdj⟩
  have HT6 : Hid _ := HT5.out.fst hM hs
  have HS6 : Hid (w.heap.size ≤ w6.heap.size) := show _ ≤ _ from Nat.le_trans HS5.out hs.1.size
  have HSL : Hid (SL w5.heap.size v l w6) := hSL
  have HNB : Hid (∀ k, eown lb' cb' mb' eb' (.slice none 0 0) (fresh 1 0 2 3) k → k < w5.heap.size) := fun k hk => (HT5.out.b.elt hk).2
  clear hM hs hSL hdj HT5 HS5 c1
  rw [show outTells (((fresh 0 1 2 3).push ⟨d1, [97]⟩).push ⟨d2, []⟩) = [(0, 1, 1, 0, [97]), (0, 1, 2, 0, [])] from rfl] at hl
  obtain ⟨x6, hx6⟩ : ∃ x6, x6 = ((((fresh 0 1 2 3).push ⟨d1, [97]⟩).push ⟨d2, []⟩).calm).moved (((fresh 0 1 2 3).push ⟨d1, [97]⟩).push ⟨d2, []⟩).box.length := ⟨_, rfl⟩
  rw [← hx6] at HT6
  clear hx6
  obtain ⟨b1, b2, rfl⟩ : ∃ b1 b2, l = [⟨0, 1, 1, 0, ⟨b1, [97]⟩⟩, ⟨0, 1, 2, 0, ⟨b2, []⟩⟩] := by
    have h2 : l.length = 2 := by simpa using congrArg List.length hl
    obtain ⟨g1, g2, rfl⟩ : ∃ g1 g2, l = [g1, g2] := by
      match l, h2 with
      | [g1, g2], _ => exact ⟨_, _, rfl⟩
    obtain ⟨f1, t1, q1, a1, ⟨y1, z1⟩⟩ := g1
    obtain ⟨f2, t2, q2, a2, ⟨y2, z2⟩⟩ := g2
    simp only [List.map_cons, List.map_nil, Sgm.pr, List.cons.injEq, Prod.mk.injEq, and_true] at hl
    obtain ⟨⟨rfl, rfl, rfl, rfl, rfl⟩, rfl, rfl, rfl, rfl, rfl⟩ := hl
    exact ⟨_, _, rfl⟩
  clear hl
  have ho1 : w6.ownsRow w5.heap.size 5 1 b1 1 [B 97] := HSL.out.d ⟨0, 1, 1, 0, ⟨b1, [97]⟩⟩ (by simp)
  have ho2 : w6.ownsRow w5.heap.size 5 1 b2 0 [] := HSL.out.d ⟨0, 1, 2, 0, ⟨b2, []⟩⟩ (by simp)
  obtain ⟨bo1, bc1, hb1, _⟩ := own_slice ho1
  obtain ⟨bo2, bc2, hb2, _⟩ := own_slice ho2
  subst hb1 hb2
  have HO1 : Hid _ := ho1
  have HO2 : Hid _ := ho2
  obtain ⟨go, gc, hv, _, _, hrd⟩ := own_read HSL.out.r
  obtain ⟨g, hgo, hg1, hg2, hcl⟩ := hrd (by simp)
  subst hv hgo
  have HGN : Hid (w5.heap.size ≤ g ∧ g < w6.heap.size) := ⟨hg1, hg2⟩
  have HC00 : Hid (w6.cell? ⟨g, 0, none⟩ = some (.int .i64 0)) := hcl 0 _ rfl
  have HC01 : Hid (w6.cell? ⟨g, 1, none⟩ = some (.int .i64 1)) := hcl 1 _ rfl
  have HC02 : Hid (w6.cell? ⟨g, 2, none⟩ = some (.int .i64 1)) := hcl 2 _ rfl
  have HC03 : Hid (w6.cell? ⟨g, 3, none⟩ = some (.int .i64 0)) := hcl 3 _ rfl
  have HC04 : Hid (w6.cell? ⟨g, 4, none⟩ = some (.slice bo1 1 bc1)) := hcl 4 _ rfl
  have HC50 : Hid (w6.cell? ⟨g, 5, none⟩ = some (.int .i64 0)) := hcl 5 _ rfl
  have HC51 : Hid (w6.cell? ⟨g, 6, none⟩ = some (.int .i64 1)) := hcl 6 _ rfl
  have HC52 : Hid (w6.cell? ⟨g, 7, none⟩ = some (.int .i64 2)) := hcl 7 _ rfl
  have HC53 : Hid (w6.cell? ⟨g, 8, none⟩ = some (.int .i64 0)) := hcl 8 _ rfl
  have HC54 : Hid (w6.cell? ⟨g, 9, none⟩ = some (.slice bo2 0 bc2)) := hcl 9 _ rfl
  clear hcl hg1 hg2 ho1 ho2
  have d7 := HC52.out
  have d3 := HC03.out
  have HTD : Hid _ := HT6.out.more (w1 := w6.drew) ⟨rfl, rfl, rfl, Nat.le_refl _, fun _ _ => rfl⟩ HS6.out HS6.out
  have HTK : Hid (Calls Try.prog 26 #[.pointer (some ⟨lb', 0, none⟩), .agg #[.int .i64 0, .int .i64 1, .int .i64 2, .int .i64 0, .slice bo2 0 bc2]] w6.drew (TKP w.heap.size lb' cb' mb' (.slice none 0 0) (fresh 1 0 2 3) 2 [] w6.drew)) :=
    take_old (x := fresh 1 0 2 3) (s := []) 2 0 w6.drew HTD.out.b.lm (by simp [fresh]) (by simp [fresh]) (by simp [fresh]) (by simp [fresh]) (by simp [fresh]) (by omega) (by simp [fresh]) (by omega) ((own_by (s := []) HO2.out).keep ⟨rfl, rfl, rfl, Nat.le_refl _, fun _ _ => rfl⟩) (by simp)
  have HTN : Hid (∀ {x7 w7}, LM w.heap.size lb' cb' mb' (.slice none 0 0) x7 w7 → LStp lb' cb' mb' (.slice none 0 0) (.slice none 0 0) (fresh 1 0 2 3) x7 w6.drew w7 → Hid (TW w.heap.size lb cb mb eb uv' x6 lb' cb' mb' eb' (.slice none 0 0) x7 w w7) ∧ (∀ j u, j < 10 → w6.cell? ⟨g, j, none⟩ = some u → w7.cell? ⟨g, j, none⟩ = some u)) := by
    intro x7 w7 hm hs
    refine ⟨HTD.out.snd hm hs, fun j u _ hj => ?_⟩
    refine (World.cell?_of_block (w := w6) (a := ⟨g, j, none⟩) (hs.1.block g HGN.out.2 (fun hk => ?_))).trans hj
    have := HNB.out g (.inl hk)
    have := HGN.out.1
    omega
  go_wp2_with fail
  rename_i K hK
  try rw [show ∀ a : Act, a.put none undef = a from fun _ => rfl]
  refine wp_region_mix (fun wz => wz.cell? ⟨eb', 0, none⟩ = some (.pointer (some ⟨lb', 0, none⟩)) ∧ wz.cell? ⟨g, 5, none⟩ = some (.int .i64 0) ∧ wz.cell? ⟨g, 6, none⟩ = some (.int .i64 1) ∧ wz.cell? ⟨g, 7, none⟩ = some (.int .i64 2) ∧ wz.cell? ⟨g, 8, none⟩ = some (.int .i64 0) ∧ wz.cell? ⟨g, 9, none⟩ = some (Value.slice bo2 0 bc2)) (fun i => i == 7 || i == 99) 99 (by kernel_rfl) rfl (by kernel_rfl) (by kernel_rfl) (by kernel_rfl) ?_
  refine withFrP (N := 140) rfl ?_
  intro f0 F0 hff
  have e3 : f0 3 = Value.pointer (some ⟨eb', 0, none⟩) := hff 3
  have e8 : f0 8 = Value.slice (some ⟨g, 0, none⟩) 2 gc := hff 8
  clear hff
  have HCC : (fun wz => wz.cell? ⟨eb', 0, none⟩ = some (.pointer (some ⟨lb', 0, none⟩)) ∧ wz.cell? ⟨g, 5, none⟩ = some (.int .i64 0) ∧ wz.cell? ⟨g, 6, none⟩ = some (.int .i64 1) ∧ wz.cell? ⟨g, 7, none⟩ = some (.int .i64 2) ∧ wz.cell? ⟨g, 8, none⟩ = some (.int .i64 0) ∧ wz.cell? ⟨g, 9, none⟩ = some (Value.slice bo2 0 bc2)) (({ w6 with drawn := w6.drawn + 1 } : World)) := ⟨HTD.out.b.cell, HC50.out, HC51.out, HC52.out, HC53.out, HC54.out⟩
  refine lyp F0 rfl HCC rfl (by omega) (wanted_none rfl) (v := Value.pointer (some ⟨eb', 0, none⟩)) (fun wr hwr => by simp only [execOp, (F0.eval 3 (by omega)).trans (show _ = Value.pointer (some ⟨eb', 0, none⟩) from by simp [upd, e3, e8])]; first | rfl | simp [go_sem]) fun Fr1 => ?_
  refine lyp Fr1 rfl HCC rfl (by omega) (wanted_none rfl) (v := Value.pointer (some ⟨eb', 0, none⟩)) (fun wr hwr => by simp only [execOp, (Fr1.eval 87 (by omega)).trans (show _ = Value.pointer (some ⟨eb', 0, none⟩) from by simp [upd, e3, e8])]; simp [go_sem]) fun Fr2 => ?_
  refine lyp Fr2 rfl HCC rfl (by omega) (wanted_none rfl) (v := Value.pointer (some ⟨eb', 0, none⟩)) (fun wr hwr => by simp only [execOp, (Fr2.eval 88 (by omega)).trans (show _ = Value.pointer (some ⟨eb', 0, none⟩) from by simp [upd, e3, e8])]; simp [go_sem]) fun Fr3 => ?_
  refine lyp Fr3 rfl HCC rfl (by omega) (wanted_none rfl) (v := Value.pointer (some ⟨lb', 0, none⟩)) (fun wr hwr => by simp only [execOp, (Fr3.eval 89 (by omega)).trans (show _ = Value.pointer (some ⟨eb', 0, none⟩) from by simp [upd, e3, e8])]; simp [go_sem, hwr.1]) fun Fr4 => ?_
  refine lyp Fr4 rfl HCC rfl (by omega) (wanted_none rfl) (v := Value.slice (some ⟨g, 0, none⟩) 2 gc) (fun wr hwr => by simp only [execOp, (Fr4.eval 8 (by omega)).trans (show _ = Value.slice (some ⟨g, 0, none⟩) 2 gc from by simp [upd, e3, e8])]; first | rfl | simp [go_sem]) fun Fr5 => ?_
  refine lyp Fr5 rfl HCC rfl (by omega) (wanted_none rfl) (v := Value.pointer (some ⟨g, 5, none⟩)) (fun wr hwr => by simp only [execOp, (Fr5.eval 91 (by omega)).trans (show _ = Value.slice (some ⟨g, 0, none⟩) 2 gc from by simp [upd, e3, e8])]; simp [go_sem, Act.eval]) fun Fr6 => ?_
  refine lyp Fr6 rfl HCC rfl (by omega) (wanted_none rfl) (v := Value.agg #[.int .i64 0, .int .i64 1, .int .i64 2, .int .i64 0, Value.slice bo2 0 bc2]) (fun wr hwr => by simp only [execOp, (Fr6.eval 92 (by omega)).trans (show _ = Value.pointer (some ⟨g, 5, none⟩) from by simp [upd, e3, e8])]; simp [go_sem, hwr.2.1, hwr.2.2.1, hwr.2.2.2.1, hwr.2.2.2.2.1, hwr.2.2.2.2.2]) fun Fr7 => ?_
  refine lcp Fr7 rfl HCC rfl (by omega) (wanted_none rfl) (g := 26) (args := #[Value.pointer (some ⟨lb', 0, none⟩), Value.agg #[.int .i64 0, .int .i64 1, .int .i64 2, .int .i64 0, Value.slice bo2 0 bc2]]) (by simp only [execOp, resolve, invoke, List.map_toArray, List.map_cons, List.map_nil, (Fr7.eval 90 (by omega)).trans (show _ = Value.pointer (some ⟨lb', 0, none⟩) from by simp [upd, e3, e8]), (Fr7.eval 93 (by omega)).trans (show _ = Value.agg #[.int .i64 0, .int .i64 1, .int .i64 2, .int .i64 0, Value.slice bo2 0 bc2] from by simp [upd, e3, e8])]; simp [go_sem, Act.eval]) HTK.out ?_
  rintro e w7 ⟨v7, ds7, x7, rfl, hTK⟩
  obtain ⟨HT7, HD7⟩ := HTN.out hTK.lm hTK.st
  obtain ⟨vo7, vc7, hv7, _⟩ := own_slice hTK.r
  subst hv7
  refine ⟨_, rfl, fun Fr8 => ?_⟩
  have HC2 : (fun wz => wz.cell? ⟨eb', 0, none⟩ = some (.pointer (some ⟨lb', 0, none⟩)) ∧ wz.cell? ⟨g, 5, none⟩ = some (.int .i64 0) ∧ wz.cell? ⟨g, 6, none⟩ = some (.int .i64 1) ∧ wz.cell? ⟨g, 7, none⟩ = some (.int .i64 2) ∧ wz.cell? ⟨g, 8, none⟩ = some (.int .i64 0) ∧ wz.cell? ⟨g, 9, none⟩ = some (Value.slice bo2 0 bc2)) w7 := ⟨HT7.out.b.cell, HD7 _ _ (by omega) HC50.out, HD7 _ _ (by omega) HC51.out, HD7 _ _ (by omega) HC52.out, HD7 _ _ (by omega) HC53.out, HD7 _ _ (by omega) HC54.out⟩
  refine lyp Fr8 rfl HC2 rfl (by omega) (wanted_none rfl) (v := Value.tuple #[Value.slice vo7 ds7.length vc7, .int .i64 0]) (fun wr hwr => by simp only [execOp, (Fr8.eval 94 (by omega)).trans (show _ = Value.tuple #[Value.slice vo7 ds7.length vc7, .int .i64 0] from by simp [upd, e3, e8])]; first | rfl | simp [go_sem]) fun Fr9 => ?_
  refine lyp Fr9 rfl HC2 rfl (by omega) (wanted_none rfl) (v := Value.slice vo7 ds7.length vc7) (fun wr hwr => by simp only [execOp, (Fr9.eval 86 (by omega)).trans (show _ = Value.tuple #[Value.slice vo7 ds7.length vc7, .int .i64 0] from by simp [upd, e3, e8])]; simp [go_sem]) fun Fr10 => ?_
  refine lyp Fr10 rfl HC2 rfl (by omega) (wanted_none rfl) (v := Value.int .i64 0) (fun wr hwr => by simp only [execOp, (Fr10.eval 86 (by omega)).trans (show _ = Value.tuple #[Value.slice vo7 ds7.length vc7, .int .i64 0] from by simp [upd, e3, e8])]; simp [go_sem]) fun Fr11 => ?_
  refine lyp Fr11 rfl HC2 rfl (by omega) (wanted_none rfl) (v := Value.slice vo7 ds7.length vc7) (fun wr hwr => by simp only [execOp, (Fr11.eval 95 (by omega)).trans (show _ = Value.slice vo7 ds7.length vc7 from by simp [upd, e3, e8])]; first | rfl | simp [go_sem]) fun Fr12 => ?_
  refine lyp Fr12 rfl HC2 rfl (by omega) (wanted_none rfl) (v := Value.int .i64 0) (fun wr hwr => by simp only [execOp, (Fr12.eval 96 (by omega)).trans (show _ = Value.int .i64 0 from by simp [upd, e3, e8])]; first | rfl | simp [go_sem]) fun Fr13 => ?_
  refine ⟨fun _ => HC2, ?_⟩
  refine hK _ _ ?_
  clear F0 Fr1 Fr2 Fr3 Fr4 Fr5 Fr6 Fr7 Fr8 Fr9 Fr10 Fr11 Fr12 Fr13 e3 e8 HCC HC2
  simp only [Act.put, List.setIfInBounds_toArray, List.set_cons_succ, List.set_cons_zero]
  have hq := hTK.eq
  rw [if_neg (by decide)] at hq
  obtain ⟨y1, hy1, hds, hx7⟩ := hq
  unfold WaitTo at hy1
  rw [if_pos (show mayWait { fresh 1 0 2 3 with owed := true } 2 = true from rfl)] at hy1
  obtain ⟨e1, rfl⟩ := hy1
  obtain rfl : ds7 = [] := hds.trans rfl
  obtain rfl : x7 = ⟨1, 0, 2, 3, [], 0, [], false, 0, 1, [(2, ⟨e1, []⟩)], true⟩ := hx7.trans rfl
  have HNB7 : Hid (∀ k, w5.heap.size ≤ k → k < w6.heap.size → ¬ lown lb' cb' mb' (.slice none 0 0) ⟨1, 0, 2, 3, [], 0, [], false, 0, 1, [(2, ⟨e1, []⟩)], true⟩ k) := fun k h1 h2 hk => by
    rcases hTK.st.2 k hk with e | e
    · have := HNB.out k (.inl e)
      omega
    · have : w6.heap.size ≤ k := e
      omega
  have HO17 : Hid (w7.ownsRow w5.heap.size 5 1 (.slice bo1 1 bc1) 1 [B 97]) := show World.ownsRow _ _ _ _ _ _ _ from ownsRow_same HO1.out (fun k e => hTK.st.1.block k (ownsRow_lt HO1.out e).2 (fun hk => by
    have := HNB.out k (.inl hk)
    have := (ownsRow_lt HO1.out e).1
    omega))
  have HL17 : Hid (∀ k, (Value.slice bo1 1 bc1).ownBlock = some k → k < w6.heap.size) := fun k e => (ownsRow_lt HO1.out e).2
  have HS7 : Hid (w.heap.size ≤ w7.heap.size) := show _ ≤ _ from Nat.le_trans HS6.out hTK.st.1.size
  have HS67 : Hid (w6.heap.size ≤ w7.heap.size) := show _ ≤ _ from hTK.st.1.size
  have HD00 : Hid (w7.cell? ⟨g, 0, none⟩ = some (.int .i64 0)) := HD7 _ _ (by omega) HC00.out
  have HD01 : Hid (w7.cell? ⟨g, 1, none⟩ = some (.int .i64 1)) := HD7 _ _ (by omega) HC01.out
  have HD02 : Hid (w7.cell? ⟨g, 2, none⟩ = some (.int .i64 1)) := HD7 _ _ (by omega) HC02.out
  have HD03 : Hid (w7.cell? ⟨g, 3, none⟩ = some (.int .i64 0)) := HD7 _ _ (by omega) HC03.out
  have HD04 : Hid (w7.cell? ⟨g, 4, none⟩ = some (.slice bo1 1 bc1)) := HD7 _ _ (by omega) HC04.out
  clear HC00 HC01 HC02 HC03 HC04 HC50 HC51 HC52 HC53 HC54 d7 d3 HTD HTN HD7 hTK hds hx7 HT6 HS6 HTK HO1 HO2 HSL
  have HTD : Hid _ := HT7.out.more (w1 := w7.drew) ⟨rfl, rfl, rfl, Nat.le_refl _, fun _ _ => rfl⟩ HS7.out HS7.out
  have HTK : Hid (Calls Try.prog 26 #[.pointer (some ⟨lb', 0, none⟩), .agg #[.int .i64 0, .int .i64 1, .int .i64 1, .int .i64 0, .slice bo1 1 bc1]] w7.drew (TKP w.heap.size lb' cb' mb' (.slice none 0 0) ⟨1, 0, 2, 3, [], 0, [], false, 0, 1, [(2, ⟨e1, []⟩)], true⟩ 1 [97] w7.drew)) :=
    take_old (x := ⟨1, 0, 2, 3, [], 0, [], false, 0, 1, [(2, ⟨e1, []⟩)], true⟩) (s := [97]) 1 0 w7.drew HTD.out.b.lm (by simp) (by simp) (by simp) (by simp) (by simp) (by omega) (by simp) (by omega) ((own_by (s := [97]) HO17.out).keep ⟨rfl, rfl, rfl, Nat.le_refl _, fun _ _ => rfl⟩) (by simp)
  have HTN : Hid (∀ {x8 w8}, LM w.heap.size lb' cb' mb' (.slice none 0 0) x8 w8 → LStp lb' cb' mb' (.slice none 0 0) (.slice none 0 0) ⟨1, 0, 2, 3, [], 0, [], false, 0, 1, [(2, ⟨e1, []⟩)], true⟩ x8 w7.drew w8 → Hid (TW w.heap.size lb cb mb eb uv' x6 lb' cb' mb' eb' (.slice none 0 0) x8 w w8) ∧ (∀ j u, j < 10 → w7.cell? ⟨g, j, none⟩ = some u → w8.cell? ⟨g, j, none⟩ = some u)) := by
    intro x8 w8 hm hs
    refine ⟨HTD.out.snd hm hs, fun j u _ hj => ?_⟩
    have h1 := HGN.out
    have h2 := HS67.out
    exact (World.cell?_of_block (w := w7) (a := ⟨g, j, none⟩) (hs.1.block g (show g < w7.heap.size by omega) (HNB7.out g h1.1 h1.2))).trans hj
  go_wp2_with fail
  rename_i K hK
  try rw [show ∀ a : Act, a.put none undef = a from fun _ => rfl]
  refine wp_region_mix (fun wz => wz.cell? ⟨eb', 0, none⟩ = some (.pointer (some ⟨lb', 0, none⟩)) ∧ wz.cell? ⟨g, 0, none⟩ = some (.int .i64 0) ∧ wz.cell? ⟨g, 1, none⟩ = some (.int .i64 1) ∧ wz.cell? ⟨g, 2, none⟩ = some (.int .i64 1) ∧ wz.cell? ⟨g, 3, none⟩ = some (.int .i64 0) ∧ wz.cell? ⟨g, 4, none⟩ = some (Value.slice bo1 1 bc1)) (fun i => i == 7 || i == 99) 99 (by kernel_rfl) rfl (by kernel_rfl) (by kernel_rfl) (by kernel_rfl) ?_
  refine withFrP (N := 140) rfl ?_
  intro f0 F0 hff
  have e3 : f0 3 = Value.pointer (some ⟨eb', 0, none⟩) := hff 3
  have e8 : f0 8 = Value.slice (some ⟨g, 0, none⟩) 2 gc := hff 8
  clear hff
  have HCC : (fun wz => wz.cell? ⟨eb', 0, none⟩ = some (.pointer (some ⟨lb', 0, none⟩)) ∧ wz.cell? ⟨g, 0, none⟩ = some (.int .i64 0) ∧ wz.cell? ⟨g, 1, none⟩ = some (.int .i64 1) ∧ wz.cell? ⟨g, 2, none⟩ = some (.int .i64 1) ∧ wz.cell? ⟨g, 3, none⟩ = some (.int .i64 0) ∧ wz.cell? ⟨g, 4, none⟩ = some (Value.slice bo1 1 bc1)) (({ w7 with drawn := w7.drawn + 1 } : World)) := ⟨HTD.out.b.cell, HD00.out, HD01.out, HD02.out, HD03.out, HD04.out⟩
  refine lyp F0 rfl HCC rfl (by omega) (wanted_none rfl) (v := Value.pointer (some ⟨eb', 0, none⟩)) (fun wr hwr => by simp only [execOp, (F0.eval 3 (by omega)).trans (show _ = Value.pointer (some ⟨eb', 0, none⟩) from by simp [upd, e3, e8])]; first | rfl | simp [go_sem]) fun Fr1 => ?_
  refine lyp Fr1 rfl HCC rfl (by omega) (wanted_none rfl) (v := Value.pointer (some ⟨eb', 0, none⟩)) (fun wr hwr => by simp only [execOp, (Fr1.eval 98 (by omega)).trans (show _ = Value.pointer (some ⟨eb', 0, none⟩) from by simp [upd, e3, e8])]; simp [go_sem]) fun Fr2 => ?_
  refine lyp Fr2 rfl HCC rfl (by omega) (wanted_none rfl) (v := Value.pointer (some ⟨eb', 0, none⟩)) (fun wr hwr => by simp only [execOp, (Fr2.eval 99 (by omega)).trans (show _ = Value.pointer (some ⟨eb', 0, none⟩) from by simp [upd, e3, e8])]; simp [go_sem]) fun Fr3 => ?_
  refine lyp Fr3 rfl HCC rfl (by omega) (wanted_none rfl) (v := Value.pointer (some ⟨lb', 0, none⟩)) (fun wr hwr => by simp only [execOp, (Fr3.eval 100 (by omega)).trans (show _ = Value.pointer (some ⟨eb', 0, none⟩) from by simp [upd, e3, e8])]; simp [go_sem, hwr.1]) fun Fr4 => ?_
  refine lyp Fr4 rfl HCC rfl (by omega) (wanted_none rfl) (v := Value.slice (some ⟨g, 0, none⟩) 2 gc) (fun wr hwr => by simp only [execOp, (Fr4.eval 8 (by omega)).trans (show _ = Value.slice (some ⟨g, 0, none⟩) 2 gc from by simp [upd, e3, e8])]; first | rfl | simp [go_sem]) fun Fr5 => ?_
  refine lyp Fr5 rfl HCC rfl (by omega) (wanted_none rfl) (v := Value.pointer (some ⟨g, 0, none⟩)) (fun wr hwr => by simp only [execOp, (Fr5.eval 102 (by omega)).trans (show _ = Value.slice (some ⟨g, 0, none⟩) 2 gc from by simp [upd, e3, e8])]; simp [go_sem, Act.eval]) fun Fr6 => ?_
  refine lyp Fr6 rfl HCC rfl (by omega) (wanted_none rfl) (v := Value.agg #[.int .i64 0, .int .i64 1, .int .i64 1, .int .i64 0, Value.slice bo1 1 bc1]) (fun wr hwr => by simp only [execOp, (Fr6.eval 103 (by omega)).trans (show _ = Value.pointer (some ⟨g, 0, none⟩) from by simp [upd, e3, e8])]; simp [go_sem, hwr.2.1, hwr.2.2.1, hwr.2.2.2.1, hwr.2.2.2.2.1, hwr.2.2.2.2.2]) fun Fr7 => ?_
  refine lcp Fr7 rfl HCC rfl (by omega) (wanted_none rfl) (g := 26) (args := #[Value.pointer (some ⟨lb', 0, none⟩), Value.agg #[.int .i64 0, .int .i64 1, .int .i64 1, .int .i64 0, Value.slice bo1 1 bc1]]) (by simp only [execOp, resolve, invoke, List.map_toArray, List.map_cons, List.map_nil, (Fr7.eval 101 (by omega)).trans (show _ = Value.pointer (some ⟨lb', 0, none⟩) from by simp [upd, e3, e8]), (Fr7.eval 104 (by omega)).trans (show _ = Value.agg #[.int .i64 0, .int .i64 1, .int .i64 1, .int .i64 0, Value.slice bo1 1 bc1] from by simp [upd, e3, e8])]; simp [go_sem, Act.eval]) HTK.out ?_
  rintro e w8 ⟨v8, ds8, x8, rfl, hTK⟩
  obtain ⟨HT8, HD8⟩ := HTN.out hTK.lm hTK.st
  obtain ⟨vo8, vc8, hv8, _⟩ := own_slice hTK.r
  subst hv8
  refine ⟨_, rfl, fun Fr8 => ?_⟩
  have HC2 : (fun wz => wz.cell? ⟨eb', 0, none⟩ = some (.pointer (some ⟨lb', 0, none⟩)) ∧ wz.cell? ⟨g, 0, none⟩ = some (.int .i64 0) ∧ wz.cell? ⟨g, 1, none⟩ = some (.int .i64 1) ∧ wz.cell? ⟨g, 2, none⟩ = some (.int .i64 1) ∧ wz.cell? ⟨g, 3, none⟩ = some (.int .i64 0) ∧ wz.cell? ⟨g, 4, none⟩ = some (Value.slice bo1 1 bc1)) w8 := ⟨HT8.out.b.cell, HD8 _ _ (by omega) HD00.out, HD8 _ _ (by omega) HD01.out, HD8 _ _ (by omega) HD02.out, HD8 _ _ (by omega) HD03.out, HD8 _ _ (by omega) HD04.out⟩
  refine lyp Fr8 rfl HC2 rfl (by omega) (wanted_none rfl) (v := Value.tuple #[Value.slice vo8 ds8.length vc8, .int .i64 0]) (fun wr hwr => by simp only [execOp, (Fr8.eval 105 (by omega)).trans (show _ = Value.tuple #[Value.slice vo8 ds8.length vc8, .int .i64 0] from by simp [upd, e3, e8])]; first | rfl | simp [go_sem]) fun Fr9 => ?_
  refine lyp Fr9 rfl HC2 rfl (by omega) (wanted_none rfl) (v := Value.slice vo8 ds8.length vc8) (fun wr hwr => by simp only [execOp, (Fr9.eval 97 (by omega)).trans (show _ = Value.tuple #[Value.slice vo8 ds8.length vc8, .int .i64 0] from by simp [upd, e3, e8])]; simp [go_sem]) fun Fr10 => ?_
  refine lyp Fr10 rfl HC2 rfl (by omega) (wanted_none rfl) (v := Value.int .i64 0) (fun wr hwr => by simp only [execOp, (Fr10.eval 97 (by omega)).trans (show _ = Value.tuple #[Value.slice vo8 ds8.length vc8, .int .i64 0] from by simp [upd, e3, e8])]; simp [go_sem]) fun Fr11 => ?_
  refine lyp Fr11 rfl HC2 rfl (by omega) (wanted_none rfl) (v := Value.slice vo8 ds8.length vc8) (fun wr hwr => by simp only [execOp, (Fr11.eval 106 (by omega)).trans (show _ = Value.slice vo8 ds8.length vc8 from by simp [upd, e3, e8])]; first | rfl | simp [go_sem]) fun Fr12 => ?_
  refine lyp Fr12 rfl HC2 rfl (by omega) (wanted_none rfl) (v := Value.int .i64 0) (fun wr hwr => by simp only [execOp, (Fr12.eval 107 (by omega)).trans (show _ = Value.int .i64 0 from by simp [upd, e3, e8])]; first | rfl | simp [go_sem]) fun Fr13 => ?_
  refine ⟨fun _ => HC2, ?_⟩
  refine hK _ _ ?_
  clear F0 Fr1 Fr2 Fr3 Fr4 Fr5 Fr6 Fr7 Fr8 Fr9 Fr10 Fr11 Fr12 Fr13 e3 e8 HCC HC2
  simp only [Act.put, List.setIfInBounds_toArray, List.set_cons_succ, List.set_cons_zero]
  have hq := hTK.eq
  rw [if_neg (by decide)] at hq
  obtain ⟨y1, hy1, hds, hx8⟩ := hq
  unfold WaitTo at hy1
  replace hy1 : ∃ v', y1 = LV.wait { (⟨1, 0, 2, 3, [], 0, [], false, 0, 1, [(2, ⟨e1, []⟩)], true⟩ : LV) with owed := true } 1 ⟨v', [97]⟩ := by
    split at hy1
    · exact hy1
    · rename_i h
      exact absurd rfl h
  obtain ⟨e2, rfl⟩ := hy1
  obtain rfl : ds8 = [⟨e2, [97]⟩, ⟨e1, []⟩] := hds.trans rfl
  obtain rfl : x8 = ⟨1, 0, 2, 3, [], 0, [], false, 0, 3, [], true⟩ := hx8.trans rfl
  have ho8 : w8.ownsRow w.heap.size 5 1 e2 1 [B 97] := hTK.dt ⟨e2, [97]⟩ (by simp)
  have hby8 : By w8 e2 [97] := own_by (s := [97]) ho8
  obtain ⟨ho, hc, hv, _, _, hrd⟩ := own_read hTK.r
  obtain ⟨h8, hho, _, _, hcl⟩ := hrd (by simp)
  cases hv
  subst hho
  obtain ⟨eo, ec, he2, _⟩ := own_slice ho8
  have d0 : w8.cell? ⟨h8, 0, none⟩ = some e2 := hcl 0 _ rfl
  subst he2
  have HBY : Hid (By w8 (.slice eo 1 ec) [97]) := hby8
  have HS8 : Hid (w.heap.size ≤ w8.heap.size) := show _ ≤ _ from Nat.le_trans HS7.out hTK.st.1.size
  clear hTK hds hx8 hcl ho8 hby8 HTD HTK HTN HD8 HT7 HD00 HD01 HD02 HD03 HD04
  have v1 := one_conv w8 w8.heap.size rfl 97
  go_wp2_with fail
  have ht9 := HT8.out.more (w1 := w8.alloc (.cells #[.int .u8 97] 5 (1, 2))) ((Below.refl _ _).alloc (Nat.le_refl _) _) HS8.out HS8.out
  refine Calls.mono (same_any _ (HBY.out.keep ((Below.refl _ _).alloc (Nat.le_refl _) _)) (one_by 97 (Below.refl _ _))) ?_
  rintro e w9 ⟨rfl, rfl⟩
  rw [show (([97] : List UInt8) == [97]) = true from rfl]
  have HN : Hid _ := next_any _ ht9.b.lm
  have HB9 : Hid (Below w.heap.size w (w8.alloc (.cells #[.int .u8 97] 5 (1, 2)))) := ht9.bl
  have c2 : (w8.alloc (.cells #[.int .u8 97] 5 (1, 2))).cell? ⟨eb', 0, none⟩ = some (.pointer (some ⟨lb', 0, none⟩)) := ht9.b.cell
  clear ht9 v1 d0 HT8
  go_wp2_with fail
  refine Calls.mono HN.out ?_
  rintro e w10 ⟨rfl, rfl⟩
  clear HN c2
  go_wp2_with fail
  go_ret
  exact ⟨rfl, HB9.out⟩
end Go.Proofs.Ytcjgicfmfjomgaa
