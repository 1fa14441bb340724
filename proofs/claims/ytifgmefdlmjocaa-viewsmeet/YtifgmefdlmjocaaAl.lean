import Derived.Test.YtifgmefdlmjocaaLw
namespace Go.Proofs.Ytifgmefdlmjocaa
open Go.RowKit Go.PlainAid Go.MapKept
set_option linter.unusedVariables false
set_option linter.unusedSimpArgs false
theorem HMap.ne_c {w : World} {mb k o : Nat} {L : List Ent} {v : Value} (h : HMap w mb L) (hc : w.cell? ⟨k, o, none⟩ = some v) : k ≠ mb := by
  obtain ⟨es, c, h, _⟩ := h
  intro e
  subst e
  simp [World.cell?, h] at hc
theorem own_fromV {w : World} {base n : Nat} {v : Value} {es : List Ent} (h : w.ownsRow base 46 7 v n (flatV es)) :
    ∃ ao cap, v = .slice ao n cap ∧ n ≤ cap ∧ cap ≤ maxLen ∧ FromV w ao es ∧ (0 < es.length → ∃ g, ao = some ⟨g, 0, none⟩ ∧ base ≤ g ∧ g < w.heap.size) := by
  have hl := h.1
  rw [flatV_length] at hl
  obtain ⟨ao, cap, hv, h1, h2, h3⟩ := own_read h
  refine ⟨ao, cap, hv, h1, h2, ?_, fun h0 => ?_⟩
  · intro h0
    obtain ⟨g, hg, hb, hlt, hc⟩ := h3 (by omega)
    refine ⟨g, 0, hg, fun i e he => ?_⟩
    have key : ∀ j u, j < 7 → e.cs[j]? = some u → w.cell? ⟨g, 0 + i * 7 + j, none⟩ = some u := fun j u hj hu => by
      rw [Nat.zero_add]
      exact hc _ _ ((flatV_get es i j e he hj).trans hu)
    exact ⟨key 0 _ (by decide) rfl, key 1 _ (by decide) rfl, key 2 _ (by decide) rfl, key 3 _ (by decide) rfl, key 4 _ (by decide) rfl, key 5 _ (by decide) rfl, key 6 _ (by decide) rfl⟩
  · obtain ⟨g, hg, hb, hlt, _⟩ := h3 (by omega)
    exact ⟨g, hg, hb, hlt⟩
theorem told_one {ds : List Ent} (h : Told 0 [(⟨0, [107], 10, 0, 1, 5, 4, 1⟩ : Ent)] ds) : ds = [(⟨0, [107], 10, 0, 1, 5, 4, 1⟩ : Ent)] := List.perm_singleton.1 h.1
theorem al_code : takeCode 1 3 0 [(⟨1, [107], 10, 0, 1, 2, 0, 0⟩ : Ent)] [(⟨0, [107], 10, 0, 1, 5, 4, 1⟩ : Ent)] = 0 := by kernel_rfl
theorem al_next : takeNext 1 3 0 [(⟨1, [107], 10, 0, 1, 2, 0, 0⟩ : Ent)] [(⟨0, [107], 10, 0, 1, 5, 4, 1⟩ : Ent)] = ([(⟨1, [107], 10, 0, 1, 2, 0, 0⟩ : Ent), (⟨0, [107], 10, 0, 1, 5, 4, 1⟩ : Ent)], 1) := by kernel_rfl
theorem al_t0 : tellCode 0 [] (⟨0, [107], 10, 0, 1, 5, 4, 1⟩ : Ent) = 0 ∧ tellNext 0 [] (⟨0, [107], 10, 0, 1, 5, 4, 1⟩ : Ent) = [(⟨0, [107], 10, 0, 1, 5, 4, 1⟩ : Ent)] := ⟨by kernel_rfl, by kernel_rfl⟩
theorem al_t1 : tellCode 1 [] (⟨1, [107], 10, 0, 1, 2, 0, 0⟩ : Ent) = 0 ∧ tellNext 1 [] (⟨1, [107], 10, 0, 1, 2, 0, 0⟩ : Ent) = [(⟨1, [107], 10, 0, 1, 2, 0, 0⟩ : Ent)] := ⟨by kernel_rfl, by kernel_rfl⟩
theorem al_ab : aboutS [107] [(⟨1, [107], 10, 0, 1, 2, 0, 0⟩ : Ent), (⟨0, [107], 10, 0, 1, 5, 4, 1⟩ : Ent)] 3 = 7 ∧ aboutK [107] [(⟨1, [107], 10, 0, 1, 2, 0, 0⟩ : Ent), (⟨0, [107], 10, 0, 1, 5, 4, 1⟩ : Ent)] 3 = true := ⟨by kernel_rfl, by kernel_rfl⟩
set_option maxRecDepth 100000 in
set_option maxHeartbeats 6400000 in
theorem alive_any (w : World) : Calls Try.prog 9 #[] w fun e w' => e = .returned (.bool true) ∧ Below w.heap.size w w' := by
  have HM0 : Hid _ := made_yes 0 3 w (by kernel_rfl)
  have HM1 : Hid (∀ w, _) := fun w => made_yes 1 3 w (by kernel_rfl)
  go_enter Try.func9, Try.ntmps9
  go_wp2_with fail
  refine Calls.mono HM0.out ?_
  rintro e w1 ⟨pa, ha, ma, rfl, va1, pa1, la1, lm1, hb1⟩
  have HVA1 : Hid _ := va1
  have HPA1 : Hid _ := pa1
  have HB1 : Hid _ := hb1
  have HLA : Hid (w.heap.size ≤ ma) := lm1
  clear va1 pa1 la1 lm1 hb1 HM0
  go_wp2_with fail
  refine Calls.mono (HM1.out _) ?_
  rintro e w2 ⟨pb, hb, mb, rfl, vb2, pb2, lb2, lmb2, hb2⟩
  have va2 := HVA1.out.more hb2
  have pa2 := (hb2.cell (p := ⟨pa, 0, none⟩) (World.block_lt_of_cell? w1 _ HPA1.out)).trans HPA1.out
  have HB2 : Hid (Below w.heap.size w w2) := HB1.out.trans (hb2.mono HB1.out.size)
  have hab : ma < mb := Nat.lt_of_lt_of_le HVA1.out.map.lt lmb2
  have hah : ma < hb := Nat.lt_of_lt_of_le HVA1.out.map.lt lb2
  have hha : ha < mb := Nat.lt_of_lt_of_le HVA1.out.blk.lt lmb2
  have HLB : Hid (w.heap.size ≤ mb) := Nat.le_trans HB1.out.size lmb2
  have hta := tell_any [107] 10 0 5 4 1 w2 va2 (by decide) ⟨by decide, by decide, by decide, by decide⟩ (fun e he => by cases he)
  rw [al_t0.1, al_t0.2] at hta
  have HTA : Hid _ := hta
  have HVB2 : Hid _ := vb2
  have HVA2 : Hid _ := va2
  have HPA2 : Hid _ := pa2
  have HPB2 : Hid _ := pb2
  clear va2 vb2 hb2 lb2 lmb2 hta HM1 HVA1 HPA1 HB1
  go_wp2_with fail
  refine Calls.mono HTA.out ?_
  rintro e w3 ⟨rfl, va3, hc3⟩
  have npa3 : ¬ pa = ma := HVA2.out.map.ne_c HPA2.out
  have npb3 : ¬ pb = ma := HVA2.out.map.ne_c HPB2.out
  have pa3 := (World.cell?_of_block (w := w2) (hc3.block pa (World.block_lt_of_cell? w2 _ HPA2.out) npa3)).trans HPA2.out
  have pb3 := (World.cell?_of_block (w := w2) (hc3.block pb (World.block_lt_of_cell? w2 _ HPB2.out) npb3)).trans HPB2.out
  have vb3 := HVB2.out.keep hc3 (by omega) (by omega)
  have HB3 : Hid (Below w.heap.size w w3) := HB2.out.trans (hc3.below HB2.out.size (fun k e => by rw [e]; exact HLA.out))
  have htb := tell_any [107] 10 0 2 0 0 w3 vb3 (by decide) ⟨by decide, by decide, by decide, by decide⟩ (fun e he => by cases he)
  rw [al_t1.1, al_t1.2] at htb
  have HTB : Hid _ := htb
  have HVA3 : Hid _ := va3
  have HVB3 : Hid _ := vb3
  have HPA3 : Hid _ := pa3
  have HPB3 : Hid _ := pb3
  clear va3 vb3 hc3 htb HTA HVB2 HVA2 HPA2 HPB2 HB2 pa2 pb2 npa3 npb3
  go_wp2_with fail
  refine Calls.mono HTB.out ?_
  rintro e X ⟨rfl, HVB, hc4⟩
  have npa : ¬ pa = mb := HVB3.out.map.ne_c HPA3.out
  have npb : ¬ pb = mb := HVB3.out.map.ne_c HPB3.out
  have PA := (World.cell?_of_block (w := w3) (hc4.block pa (World.block_lt_of_cell? w3 _ HPA3.out) npa)).trans HPA3.out
  have PB := (World.cell?_of_block (w := w3) (hc4.block pb (World.block_lt_of_cell? w3 _ HPB3.out) npb)).trans HPB3.out
  have HVA := HVA3.out.keep hc4 (by omega) (by omega)
  have HB4 : Hid (Below w.heap.size w X) := HB3.out.trans (hc4.below HB3.out.size (fun k e => by rw [e]; exact HLB.out))
  clear hc4 HTB HVB3 HVA3 HPA3 HPB3 HB3 pa3 pb3
  go_wp2_with fail
  rename_i K hK
  try rw [show ∀ a : Act, a.put none undef = a from fun _ => rfl]
  refine wp_region_mix (fun wq => wq.cell? ⟨pa, 0, none⟩ = some (.pointer (some ⟨ha, 0, none⟩)) ∧ wq.cell? ⟨pb, 0, none⟩ = some (.pointer (some ⟨hb, 0, none⟩))) (fun i => i == 8 || i == 9 || i == 99) 99 (by kernel_rfl) rfl (by kernel_rfl) (by kernel_rfl) (by kernel_rfl) ?_
  refine withFrP (N := 87) rfl ?_
  intro f0 F0 hff
  have e1 : f0 1 = Value.pointer (some ⟨pa, 0, none⟩) := hff 1
  have e3 : f0 3 = Value.pointer (some ⟨pb, 0, none⟩) := hff 3
  clear hff
  have HCC : (fun wq => wq.cell? ⟨pa, 0, none⟩ = some (.pointer (some ⟨ha, 0, none⟩)) ∧ wq.cell? ⟨pb, 0, none⟩ = some (.pointer (some ⟨hb, 0, none⟩))) (({ X with drawn := X.drawn + 1 } : World)) := ⟨PA, PB⟩
  refine lyp F0 rfl HCC rfl (by omega) (wanted_none rfl) (v := Value.pointer (some ⟨pb, 0, none⟩)) (fun wr hwr => by simp only [execOp, (F0.eval 3 (by omega)).trans (show _ = Value.pointer (some ⟨pb, 0, none⟩) from by simp [upd, e1, e3])]; first | rfl | simp [go_sem]) fun F1 => ?_
  refine lyp F1 rfl HCC rfl (by omega) (wanted_none rfl) (v := Value.pointer (some ⟨pb, 0, none⟩)) (fun wr hwr => by simp only [execOp, (F1.eval 46 (by omega)).trans (show _ = Value.pointer (some ⟨pb, 0, none⟩) from by simp [upd, e1, e3])]; simp [go_sem]) fun F2 => ?_
  refine lyp F2 rfl HCC rfl (by omega) (wanted_none rfl) (v := Value.pointer (some ⟨pb, 0, none⟩)) (fun wr hwr => by simp only [execOp, (F2.eval 47 (by omega)).trans (show _ = Value.pointer (some ⟨pb, 0, none⟩) from by simp [upd, e1, e3])]; simp [go_sem]) fun F3 => ?_
  refine lyp F3 rfl HCC rfl (by omega) (wanted_none rfl) (v := Value.pointer (some ⟨hb, 0, none⟩)) (fun wr hwr => by simp only [execOp, (F3.eval 48 (by omega)).trans (show _ = Value.pointer (some ⟨pb, 0, none⟩) from by simp [upd, e1, e3])]; simp [go_sem, hwr.2]) fun F4 => ?_
  refine lyp F4 rfl HCC rfl (by omega) (wanted_none rfl) (v := Value.pointer (some ⟨pa, 0, none⟩)) (fun wr hwr => by simp only [execOp, (F4.eval 1 (by omega)).trans (show _ = Value.pointer (some ⟨pa, 0, none⟩) from by simp [upd, e1, e3])]; first | rfl | simp [go_sem]) fun F5 => ?_
  refine lyp F5 rfl HCC rfl (by omega) (wanted_none rfl) (v := Value.pointer (some ⟨pa, 0, none⟩)) (fun wr hwr => by simp only [execOp, (F5.eval 50 (by omega)).trans (show _ = Value.pointer (some ⟨pa, 0, none⟩) from by simp [upd, e1, e3])]; simp [go_sem]) fun F6 => ?_
  refine lyp F6 rfl HCC rfl (by omega) (wanted_none rfl) (v := Value.pointer (some ⟨pa, 0, none⟩)) (fun wr hwr => by simp only [execOp, (F6.eval 51 (by omega)).trans (show _ = Value.pointer (some ⟨pa, 0, none⟩) from by simp [upd, e1, e3])]; simp [go_sem]) fun F7 => ?_
  refine lyp F7 rfl HCC rfl (by omega) (wanted_none rfl) (v := Value.pointer (some ⟨ha, 0, none⟩)) (fun wr hwr => by simp only [execOp, (F7.eval 52 (by omega)).trans (show _ = Value.pointer (some ⟨pa, 0, none⟩) from by simp [upd, e1, e3])]; simp [go_sem, hwr.1]) fun F8 => ?_
  refine lcp F8 rfl HCC rfl (by omega) (wanted_none rfl) (g := 14) (args := #[Value.pointer (some ⟨ha, 0, none⟩)]) (by simp only [execOp, resolve, invoke, List.map_toArray, List.map_cons, List.map_nil, (F8.eval 53 (by omega)).trans (show _ = Value.pointer (some ⟨ha, 0, none⟩) from by simp [upd, e1, e3])]; simp [go_sem, Act.eval]) (digest_any (({ X with drawn := X.drawn + 1 } : World)) ⟨show Blk _ ha _ 76 from HVA.blk, HVA.map.same rfl⟩ (by decide)) ?_
  rintro e w5 ⟨v5, ds, rfl, htold, ho5, hb5⟩
  obtain rfl : ds = [⟨0, [107], 10, 0, 1, 5, 4, 1⟩] := told_one htold
  obtain ⟨ao5, cap5, hv5, hnc5, hcm5, hf5, hat5⟩ := own_fromV ho5
  obtain ⟨g5, hao, hg5, hgl5⟩ := hat5 (by decide)
  subst hao
  subst hv5
  refine ⟨_, rfl, fun F9 => ?_⟩
  have HC5 : (fun wq => wq.cell? ⟨pa, 0, none⟩ = some (.pointer (some ⟨ha, 0, none⟩)) ∧ wq.cell? ⟨pb, 0, none⟩ = some (.pointer (some ⟨hb, 0, none⟩))) w5 := ⟨(hb5.cell (p := ⟨pa, 0, none⟩) (World.block_lt_of_cell? X _ PA)).trans PA, (hb5.cell (p := ⟨pb, 0, none⟩) (World.block_lt_of_cell? X _ PB)).trans PB⟩
  have HVB5 := HVB.more ((Below.drew (Below.refl X.heap.size X)).trans hb5)
  have htk := take_any 0 (some ⟨g5, 0, none⟩) 1 cap5 [⟨0, [107], 10, 0, 1, 5, 4, 1⟩] w5 HVB5 (by decide) rfl (by unfold maxLen; decide) hf5 (fun e he => by simp at he; subst he; exact ⟨by decide, by decide, by decide, by decide⟩) (fun b off e => by cases e; exact fun e => by have h := HVB.map.lt; rw [← e] at h; exact Nat.not_lt.2 hg5 h)
  rw [al_code, al_next] at htk
  refine lcp F9 rfl HC5 rfl (by omega) (wanted_none rfl) (g := 19) (args := #[Value.pointer (some ⟨hb, 0, none⟩), .int .i64 0, Value.slice (some ⟨g5, 0, none⟩) 1 cap5]) (by simp only [execOp, resolve, invoke, List.map_toArray, List.map_cons, List.map_nil, (F9.eval 49 (by omega)).trans (show _ = Value.pointer (some ⟨hb, 0, none⟩) from by simp [upd, e1, e3]), (F9.eval 54 (by omega)).trans (show _ = Value.slice (some ⟨g5, 0, none⟩) 1 cap5 from by simp [upd, e1, e3])]; simp [go_sem, Act.eval]) htk ?_
  rintro e w6 ⟨rfl, hV6, hc6⟩
  refine ⟨_, rfl, fun F10 => ?_⟩
  have HC6 : (fun wq => wq.cell? ⟨pa, 0, none⟩ = some (.pointer (some ⟨ha, 0, none⟩)) ∧ wq.cell? ⟨pb, 0, none⟩ = some (.pointer (some ⟨hb, 0, none⟩))) w6 := ⟨(World.cell?_of_block (w := w5) (hc6.block pa (World.block_lt_of_cell? w5 _ HC5.1) npa)).trans HC5.1, (World.cell?_of_block (w := w5) (hc6.block pb (World.block_lt_of_cell? w5 _ HC5.2) npb)).trans HC5.2⟩
  refine lyp F10 rfl HC6 rfl (by omega) (wanted_none rfl) (v := Value.tuple #[.int .i64 1, .int .i64 0]) (fun wr hwr => by simp only [execOp, (F10.eval 55 (by omega)).trans (show _ = Value.tuple #[.int .i64 1, .int .i64 0] from by simp [upd, e1, e3])]; first | rfl | simp [go_sem]) fun F11 => ?_
  refine lyp F11 rfl HC6 rfl (by omega) (wanted_none rfl) (v := Value.int .i64 1) (fun wr hwr => by simp only [execOp, (F11.eval 45 (by omega)).trans (show _ = Value.tuple #[.int .i64 1, .int .i64 0] from by simp [upd, e1, e3])]; simp [go_sem]) fun F12 => ?_
  refine lyp F12 rfl HC6 rfl (by omega) (wanted_none rfl) (v := Value.int .i64 0) (fun wr hwr => by simp only [execOp, (F12.eval 45 (by omega)).trans (show _ = Value.tuple #[.int .i64 1, .int .i64 0] from by simp [upd, e1, e3])]; simp [go_sem]) fun F13 => ?_
  refine lyp F13 rfl HC6 rfl (by omega) (wanted_none rfl) (v := Value.int .i64 1) (fun wr hwr => by simp only [execOp, (F13.eval 56 (by omega)).trans (show _ = Value.int .i64 1 from by simp [upd, e1, e3])]; first | rfl | simp [go_sem]) fun F14 => ?_
  refine lyp F14 rfl HC6 rfl (by omega) (wanted_none rfl) (v := Value.int .i64 0) (fun wr hwr => by simp only [execOp, (F14.eval 57 (by omega)).trans (show _ = Value.int .i64 0 from by simp [upd, e1, e3])]; first | rfl | simp [go_sem]) fun F15 => ?_
  refine ⟨fun _ => HC6, ?_⟩
  refine hK _ _ ?_
  clear F0 F1 F2 F3 F4 F5 F6 F7 F8 F9 F10 F11 F12 F13 F14 F15 e1 e3 HCC HC5
  simp only [Act.put, List.setIfInBounds_toArray, List.set_cons_succ, List.set_cons_zero]
  have HB6 : Hid (Below w.heap.size w w6) := (HB4.out.drew.trans (hb5.mono HB4.out.size)).trans (hc6.below (Nat.le_trans HB4.out.size hb5.size) (fun k e => by rw [e]; exact HLB.out))
  have hab6 := about_any (N := 3) [107] w6 hV6 (by decide) (fun e he => by simp at he; rcases he with rfl | rfl <;> decide)
  rw [al_ab.1, al_ab.2] at hab6
  have HAB : Hid _ := hab6
  have pb6 := HC6.2
  clear hab6 hV6 hc6 HVB5 hf5 hb5 ho5 HVA HVB PA PB htk HC6
  go_wp2_with fail
  refine Calls.mono HAB.out ?_
  rintro e w7 ⟨rfl, hb7⟩
  have HB7 : Hid (Below w.heap.size w w7) := HB6.out.trans (hb7.mono HB6.out.size)
  clear hb7 HAB
  go_wp2_with fail
  go_ret
  exact ⟨rfl, HB7.out⟩
end Go.Proofs.Ytifgmefdlmjocaa
