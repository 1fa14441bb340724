import Derived.Test.YtbjlaloofpdbfaaP2
import Derived.Deep.Cut
namespace Go.Proofs.Ytbjlaloofpdbfaa
open Go.RowKit Go.PlainAid
set_option linter.unusedVariables false
set_option linter.unusedSimpArgs false
set_option maxRecDepth 100000 in
set_option maxHeartbeats 1600000 in
theorem asked_first {B pb hb mh mw rb : Nat} {kl wl ox oy : Value} {me rep per mk : Int} {KN : List (List UInt8 × Int)} {KL : List (List UInt8)} {WL : List ((Int × Int) × OpA)} (w : World) (hB : Blk w pb (pairV hb rb mk (.slice none 0 0) (.slice none 0 0) (.slice none 0 0) (.slice none 0 0) ox oy (.slice none 0 0) (.slice none 0 0)) 67) (hT : Tb hb mh mw me rep per KN WL w) (hR : RT B rb kl wl me rep per KL WL w) (hLK : KN.length ≤ 100000) (hLK2 : KL.length ≤ 100000) (hLW : WL.length ≤ 100000) (hnd : (WL.map (·.1)).Nodup) (hne : (WL.map (·.1)) ≠ []) (hmk : 0 ≤ mk ∧ mk ≤ 1000 ∧ (mk + 1) % 3 ≠ 0) :
    Calls Try.prog 60 #[.pointer (some ⟨pb, 0, none⟩)] w fun e w' => e = .returned (.bool true) ∧ (∃ x y, Blk w' pb (pairV hb rb (mk + 1) (.slice none 0 0) (.slice none 0 0) (.slice none 0 0) (.slice none 0 0) ox oy x y) 67) ∧ Chg (fun b => b = pb) w w' := by
  have p0 : w.cell? ⟨pb, 0, none⟩ = some (.pointer (some ⟨hb, 0, none⟩)) := hB.cell 0
  have HBP : Hid _ := hB
  have HRR : Hid _ := hR
  have HA : Hid _ := asked_any w hT hLW
  go_enter Try.func60, Try.ntmps60
  go_wp2_with fail
  refine Calls.mono HA.out ?_
  rintro e w1 ⟨v, ys, rfl, h1, h2, h3, h4⟩
  have hp : ys.Perm (WL.map (·.1)) := h1
  have hst : ys.Pairwise (fun a b => ltC a b = true) := strictC h2 (by have := hp.nodup_iff.2 hnd; exact this)
  have hyl : ys.length ≤ 100000 := by rw [hp.length_eq]; simp; omega
  have HR1 : Hid _ := rasked_any w1 (hR.more h4) hLW hp hst
  have p1 : w1.cell? ⟨pb, 1, none⟩ = some (.pointer (some ⟨rb, 0, none⟩)) := (Blk.below hB h4 (Blk.lt hB)).cell 1
  have hn0 : 0 < ys.length := by
    rw [hp.length_eq]
    exact List.length_pos_iff.2 hne
  have H3 : Hid (World.ownsRow w1 w.heap.size 37 2 v ys.length (flatC ys)) := h3
  have H4 : Hid _ := h4
  have HYL : Hid (ys.length ≤ 100000) := hyl
  obtain ⟨ao, cap, hv, _⟩ := own_slice h3
  subst hv
  rcases h3.2 with ⟨_, hz⟩ | ⟨g, cap', cur, hv, _⟩
  · omega
  cases hv
  clear HA h1 h2 h3 h4 hp hst hyl hB hT hR p0
  go_wp2_with fail
  refine Calls.mono HR1.out ?_
  rintro e w2 ⟨vr, rfl, hr2, hb2⟩
  have hrow2 : World.ownsRow w2 w.heap.size 37 2 (.slice (some ⟨g, 0, none⟩) ys.length cap) ys.length (flatC ys) := ownsRow_same H3.out (fun g e => hb2.block g (ownsRow_lt H3.out e).2)
  have hsm := sameC_any hrow2 hr2 HYL.out
  rw [show decide (ys = ys) = true from decide_eq_true rfl] at hsm
  have HSM : Hid _ := hsm
  have HB2 : Hid (Below w.heap.size w w2) := H4.out.trans (hb2.mono H4.out.size)
  have HRW : Hid (World.ownsRow w2 w.heap.size 37 2 (.slice (some ⟨g, 0, none⟩) ys.length cap) ys.length (flatC ys)) := hrow2
  obtain ⟨aor, capr, hvr, _⟩ := own_slice hr2
  subst hvr
  clear hr2 hb2 hrow2 HR1 p1 hsm
  go_wp2_with fail
  refine Calls.mono HSM.out ?_
  rintro e w3 ⟨rfl, hb3⟩
  have hB3 : Blk w3 pb (pairV hb rb mk (.slice none 0 0) (.slice none 0 0) (.slice none 0 0) (.slice none 0 0) ox oy (.slice none 0 0) (.slice none 0 0)) 67 := Blk.below (Blk.below HBP.out HB2.out (Blk.lt HBP.out)) hb3 (Blk.lt (Blk.below HBP.out HB2.out (Blk.lt HBP.out)))
  have c5 : w3.cell? ⟨pb, 5, none⟩ = some (.int .i64 mk) := hB3.cell 5
  have f5 := hB3.frozen 5
  obtain ⟨X, hX⟩ : ∃ X, X = w3.setCell ⟨pb, 5, none⟩ (.int .i64 (mk + 1)) := ⟨_, rfl⟩
  have hBX : Blk X pb (pairV hb rb (mk + 1) (.slice none 0 0) (.slice none 0 0) (.slice none 0 0) (.slice none 0 0) ox oy (.slice none 0 0) (.slice none 0 0)) 67 := by rw [hX]; exact hB3.set 5 (.int .i64 (mk + 1))
  have hb03 : Below w.heap.size w w3 := HB2.out.trans (hb3.mono HB2.out.size)
  have hsX : Chg (fun b => b = pb) w3 X := by rw [hX]; exact ⟨rfl, rfl, rfl, by simp [World.setCell], fun j hj hn => Below.heap_setCell _ _ _ _ hn⟩
  have HCX : Hid (Chg (fun b => b = pb) w X) := (Chg.ofBelow (fun b => b = pb) hb03).trans hsX (fun _ _ e => e)
  have hrX : World.ownsRow X w.heap.size 37 2 (.slice (some ⟨g, 0, none⟩) ys.length cap) ys.length (flatC ys) := ownsRow_same HRW.out (fun g e => by
    have hlt := (ownsRow_lt HRW.out e).2
    obtain ⟨cu, hcu⟩ := ownsRow_type HRW.out e
    have hcu3 : Blk w3 g cu 37 := Blk.below (show Blk w2 g cu 37 from hcu) hb3 hlt
    exact (hsX.block g (Nat.lt_of_lt_of_le hlt hb3.size) (hcu3.ne_t hB3 (by decide))).trans (hb3.block g hlt))
  have HRX : Hid (World.ownsRow X w.heap.size 37 2 (.slice (some ⟨g, 0, none⟩) ys.length cap) ys.length (flatC ys)) := hrX
  have HBX : Hid _ := hBX
  have x5 : X.cell? ⟨pb, 5, none⟩ = some (.int .i64 (mk + 1)) := hBX.cell 5
  have xl : X.cell? ⟨pb, 9, none⟩ = some (.slice none 0 0) := hBX.cell 9
  have hwm : IntKind.i64.wrap (mk + 1) = mk + 1 := by rw [IntKind.wrap_i64]; omega
  have htm : (mk + 1).tmod 3 = (mk + 1) % 3 := Int.tmod_eq_emod_of_nonneg (by omega)
  have hm3 : ¬ (mk + 1) % 3 = 0 := hmk.2.2
  clear hb3 hB3 hBX hsX hrX hb03 HSM
  go_upto_region 4 with fail
  rw [← hX]
  clear hX c5 f5
  go_wp2_with (first | (at_builtin; go_must (refine wpList_app1C rfl _ _ rfl rfl (.slice (some ⟨g, 0, none⟩) ys.length cap) rfl rfl (by first | rfl | simp) ?_)))
  intro v1 W2 ho1 hb1
  obtain ⟨ao1, cap1, hv1, _⟩ := own_slice ho1
  subst hv1
  have hB2 : Blk W2 pb (pairV hb rb (mk + 1) (.slice none 0 0) (.slice none 0 0) (.slice none 0 0) (.slice none 0 0) ox oy (.slice none 0 0) (.slice none 0 0)) 67 := Blk.below HBX.out hb1 (Blk.lt HBX.out)
  have f7 := hB2.frozen 9
  have z7 : W2.cell? ⟨pb, 9, none⟩ = some (.slice none 0 0) := hB2.cell 9
  obtain ⟨W3, hW3⟩ : ∃ W3, W3 = W2.setCell ⟨pb, 9, none⟩ (.slice ao1 1 cap1) := ⟨_, rfl⟩
  have HB3 : Hid (Blk W3 pb (pairV hb rb (mk + 1) (.slice none 0 0) (.slice none 0 0) (.slice none 0 0) (.slice none 0 0) ox oy (.slice ao1 1 cap1) (.slice none 0 0)) 67) := show Blk W3 pb (pairV hb rb (mk + 1) (.slice none 0 0) (.slice none 0 0) (.slice none 0 0) (.slice none 0 0) ox oy (.slice ao1 1 cap1) (.slice none 0 0)) 67 from by rw [hW3]; exact hB2.set 9 (.slice ao1 1 cap1)
  have hs3 : Chg (fun b => b = pb) W2 W3 := by rw [hW3]; exact ⟨rfl, rfl, rfl, by simp [World.setCell], fun j hj hn => Below.heap_setCell _ _ _ _ hn⟩
  have HC3 : Hid (Chg (fun b => b = pb) w W3) := (HCX.out.trans (Chg.ofBelow (fun b => b = pb) hb1) (fun _ _ e => e)).trans hs3 (fun _ _ e => e)
  have hr3 : World.ownsRow W3 w.heap.size 37 2 (.slice (some ⟨g, 0, none⟩) ys.length cap) ys.length (flatC ys) := ownsRow_same HRX.out (fun g e => by
    have hlt := (ownsRow_lt HRX.out e).2
    obtain ⟨cu, hcu⟩ := ownsRow_type HRX.out e
    have hcu3 : Blk W2 g cu 37 := Blk.below (show Blk X g cu 37 from hcu) hb1 hlt
    exact (hs3.block g (Nat.lt_of_lt_of_le hlt hb1.size) (hcu3.ne_t hB2 (by decide))).trans (hb1.block g hlt))
  have HCL : Hid (∀ j u, (flatC ys)[j]? = some u → W3.cell? ((⟨g, 0, none⟩ : Addr).add j) = some u) := fun j u hu => hr3.cells (g := g) rfl j u hu
  have HLN : Hid ((flatC ys).length = ys.length * 2) := hr3.1
  have HON : Hid (∀ u ∈ flatC ys, u.oneCell' = true) := fun u hu => by simp [flatC] at hu; rcases hu with ⟨a, b, _, rfl | rfl⟩ <;> rfl
  clear ho1 hb1 hB2 hs3 hr3 xl x5
  go_upto_region 6 with fail
  rw [← hW3]
  clear hW3 f7 z7
  go_wp2_with fail
  try rw [show ∀ a : Act, a.put none undef = a from fun _ => rfl]
  refine wp_region_mix (fun wz => wz.cell? ⟨pb, 10, none⟩ = some (.slice none 0 0)) (fun i => i == 6 || i == 7 || i == 8 || i == 11) 11 (by kernel_rfl) rfl (by kernel_rfl) (by kernel_rfl) (by kernel_rfl) ?_
  refine withFrP (N := 139) rfl ?_
  intro f0 F0 hff
  have e0 : f0 0 = Value.pointer (some ⟨pb, 0, none⟩) := hff 0
  have e3 : f0 3 = Value.slice (some ⟨g, 0, none⟩) ys.length cap := hff 3
  clear hff
  have hB3 : Blk (({ W3 with drawn := W3.drawn + 1 } : World)) pb (pairV hb rb (mk + 1) (.slice none 0 0) (.slice none 0 0) (.slice none 0 0) (.slice none 0 0) ox oy (.slice ao1 1 cap1) (.slice none 0 0)) 67 := HB3.out
  have HCC : (fun wz => wz.cell? ⟨pb, 10, none⟩ = some (.slice none 0 0)) (({ W3 with drawn := W3.drawn + 1 } : World)) := hB3.cell 10
  refine lyp F0 rfl HCC rfl (by omega) (wanted_none rfl) (v := Value.pointer (some ⟨pb, 0, none⟩)) (fun wr hwr => by simp only [execOp, (F0.eval 0 (by omega)).trans (show _ = Value.pointer (some ⟨pb, 0, none⟩) from by simp [upd, e0, e3])]; first | rfl | simp [go_sem]) fun F1 => ?_
  refine lyp F1 rfl HCC rfl (by omega) (wanted_none rfl) (v := Value.pointer (some ⟨pb, 0, none⟩)) (fun wr hwr => by simp only [execOp, (F1.eval 0 (by omega)).trans (show _ = Value.pointer (some ⟨pb, 0, none⟩) from by simp [upd, e0, e3])]; first | rfl | simp [go_sem]) fun F2 => ?_
  refine lyp F2 rfl HCC rfl (by omega) (wanted_none rfl) (v := Value.pointer (some ⟨pb, 0, none⟩)) (fun wr hwr => by simp only [execOp, (F2.eval 44 (by omega)).trans (show _ = Value.pointer (some ⟨pb, 0, none⟩) from by simp [upd, e0, e3])]; simp [go_sem]) fun F3 => ?_
  refine lyp F3 rfl HCC rfl (by omega) (wanted_none rfl) (v := Value.pointer (some ⟨pb, 10, none⟩)) (fun wr hwr => by simp only [execOp, (F3.eval 45 (by omega)).trans (show _ = Value.pointer (some ⟨pb, 0, none⟩) from by simp [upd, e0, e3])]; simp [go_sem]) fun F4 => ?_
  refine lyp F4 rfl HCC rfl (by omega) (wanted_none rfl) (v := Value.slice none 0 0) (fun wr hwr => by simp only [execOp, (F4.eval 46 (by omega)).trans (show _ = Value.pointer (some ⟨pb, 10, none⟩) from by simp [upd, e0, e3])]; simp [go_sem, hwr]) fun F5 => ?_
  refine lyp F5 rfl HCC rfl (by omega) (wanted_none rfl) (v := Value.slice (some ⟨g, 0, none⟩) ys.length cap) (fun wr hwr => by simp only [execOp, (F5.eval 3 (by omega)).trans (show _ = Value.slice (some ⟨g, 0, none⟩) ys.length cap from by simp [upd, e0, e3])]; first | rfl | simp [go_sem]) fun F6 => ?_
  obtain ⟨v5, w5, hrun, ho5, hg5, _⟩ := app_any (w := ({ W3 with drawn := W3.drawn + 1 } : World)) 45 37 (.agg #[.int .i64 0, .int .i64 0]) 2 16 Try.underlying45 info37 rfl (by decide) (by decide) (World.ownsRow_nil (({ W3 with drawn := W3.drawn + 1 } : World)) 0 37 2) ⟨g, 0, none⟩ ys.length cap (flatC ys) HLN.out (show ∀ j u, (flatC ys)[j]? = some u → World.cell? (({ W3 with drawn := W3.drawn + 1 } : World)) ((⟨g, 0, none⟩ : Addr).add j) = some u from fun j u hu => HCL.out j u hu) HON.out (by have := HYL.out; omega) (Nat.zero_le _) 45
  obtain ⟨ao5, cap5, hv5, _⟩ := own_slice ho5
  subst hv5
  have hb5 : Below (({ W3 with drawn := W3.drawn + 1 } : World)).heap.size (({ W3 with drawn := W3.drawn + 1 } : World)) w5 := hg5.chg.below (Nat.le_refl _) (fun k e => by cases e)
  have hB5 : Blk w5 pb (pairV hb rb (mk + 1) (.slice none 0 0) (.slice none 0 0) (.slice none 0 0) (.slice none 0 0) ox oy (.slice ao1 1 cap1) (.slice none 0 0)) 67 := Blk.below hB3 hb5 (Blk.lt hB3)
  have HC5 : (fun wz => wz.cell? ⟨pb, 10, none⟩ = some (.slice none 0 0)) w5 := hB5.cell 10
  refine lep F6 rfl HCC rfl (by omega) (wanted_none rfl) (v := Value.slice ao5 (0 + ys.length) cap5) (w1 := w5) (by simp only [execOp, resolve, invoke, builtin, List.map_toArray, List.map_cons, List.map_nil, show ∀ a : Act, a.eval (Operand.const (Value.slice none 0 0)) = Value.slice none 0 0 from fun _ => rfl, (F6.eval 48 (by omega)).trans (show _ = Value.slice (some ⟨g, 0, none⟩) ys.length cap from by simp [upd, e0, e3])]; simp only [Sem.run_bind, Sem.run_pure, Result.andThen_ok, show _ = _ from hrun]; try rfl) fun F7 => ?_
  have hal6 : Below w5.heap.size w5 (w5.alloc (.cells #[.slice ao5 (0 + ys.length) cap5] 45)) := (Below.refl _ _).alloc (Nat.le_refl _) _
  have hB6 : Blk (w5.alloc (.cells #[.slice ao5 (0 + ys.length) cap5] 45)) pb (pairV hb rb (mk + 1) (.slice none 0 0) (.slice none 0 0) (.slice none 0 0) (.slice none 0 0) ox oy (.slice ao1 1 cap1) (.slice none 0 0)) 67 := Blk.below hB5 hal6 (Blk.lt hB5)
  have HC6 : (fun wz => wz.cell? ⟨pb, 10, none⟩ = some (.slice none 0 0)) (w5.alloc (.cells #[.slice ao5 (0 + ys.length) cap5] 45)) := hB6.cell 10
  refine lep F7 rfl HC5 rfl (by omega) (wanted_none rfl) (v := Value.slice (some ⟨w5.heap.size, 0, none⟩) 1 1) (w1 := w5.alloc (.cells #[.slice ao5 (0 + ys.length) cap5] 45)) (by simp only [execOp, List.map_toArray, List.map_cons, List.map_nil, (F7.eval 49 (by omega)).trans (show _ = Value.slice ao5 (0 + ys.length) cap5 from by simp [upd, e0, e3])]; simp [go_sem]) fun F8 => ?_
  obtain ⟨v7, w7, hrun7, ho7, hg7⟩ := append_rowC (w := w5) (.slice ao5 (0 + ys.length) cap5) rfl 64
  obtain ⟨ao7, cap7, hv7, _⟩ := own_slice ho7
  subst hv7
  have hb7 : Below w5.heap.size w5 w7 := hg7
  have hB7 : Blk w7 pb (pairV hb rb (mk + 1) (.slice none 0 0) (.slice none 0 0) (.slice none 0 0) (.slice none 0 0) ox oy (.slice ao1 1 cap1) (.slice none 0 0)) 67 := Blk.below hB5 hb7 (Blk.lt hB5)
  have HC7 : (fun wz => wz.cell? ⟨pb, 10, none⟩ = some (.slice none 0 0)) w7 := hB7.cell 10
  have hf7 := hB7.frozen 10
  refine lep F8 rfl HC6 rfl (by omega) (wanted_none rfl) (v := Value.slice ao7 1 cap7) (w1 := w7) (by simp only [execOp, resolve, invoke, builtin, List.map_toArray, List.map_cons, List.map_nil, (F8.eval 47 (by omega)).trans (show _ = Value.slice none 0 0 from by simp [upd, e0, e3]), (F8.eval 50 (by omega)).trans (show _ = Value.slice (some ⟨w5.heap.size, 0, none⟩) 1 1 from by simp [upd, e0, e3])]; simp only [Sem.run_bind, Sem.run_pure, Result.andThen_ok, show _ = _ from hrun7]; try rfl) fun F9 => ?_
  refine lyp F9 rfl HC7 rfl (by omega) (wanted_none rfl) (v := Value.pointer (some ⟨pb, 0, none⟩)) (fun wr hwr => by simp only [execOp, (F9.eval 43 (by omega)).trans (show _ = Value.pointer (some ⟨pb, 0, none⟩) from by simp [upd, e0, e3])]; simp [go_sem]) fun F10 => ?_
  refine lyp F10 rfl HC7 rfl (by omega) (wanted_none rfl) (v := Value.pointer (some ⟨pb, 10, none⟩)) (fun wr hwr => by simp only [execOp, (F10.eval 52 (by omega)).trans (show _ = Value.pointer (some ⟨pb, 0, none⟩) from by simp [upd, e0, e3])]; simp [go_sem]) fun F11 => ?_
  refine lst rfl HC7 rfl (wanted_none rfl) (w1 := w7.setCell ⟨pb, 10, none⟩ (.slice ao7 1 cap7)) (by simp only [execOp, (F11.eval 53 (by omega)).trans (show _ = Value.pointer (some ⟨pb, 10, none⟩) from by simp [upd, e0, e3]), (F11.eval 51 (by omega)).trans (show _ = Value.slice ao7 1 cap7 from by simp [upd, e0, e3])]; simp [go_sem, hf7, show w7.cell? ⟨pb, 10, none⟩ = some (.slice none 0 0) from HC7]) ?_
  refine ⟨fun h => by omega, ?_⟩
  clear F0 F1 F2 F3 F4 F5 F6 F7 F8 F9 F10 F11 e0 e3 HCC HC5 HC6 HC7 hrun hrun7
  simp only [Act.put, List.setIfInBounds_toArray, List.set_cons_succ, List.set_cons_zero]

  have hB8 : Blk (w7.setCell ⟨pb, 10, none⟩ (.slice ao7 1 cap7)) pb (pairV hb rb (mk + 1) (.slice none 0 0) (.slice none 0 0) (.slice none 0 0) (.slice none 0 0) ox oy (.slice ao1 1 cap1) (.slice ao7 1 cap7)) 67 := hB7.set 10 (.slice ao7 1 cap7)
  have hs8 : Chg (fun b => b = pb) w7 (w7.setCell ⟨pb, 10, none⟩ (.slice ao7 1 cap7)) := ⟨rfl, rfl, rfl, by simp [World.setCell], fun j hj hn => Below.heap_setCell _ _ _ _ hn⟩
  have HFB : Hid _ := hB8
  have HFC : Hid (Chg (fun b => b = pb) w (w7.setCell ⟨pb, 10, none⟩ (.slice ao7 1 cap7))) := (((HC3.out.drewN 1).trans (Chg.ofBelow (fun b => b = pb) hb5) (fun _ _ e => e)).trans (Chg.ofBelow (fun b => b = pb) hb7) (fun _ _ e => e)).trans hs8 (fun _ _ e => e)
  clear ho5 hg5 hb5 hB5 hal6 hB6 ho7 hg7 hb7 hB7 hf7 hB8 hs8 hB3
  go_wp2_with fail
  go_ret
  exact ⟨rfl, ⟨_, _, HFB.out⟩, HFC.out⟩
end Go.Proofs.Ytbjlaloofpdbfaa
