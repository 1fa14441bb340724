import Derived.Test.YtadfmnlkfcigoaaAlm
import Derived.Deep.Cut
namespace Go.Proofs.Ytadfmnlkfcigoaa
open Go.RowKit Go.PlainAid
set_option linter.unusedVariables false
set_option linter.unusedSimpArgs false
set_option maxRecDepth 100000 in
set_option maxHeartbeats 6400000 in
theorem pending_left (a : PA) (s : PV) (w : World) (h : PN a s w) (hLW : s.x.op.length ≤ 1000) (hmk : 0 ≤ s.mark ∧ s.mark ≤ 100000) (hn3 : s.z.lc.length + 1 ≤ 1000) (hm3 : ¬ (s.mark + 1) % 3 = 0) :
    Calls Try.prog 32 #[.pointer (some ⟨a.pb, 0, none⟩)] w fun e w' => e = .returned (.bool true) ∧ ∃ z', PN a { s with mark := s.mark + 1, z := z' } w' ∧ PStp a s { s with mark := s.mark + 1, z := z' } w w' ∧ z'.lc.length ≤ s.z.lc.length + 1 := by
  obtain ⟨s0x, s0r, mk, z⟩ := s
  simp only at hLW hmk hn3 hm3
  have HPN : Hid (PN a ⟨s0x, s0r, mk, z⟩ w) := h
  have p0 : w.cell? ⟨a.pb, 0, none⟩ = some (.pointer (some ⟨a.ca.cb, 0, none⟩)) := h.box.cell 0
  have HA : Hid _ := pending_any w h.cm (show s0x.op.length ≤ 100000 by omega)
  go_enter Try.func32, Try.ntmps32
  go_wp2_with fail
  refine Calls.mono HA.out ?_
  rintro e w1 ⟨v, ys, rfl, h1, h2, h3, h4⟩
  have hp : ys.Perm s0x.op := h1
  have hst := strictC h2 (hp.nodup_iff.2 h.g.opn)
  have hyl : ys.length ≤ 1000 := by rw [hp.length_eq]; omega
  have HR1 : Hid _ := rpending_any w1 (h.rc.more h4) (show s0r.op.length ≤ 100000 by rw [h.g.op]; simp only; omega) (show ys.Perm s0r.op by rw [h.g.op]; exact hp) hst
  have p1 : w1.cell? ⟨a.pb, 1, none⟩ = some (.pointer (some ⟨a.rb, 0, none⟩)) := (Blk.below h.box h4 (Blk.lt h.box)).cell 1
  have H3 : Hid (World.ownsRow w1 w.heap.size 32 2 v ys.length (flatC ys)) := h3
  have H4 : Hid (Below w.heap.size w w1) := h4
  have HYL : Hid (ys.length ≤ 1000) := hyl
  obtain ⟨ao, cap, hv, hncap⟩ := own_slice h3
  subst hv
  have hcapm : cap ≤ maxLen := by obtain ⟨_, _, e, _, h, _⟩ := own_read h3; cases e; exact h
  unfold maxLen at hcapm
  clear HA h1 h2 h3 h4 hp hst h p0
  go_wp2_with fail
  refine Calls.mono HR1.out ?_
  rintro e w2 ⟨vr, rfl, hr2, hb2⟩
  have hrow2 : World.ownsRow w2 w.heap.size 32 2 (.slice ao ys.length cap) ys.length (flatC ys) := ownsRow_same H3.out (fun g e => hb2.block g (ownsRow_lt H3.out e).2)
  have hsm := sameC_any hrow2 hr2 (by have := HYL.out; omega)
  rw [show decide (ys = ys) = true from decide_eq_true rfl] at hsm
  have HSM : Hid _ := hsm
  have HB2 : Hid (Below w.heap.size w w2) := H4.out.trans (hb2.mono H4.out.size)
  have HRW : Hid (World.ownsRow w2 w.heap.size 32 2 (.slice ao ys.length cap) ys.length (flatC ys)) := hrow2
  obtain ⟨aor, capr, hvr, _⟩ := own_slice hr2
  subst hvr
  clear hr2 hb2 hrow2 HR1 p1 hsm H3 H4
  go_wp2_with fail
  refine Calls.mono HSM.out ?_
  rintro e w3 ⟨rfl, hb3⟩
  have hb03 : Below w.heap.size w w3 := HB2.out.trans (hb3.mono HB2.out.size)
  have hr3 : World.ownsRow w3 w.heap.size 32 2 (.slice ao ys.length cap) ys.length (flatC ys) := ownsRow_same HRW.out (fun g e => hb3.block g (ownsRow_lt HRW.out e).2)
  have hA0 : AP (boxE a.L a.pb (pairV a.ca.cb a.rb mk z) 57 :: [cmE a.L a.ca s0x, rcE a.L a.ca a.rb s0r]) (has (a.ents ⟨s0x, s0r, mk, z⟩)) w (z.ents a.L) w := HPN.out.as
  have hA3 := hA0.fresh (e := dcE a.L ⟨.slice ao ys.length cap, ys⟩) hb03 (show World.ownsRow w3 a.L 32 2 _ _ _ from ownsRow_mono hr3 HPN.out.lo) (fun k hk => (ownsRow_lt hr3 hk).1)
  have c5 : w3.cell? ⟨a.pb, 4, none⟩ = some (.int .i64 mk) := hA3.cell 4
  have f5 := hA3.fz 4
  obtain ⟨own0, ho0⟩ : ∃ own0, own0 = has (a.ents ⟨s0x, s0r, mk, z⟩) := ⟨_, rfl⟩
  rw [← ho0] at hA3
  have HO0 : Hid (own0 = has (a.ents ⟨s0x, s0r, mk, z⟩)) := ho0
  obtain ⟨X, hX⟩ : ∃ X, X = w3.setCell ⟨a.pb, 4, none⟩ (.int .i64 (mk + 1)) := ⟨_, rfl⟩
  have HSX : Hid (AP (boxE a.L a.pb (pairV a.ca.cb a.rb (mk + 1) z) 57 :: [cmE a.L a.ca s0x, rcE a.L a.ca a.rb s0r]) own0 w (dcE a.L ⟨.slice ao ys.length cap, ys⟩ :: z.ents a.L) X) := show AP (boxE a.L a.pb (pairV a.ca.cb a.rb (mk + 1) z) 57 :: [cmE a.L a.ca s0x, rcE a.L a.ca a.rb s0r]) own0 w _ X from by rw [hX]; exact hA3.set 4 (.int .i64 (mk + 1))
  have x5 : X.cell? ⟨a.pb, 4, none⟩ = some (.int .i64 (mk + 1)) := HSX.out.cell 4
  have hwm : IntKind.i64.wrap (mk + 1) = mk + 1 := by rw [IntKind.wrap_i64]; omega
  have htm : (mk + 1).tmod 3 = (mk + 1) % 3 := Int.tmod_eq_emod_of_nonneg (by omega)
  have HFL : Hid (NFull z) := HPN.out.f
  clear hb03 hr3 hA0 hA3 HSM HRW HB2 hb3 ho0
  go_upto_region 4 with fail
  rw [← hX]
  clear hX c5 f5
  have hxS : a.L ≤ X.heap.size := Nat.le_trans HPN.out.lo HSX.out.chg.size
  have hTl : Tail X a.L 79 z.vlc z.lc.length (z.lc.map DC.d) := HSX.out.get (e := z.e6 a.L) (by simp [NZ.ents])
  obtain ⟨aoL, capL, hvL, _⟩ := tail_form hTl
  obtain ⟨gL, offL, ccL, WL1, hrunL, hTL, hcL, huL⟩ := app_tail 55 79 (.slice none 0 0) 24 Try.underlying55 info79 rfl (by decide) hTl (.slice ao ys.length cap) rfl (by omega) hxS
  have hA4 := HSX.out.leftC (u := .slice (some ⟨gL, offL, none⟩) (z.lc.length + 1) ccL) hTL hcL huL
  have z7 : WL1.cell? ⟨a.pb, 5, none⟩ = some z.vlc := hA4.cell 5
  have f7 := hA4.fz 5
  have x7 : X.cell? ⟨a.pb, 5, none⟩ = some z.vlc := HSX.out.cell 5
  obtain ⟨W2, hW2⟩ : ∃ W2, W2 = WL1.setCell ⟨a.pb, 5, none⟩ (.slice (some ⟨gL, offL, none⟩) (z.lc.length + 1) ccL) := ⟨_, rfl⟩
  obtain ⟨z1, hz1⟩ : ∃ z1 : NZ, z1 = { z with vlc := .slice (some ⟨gL, offL, none⟩) (z.lc.length + 1) ccL, lc := z.lc ++ [⟨.slice ao ys.length cap, ys⟩] } := ⟨_, rfl⟩
  have HS2 : Hid (AP (boxE a.L a.pb (pairV a.ca.cb a.rb (mk + 1) z1) 57 :: [cmE a.L a.ca s0x, rcE a.L a.ca a.rb s0r]) own0 w (z1.ents a.L) W2) := show AP (boxE a.L a.pb (pairV a.ca.cb a.rb (mk + 1) z1) 57 :: [cmE a.L a.ca s0x, rcE a.L a.ca a.rb s0r]) own0 w (z1.ents a.L) W2 from by
    rw [hW2, hz1]
    exact hA4.set 5 (.slice (some ⟨gL, offL, none⟩) (z.lc.length + 1) ccL)
  rw [hvL] at x7 z7 hrunL
  have HRL : Hid (∀ ty, (Builtin.append_ #[55, 55] ty #[.slice aoL z.lc.length capL, .slice (some ⟨X.heap.size, 0, none⟩) 1 1]).run Try.prog (X.alloc (.cells #[.slice ao ys.length cap] 79)) = .ok (.slice (some ⟨gL, offL, none⟩) (z.lc.length + 1) ccL) WL1) := hrunL
  have HXI : Hid ((⟨.slice ao ys.length cap, ys⟩ : DC) ∈ z1.lc) := show _ ∈ z1.lc from by rw [hz1]; simp
  have HZ1 : Hid (z1 = { z with vlc := .slice (some ⟨gL, offL, none⟩) (z.lc.length + 1) ccL, lc := z.lc ++ [⟨.slice ao ys.length cap, ys⟩] }) := hz1
  clear hxS hTl hTL hcL huL hA4 hrunL hz1 hvL
  go_upto_region 6 with (at_builtin; refine wpList_runs rfl _ _ 55 rfl rfl rfl HRL.out ?_)
  rw [← hW2]
  clear hW2 z7 f7 x7 x5 HRL HSX
  have hTw : Tail W2 a.L 79 z1.vwc z1.wc.length (z1.wc.map DC.d) := HS2.out.get (e := z1.e7 a.L) (by simp [NZ.ents])
  obtain ⟨aoW, capW, hvW, _⟩ := tail_form hTw
  have HTW : Hid _ := hTw
  have HVW : Hid (z1.vwc = .slice aoW z1.wc.length capW) := hvW
  have HNW : Hid (z1.wc.length ≤ 1000) := show z1.wc.length ≤ 1000 from by
    rw [HZ1.out]
    have h1 := congrArg List.length HFL.out.wc1
    simp at h1
    simp only
    omega
  clear hTw hvW
  go_wp2_with fail
  try rw [show ∀ a : Act, a.put none undef = a from fun _ => rfl]
  refine wp_region_mix (fun wz => wz.cell? ⟨a.pb, 6, none⟩ = some (.slice aoW z1.wc.length capW)) (fun i => i == 6 || i == 7 || i == 8 || i == 11) 11 (by kernel_rfl) rfl (by kernel_rfl) (by kernel_rfl) (by kernel_rfl) ?_
  refine withFrP (N := 139) rfl ?_
  intro f0 F0 hff
  have e0 : f0 0 = Value.pointer (some ⟨a.pb, 0, none⟩) := hff 0
  have e3 : f0 3 = Value.slice ao ys.length cap := hff 3
  clear hff
  have hAd : AP (boxE a.L a.pb (pairV a.ca.cb a.rb (mk + 1) z1) 57 :: [cmE a.L a.ca s0x, rcE a.L a.ca a.rb s0r]) own0 w (z1.ents a.L) (({ W2 with drawn := W2.drawn + 1 } : World)) := HS2.out.more (Below.drew (Below.refl _ _))
  have HCC : (fun wz => wz.cell? ⟨a.pb, 6, none⟩ = some (.slice aoW z1.wc.length capW)) (({ W2 with drawn := W2.drawn + 1 } : World)) := (hAd.cell 6).trans (by rw [← HVW.out]; rfl)
  refine lyp F0 rfl HCC rfl (by omega) (wanted_none rfl) (v := Value.pointer (some ⟨a.pb, 0, none⟩)) (fun wr hwr => by simp only [execOp, (F0.eval 0 (by omega)).trans (show _ = Value.pointer (some ⟨a.pb, 0, none⟩) from by simp [upd, e0, e3])]; first | rfl | simp [go_sem]) fun F1 => ?_
  refine lyp F1 rfl HCC rfl (by omega) (wanted_none rfl) (v := Value.pointer (some ⟨a.pb, 0, none⟩)) (fun wr hwr => by simp only [execOp, (F1.eval 0 (by omega)).trans (show _ = Value.pointer (some ⟨a.pb, 0, none⟩) from by simp [upd, e0, e3])]; first | rfl | simp [go_sem]) fun F2 => ?_
  refine lyp F2 rfl HCC rfl (by omega) (wanted_none rfl) (v := Value.pointer (some ⟨a.pb, 0, none⟩)) (fun wr hwr => by simp only [execOp, (F2.eval 44 (by omega)).trans (show _ = Value.pointer (some ⟨a.pb, 0, none⟩) from by simp [upd, e0, e3])]; simp [go_sem]) fun F3 => ?_
  refine lyp F3 rfl HCC rfl (by omega) (wanted_none rfl) (v := Value.pointer (some ⟨a.pb, 6, none⟩)) (fun wr hwr => by simp only [execOp, (F3.eval 45 (by omega)).trans (show _ = Value.pointer (some ⟨a.pb, 0, none⟩) from by simp [upd, e0, e3])]; simp [go_sem]) fun F4 => ?_
  refine lyp F4 rfl HCC rfl (by omega) (wanted_none rfl) (v := Value.slice aoW z1.wc.length capW) (fun wr hwr => by simp only [execOp, (F4.eval 46 (by omega)).trans (show _ = Value.pointer (some ⟨a.pb, 6, none⟩) from by simp [upd, e0, e3])]; simp [go_sem, hwr]) fun F5 => ?_
  refine lyp F5 rfl HCC rfl (by omega) (wanted_none rfl) (v := Value.slice ao ys.length cap) (fun wr hwr => by simp only [execOp, (F5.eval 3 (by omega)).trans (show _ = Value.slice ao ys.length cap from by simp [upd, e0, e3])]; first | rfl | simp [go_sem]) fun F6 => ?_
  have hrX : World.ownsRow (({ W2 with drawn := W2.drawn + 1 } : World)) a.L 32 2 (.slice ao ys.length cap) ys.length (flatC ys) := hAd.get (e := dcE a.L ⟨.slice ao ys.length cap, ys⟩) (by
    simp only [NZ.ents, NZ.dats, List.mem_append, List.mem_map]
    exact Or.inr (Or.inr (Or.inl ⟨_, HXI.out, rfl⟩)))
  obtain ⟨hnl, hsrc⟩ := row_src hrX
  obtain ⟨v5, w5, hrun, ho5, hg5⟩ := app_rows (w := ({ W2 with drawn := W2.drawn + 1 } : World)) 79 32 (.agg #[.int .i64 0, .int .i64 0]) 2 16 Try.underlying79 info32 rfl (by decide) (by decide) (World.ownsRow_nil (({ W2 with drawn := W2.drawn + 1 } : World)) (({ W2 with drawn := W2.drawn + 1 } : World)).heap.size 32 2) (ao := ao) (m := ys.length) (cap := cap) (ys := flatC ys) hrX.1 hnl hsrc (fun u hu => by simp [flatC] at hu; rcases hu with ⟨a, b, _, rfl | rfl⟩ <;> rfl) (by have := HYL.out; omega) (Nat.le_refl _)
  rw [List.nil_append] at ho5
  obtain ⟨ao5, cap5, hv5, _⟩ := own_slice ho5
  subst hv5
  have hb5 : Below (({ W2 with drawn := W2.drawn + 1 } : World)).heap.size (({ W2 with drawn := W2.drawn + 1 } : World)) w5 := hg5.chg.below (Nat.le_refl _) (fun k e => by cases e)
  have hA5 := hAd.more hb5
  have hA5f := hAd.fresh (e := dcE a.L ⟨.slice ao5 (0 + ys.length) cap5, ys⟩) hb5 (show World.ownsRow w5 a.L 32 2 (.slice ao5 (0 + ys.length) cap5) ys.length (flatC ys) from by
    have := ownsRow_mono ho5 (Nat.le_trans HPN.out.lo hAd.chg.size)
    rwa [Nat.zero_add] at this ⊢) (fun k hk => (ownsRow_lt ho5 hk).1)
  have HC5 : (fun wz => wz.cell? ⟨a.pb, 6, none⟩ = some (.slice aoW z1.wc.length capW)) w5 := (hA5.cell 6).trans (by rw [← HVW.out]; rfl)
  refine lep F6 rfl HCC rfl (by omega) (wanted_none rfl) (v := Value.slice ao5 (0 + ys.length) cap5) (w1 := w5) (by simp only [execOp, resolve, invoke, builtin, List.map_toArray, List.map_cons, List.map_nil, show ∀ a : Act, a.eval (Operand.const (Value.slice none 0 0)) = Value.slice none 0 0 from fun _ => rfl, (F6.eval 48 (by omega)).trans (show _ = Value.slice ao ys.length cap from by simp [upd, e0, e3])]; simp only [Sem.run_bind, Sem.run_pure, Result.andThen_ok, hrun]) fun F7 => ?_
  have hA6 := hA5f.more ((Below.refl w5.heap.size w5).alloc (Nat.le_refl _) (.cells #[.slice ao5 (0 + ys.length) cap5] 79))
  have HC6 : (fun wz => wz.cell? ⟨a.pb, 6, none⟩ = some (.slice aoW z1.wc.length capW)) (w5.alloc (.cells #[.slice ao5 (0 + ys.length) cap5] 79)) := (hA6.cell 6).trans (by rw [← HVW.out]; rfl)
  refine lep F7 rfl HC5 rfl (by omega) (wanted_none rfl) (v := Value.slice (some ⟨w5.heap.size, 0, none⟩) 1 1) (w1 := w5.alloc (.cells #[.slice ao5 (0 + ys.length) cap5] 79)) (by simp only [execOp, List.map_toArray, List.map_cons, List.map_nil, (F7.eval 49 (by omega)).trans (show _ = Value.slice ao5 (0 + ys.length) cap5 from by simp [upd, e0, e3])]; simp [go_sem]) fun F8 => ?_
  have hTw5 : Tail w5 a.L 79 z1.vwc z1.wc.length (z1.wc.map DC.d) := hA5.get (e := z1.e7 a.L) (by simp [NZ.ents])
  obtain ⟨g7, off7, cap7, w7, hrun7, hT7, hc7, hu7⟩ := app_tail 55 79 (.slice none 0 0) 24 Try.underlying55 info79 rfl (by decide) hTw5 (.slice ao5 (0 + ys.length) cap5) rfl (by have := HNW.out; omega) (Nat.le_trans HPN.out.lo hA5.chg.size)
  rw [HVW.out] at hrun7
  have hA7 := hA5f.wereC (u := .slice (some ⟨g7, off7, none⟩) (z1.wc.length + 1) cap7) hT7 hc7 hu7
  have HC7 : (fun wz => wz.cell? ⟨a.pb, 6, none⟩ = some (.slice aoW z1.wc.length capW)) w7 := (hA7.cell 6).trans (by rw [← HVW.out]; rfl)
  have hf7 := hA7.fz 6
  refine lep F8 rfl HC6 rfl (by omega) (wanted_none rfl) (v := Value.slice (some ⟨g7, off7, none⟩) (z1.wc.length + 1) cap7) (w1 := w7) (by simp only [execOp, resolve, invoke, builtin, List.map_toArray, List.map_cons, List.map_nil, (F8.eval 47 (by omega)).trans (show _ = Value.slice aoW z1.wc.length capW from by simp [upd, e0, e3]), (F8.eval 50 (by omega)).trans (show _ = Value.slice (some ⟨w5.heap.size, 0, none⟩) 1 1 from by simp [upd, e0, e3])]; simp only [Sem.run_bind, Sem.run_pure, Result.andThen_ok, hrun7]) fun F9 => ?_
  refine lyp F9 rfl HC7 rfl (by omega) (wanted_none rfl) (v := Value.pointer (some ⟨a.pb, 0, none⟩)) (fun wr hwr => by simp only [execOp, (F9.eval 43 (by omega)).trans (show _ = Value.pointer (some ⟨a.pb, 0, none⟩) from by simp [upd, e0, e3])]; simp [go_sem]) fun F10 => ?_
  refine lyp F10 rfl HC7 rfl (by omega) (wanted_none rfl) (v := Value.pointer (some ⟨a.pb, 6, none⟩)) (fun wr hwr => by simp only [execOp, (F10.eval 52 (by omega)).trans (show _ = Value.pointer (some ⟨a.pb, 0, none⟩) from by simp [upd, e0, e3])]; simp [go_sem]) fun F11 => ?_
  refine lst rfl HC7 rfl (wanted_none rfl) (w1 := w7.setCell ⟨a.pb, 6, none⟩ (.slice (some ⟨g7, off7, none⟩) (z1.wc.length + 1) cap7)) (by simp only [execOp, (F11.eval 53 (by omega)).trans (show _ = Value.pointer (some ⟨a.pb, 6, none⟩) from by simp [upd, e0, e3]), (F11.eval 51 (by omega)).trans (show _ = Value.slice (some ⟨g7, off7, none⟩) (z1.wc.length + 1) cap7 from by simp [upd, e0, e3])]; simp [go_sem, hf7, show w7.cell? ⟨a.pb, 6, none⟩ = some (.slice aoW z1.wc.length capW) from HC7]) ?_
  refine ⟨fun h => by omega, ?_⟩
  clear F0 F1 F2 F3 F4 F5 F6 F7 F8 F9 F10 F11 e0 e3 HCC HC5 HC6 HC7 hrun hrun7
  simp only [Act.put, List.setIfInBounds_toArray, List.set_cons_succ, List.set_cons_zero]
  obtain ⟨z2, hz2⟩ : ∃ z2 : NZ, z2 = { z1 with vwc := .slice (some ⟨g7, off7, none⟩) (z1.wc.length + 1) cap7, wc := z1.wc ++ [⟨.slice ao5 (0 + ys.length) cap5, ys⟩] } := ⟨_, rfl⟩
  have hA8 : AP (boxE a.L a.pb (pairV a.ca.cb a.rb (mk + 1) z2) 57 :: [cmE a.L a.ca s0x, rcE a.L a.ca a.rb s0r]) own0 w (z2.ents a.L) (w7.setCell ⟨a.pb, 6, none⟩ (.slice (some ⟨g7, off7, none⟩) (z1.wc.length + 1) cap7)) := by
    rw [hz2]
    exact hA7.set 6 (.slice (some ⟨g7, off7, none⟩) (z1.wc.length + 1) cap7)
  have hF2 : NFull z2 := by
    rw [hz2, HZ1.out]
    exact HFL.out.putC HYL.out hn3 _ _ _ _
  rw [HO0.out] at hA8
  have HFIN : Hid (PN a ⟨s0x, s0r, mk + 1, z2⟩ _ ∧ PStp a ⟨s0x, s0r, mk, z⟩ ⟨s0x, s0r, mk + 1, z2⟩ w _) := HPN.out.of (s' := ⟨s0x, s0r, mk + 1, z2⟩) hA8 hF2 HPN.out.g
  have HLN2 : Hid (z2.lc.length ≤ z.lc.length + 1) := show z2.lc.length ≤ z.lc.length + 1 from by rw [hz2, HZ1.out]; simp
  clear hA5 hA5f hA6 hA7 hT7 hc7 hu7 hTw5 hAd hrX hnl hsrc ho5 hg5 hb5 hf7 hA8 hF2 hz2
  go_wp2_with fail
  go_ret
  exact ⟨rfl, z2, HFIN.out.1, HFIN.out.2, HLN2.out⟩
end Go.Proofs.Ytadfmnlkfcigoaa
