import Derived.Test.YtbjlaloofpdbfaaAlm
import Derived.Test.YtbjlaloofpdbfaaHsL
import Derived.Deep.Cut
namespace Go.Proofs.Ytbjlaloofpdbfaa
open Go.RowKit Go.PlainAid
set_option linter.unusedVariables false
set_option linter.unusedSimpArgs false
theorem row_src {w : World} {L e sz n cap : Nat} {ao : Option Addr} {xs : List Value} (h : w.ownsRow L e sz (.slice ao n cap) n xs) : (ao = none → n = 0 ∧ cap = 0) ∧ (∀ ad, ao = some ad → ∀ j u, xs[j]? = some u → w.cell? (ad.add j) = some u) := by
  rcases h.2 with ⟨h1, h2⟩ | ⟨g, c, cur, h1, _⟩
  · cases h1
    exact ⟨fun _ => ⟨rfl, rfl⟩, fun ad e => by cases e⟩
  · cases h1
    refine ⟨(fun e => by cases e), fun ad e j u hu => ?_⟩
    cases e
    exact h.cells (g := g) rfl j u hu
theorem NFull.putS {z : NZ} {ys : List (List UInt8)} (h : NFull z) (hl : ys.length ≤ 1000) (hn : z.lt.length + 1 ≤ 1000) (u u' d d' : Value) : NFull { z with vlt := u, lt := z.lt ++ [⟨d, ys⟩], vwt := u', wt := z.wt ++ [⟨d', ys⟩] } :=
  ⟨h.lt1, h.lc1, h.ft, h.fc, h.n1, h.n2, by simp; omega, h.n4, (fun y hy => by
    simp only [List.mem_append, List.mem_singleton] at hy
    have old : y ∈ z.kt ++ (z.lt ++ z.wt) → y.ss.length ≤ 1000 := h.s1 y
    rcases hy with hy | (hy | rfl) | hy | rfl
    · exact old (by simp [hy])
    · exact old (by simp [hy])
    · exact hl
    · exact old (by simp [hy])
    · exact hl), h.s2, by simp [h.wt1], h.wc1⟩
theorem NFull.putC {z : NZ} {ys : List (Int × Int)} (h : NFull z) (hl : ys.length ≤ 1000) (hn : z.lc.length + 1 ≤ 1000) (u u' d d' : Value) : NFull { z with vlc := u, lc := z.lc ++ [⟨d, ys⟩], vwc := u', wc := z.wc ++ [⟨d', ys⟩] } :=
  ⟨h.lt1, h.lc1, h.ft, h.fc, h.n1, h.n2, h.n3, by simp; omega, h.s1, (fun y hy => by
    simp only [List.mem_append, List.mem_singleton] at hy
    have old : y ∈ z.kc ++ (z.lc ++ z.wc) → y.cs.length ≤ 1000 := h.s2 y
    rcases hy with hy | (hy | rfl) | hy | rfl
    · exact old (by simp [hy])
    · exact old (by simp [hy])
    · exact hl
    · exact old (by simp [hy])
    · exact hl), h.wt1, by simp [h.wc1]⟩
set_option maxRecDepth 100000 in
set_option maxHeartbeats 6400000 in
theorem all_left (a : PA) (s : PV) (w : World) (h : PN a s w) (hLK : s.KL.length ≤ 1000) (hLW : s.WL.length ≤ 1000) (hnd : s.KL.Nodup) (hmk : 0 ≤ s.mark ∧ s.mark ≤ 100000) (hn3 : s.z.lt.length + 1 ≤ 1000) (hm3 : ¬ (s.mark + 1) % 3 = 0) :
    Calls Try.prog 59 #[.pointer (some ⟨a.pb, 0, none⟩)] w fun e w' => e = .returned (.bool true) ∧ ∃ z', PN a { s with mark := s.mark + 1, z := z' } w' ∧ PStp a s { s with mark := s.mark + 1, z := z' } w w' ∧ z'.lt.length ≤ s.z.lt.length + 1 ∧ z'.lc.length ≤ s.z.lc.length + 1 := by
  obtain ⟨kl, wl, KL, WL, mk, z⟩ := s
  simp only at hLK hLW hnd hmk hn3 hm3
  have HPN : Hid (PN a ⟨kl, wl, KL, WL, mk, z⟩ w) := h
  have p0 : w.cell? ⟨a.pb, 0, none⟩ = some (.pointer (some ⟨a.hb, 0, none⟩)) := h.p.cell 0
  have HA : Hid _ := all_any w h.t (by unfold KNm; simp; omega)
  have hKN : (KNm a.rep KL).map (·.1) = KL := by unfold KNm; rw [List.map_map]; exact List.map_id _
  go_enter Try.func59, Try.ntmps59
  go_wp2_with fail
  refine Calls.mono HA.out ?_
  rintro e w1 ⟨v, ys, rfl, h1, h2, h3, h4⟩
  have hp : ys.Perm KL := (by rw [hKN] at h1; exact h1)
  have hst := strictS h2 (hp.nodup_iff.2 hnd)
  have hyl : ys.length ≤ 1000 := by rw [hp.length_eq]; omega
  have HR1 : Hid _ := rall_any w1 (h.r.more h4) (show KL.length ≤ 100000 by omega) hp hst
  have p1 : w1.cell? ⟨a.pb, 1, none⟩ = some (.pointer (some ⟨a.rb, 0, none⟩)) := (Blk.below h.p h4 (Blk.lt h.p)).cell 1
  have H3 : Hid (World.ownsRow w1 w.heap.size 9 1 v ys.length (flatS ys)) := h3
  have H4 : Hid (Below w.heap.size w w1) := h4
  have HYL : Hid (ys.length ≤ 1000) := hyl
  obtain ⟨ao, cap, hv, hncap⟩ := own_slice h3
  subst hv
  have hcapm : cap ≤ maxLen := by obtain ⟨_, _, e, _, h, _⟩ := own_read h3; cases e; exact h
  unfold maxLen at hcapm
  clear HA h1 h2 h3 h4 hp hst h p0 hKN hnd
  go_wp2_with fail
  refine Calls.mono HR1.out ?_
  rintro e w2 ⟨vr, rfl, hr2, hb2⟩
  have hrow2 : World.ownsRow w2 w.heap.size 9 1 (.slice ao ys.length cap) ys.length (flatS ys) := ownsRow_same H3.out (fun g e => hb2.block g (ownsRow_lt H3.out e).2)
  have hsm := sameT_any hrow2 hr2 (by have := HYL.out; omega)
  rw [show decide (ys = ys) = true from decide_eq_true rfl] at hsm
  have HSM : Hid _ := hsm
  have HB2 : Hid (Below w.heap.size w w2) := H4.out.trans (hb2.mono H4.out.size)
  have HRW : Hid (World.ownsRow w2 w.heap.size 9 1 (.slice ao ys.length cap) ys.length (flatS ys)) := hrow2
  obtain ⟨aor, capr, hvr, _⟩ := own_slice hr2
  subst hvr
  clear hr2 hb2 hrow2 HR1 p1 hsm H3 H4
  go_wp2_with fail
  refine Calls.mono HSM.out ?_
  rintro e w3 ⟨rfl, hb3⟩
  have hb03 : Below w.heap.size w w3 := HB2.out.trans (hb3.mono HB2.out.size)
  have hr3 : World.ownsRow w3 w.heap.size 9 1 (.slice ao ys.length cap) ys.length (flatS ys) := ownsRow_same HRW.out (fun g e => hb3.block g (ownsRow_lt HRW.out e).2)
  have hA0 := HPN.out.as
  have hA3 := (hA0.more hb03).fresh (e := dsE a.S0 ⟨.slice ao ys.length cap, ys⟩) hb03 hA0 (show World.ownsRow w3 a.S0 9 1 _ _ _ from ownsRow_mono hr3 HPN.out.low) (fun k hk => (ownsRow_lt hr3 hk).1)
  simp only at hA3
  have c5 : w3.cell? ⟨a.pb, 5, none⟩ = some (.int .i64 mk) := hA3.cell 5
  have f5 := hA3.fz 5
  obtain ⟨own0, ho0⟩ : ∃ own0, own0 = a.own ⟨kl, wl, KL, WL, mk, z⟩ := ⟨_, rfl⟩
  rw [← ho0] at hA3
  have HO0 : Hid (own0 = a.own ⟨kl, wl, KL, WL, mk, z⟩) := ho0
  obtain ⟨X, hX⟩ : ∃ X, X = w3.setCell ⟨a.pb, 5, none⟩ (.int .i64 (mk + 1)) := ⟨_, rfl⟩
  have HSX : Hid (AS a kl wl KL WL WL own0 w (z.box a (mk + 1)) (dsE a.S0 ⟨.slice ao ys.length cap, ys⟩ :: z.ents a.S0) X) := show AS a kl wl KL WL WL own0 w (z.box a (mk + 1)) _ X from by rw [hX]; exact hA3.set 5 (.int .i64 (mk + 1))
  have x5 : X.cell? ⟨a.pb, 5, none⟩ = some (.int .i64 (mk + 1)) := HSX.out.cell 5
  have hwm : IntKind.i64.wrap (mk + 1) = mk + 1 := by rw [IntKind.wrap_i64]; omega
  have htm : (mk + 1).tmod 3 = (mk + 1) % 3 := Int.tmod_eq_emod_of_nonneg (by omega)
  have HFL : Hid (NFull z) := HPN.out.f
  clear hb03 hr3 hA0 hA3 HSM HRW HB2 hb3 ho0
  go_upto_region 4 with fail
  rw [← hX]
  clear hX c5 f5
  have hxS : a.S0 ≤ X.heap.size := Nat.le_trans HPN.out.low HSX.out.chg.size
  have hTl : Tail X a.S0 51 z.vlt z.lt.length (z.lt.map DS.d) := HSX.out.h.all (z.e4 a.S0) (List.mem_cons_of_mem _ (by simp [NZ.ents]))
  obtain ⟨aoL, capL, hvL, _⟩ := tail_form hTl
  obtain ⟨gL, offL, ccL, WL1, hrunL, hTL, hcL, huL⟩ := app_tail 63 51 (.slice none 0 0) 24 Try.underlying63 info51 rfl (by decide) hTl (.slice ao ys.length cap) rfl (by omega) hxS
  have hA4 := HSX.out.leftS (u := .slice (some ⟨gL, offL, none⟩) (z.lt.length + 1) ccL) hTL hcL huL
  have z7 : WL1.cell? ⟨a.pb, 7, none⟩ = some z.vlt := hA4.cell 7
  have f7 := hA4.fz 7
  have x7 : X.cell? ⟨a.pb, 7, none⟩ = some z.vlt := HSX.out.cell 7
  obtain ⟨W2, hW2⟩ : ∃ W2, W2 = WL1.setCell ⟨a.pb, 7, none⟩ (.slice (some ⟨gL, offL, none⟩) (z.lt.length + 1) ccL) := ⟨_, rfl⟩
  obtain ⟨z1, hz1⟩ : ∃ z1 : NZ, z1 = { z with vlt := .slice (some ⟨gL, offL, none⟩) (z.lt.length + 1) ccL, lt := z.lt ++ [⟨.slice ao ys.length cap, ys⟩] } := ⟨_, rfl⟩
  have HS2 : Hid (AS a kl wl KL WL WL own0 w (z1.box a (mk + 1)) (z1.ents a.S0) W2) := show AS a kl wl KL WL WL own0 w (z1.box a (mk + 1)) (z1.ents a.S0) W2 from by
    rw [hW2, hz1]
    exact hA4.set 7 (.slice (some ⟨gL, offL, none⟩) (z.lt.length + 1) ccL)
  rw [hvL] at x7 z7 hrunL
  have HRL : Hid (∀ ty, (Builtin.append_ #[63, 63] ty #[.slice aoL z.lt.length capL, .slice (some ⟨X.heap.size, 0, none⟩) 1 1]).run Try.prog (X.alloc (.cells #[.slice ao ys.length cap] 51)) = .ok (.slice (some ⟨gL, offL, none⟩) (z.lt.length + 1) ccL) WL1) := hrunL
  have HXI : Hid ((⟨.slice ao ys.length cap, ys⟩ : DS) ∈ z1.lt) := show _ ∈ z1.lt from by rw [hz1]; simp
  have HZ1 : Hid (z1 = { z with vlt := .slice (some ⟨gL, offL, none⟩) (z.lt.length + 1) ccL, lt := z.lt ++ [⟨.slice ao ys.length cap, ys⟩] }) := hz1
  clear hxS hTl hTL hcL huL hA4 hrunL hz1 hvL
  go_upto_region 6 with (at_builtin; refine wpList_runs rfl _ _ 63 rfl rfl rfl HRL.out ?_)
  rw [← hW2]
  clear hW2 z7 f7 x7 x5 HRL HSX
  have hTw : Tail W2 a.S0 51 z1.vwt z1.wt.length (z1.wt.map DS.d) := NZ.h5 HS2.out.h
  obtain ⟨aoW, capW, hvW, _⟩ := tail_form hTw
  have HTW : Hid _ := hTw
  have HVW : Hid (z1.vwt = .slice aoW z1.wt.length capW) := hvW
  have HNW : Hid (z1.wt.length ≤ 1000) := show z1.wt.length ≤ 1000 from by
    rw [HZ1.out]
    have h1 := congrArg List.length HFL.out.wt1
    simp at h1
    simp only
    omega
  clear hTw hvW
  go_wp2_with fail
  try rw [show ∀ a : Act, a.put none undef = a from fun _ => rfl]
  refine wp_region_mix (fun wz => wz.cell? ⟨a.pb, 8, none⟩ = some (.slice aoW z1.wt.length capW)) (fun i => i == 6 || i == 7 || i == 8 || i == 11) 11 (by kernel_rfl) rfl (by kernel_rfl) (by kernel_rfl) (by kernel_rfl) ?_
  refine withFrP (N := 137) rfl ?_
  intro f0 F0 hff
  have e0 : f0 0 = Value.pointer (some ⟨a.pb, 0, none⟩) := hff 0
  have e3 : f0 3 = Value.slice ao ys.length cap := hff 3
  clear hff
  have hAd : AS a kl wl KL WL WL own0 w (z1.box a (mk + 1)) (z1.ents a.S0) (({ W2 with drawn := W2.drawn + 1 } : World)) := HS2.out.more (Below.drew (Below.refl _ _))
  have HCC : (fun wz => wz.cell? ⟨a.pb, 8, none⟩ = some (.slice aoW z1.wt.length capW)) (({ W2 with drawn := W2.drawn + 1 } : World)) := (hAd.cell 8).trans (by rw [← HVW.out]; rfl)
  refine lyp F0 rfl HCC rfl (by omega) (wanted_none rfl) (v := Value.pointer (some ⟨a.pb, 0, none⟩)) (fun wr hwr => by simp only [execOp, (F0.eval 0 (by omega)).trans (show _ = Value.pointer (some ⟨a.pb, 0, none⟩) from by simp [upd, e0, e3])]; first | rfl | simp [go_sem]) fun F1 => ?_
  refine lyp F1 rfl HCC rfl (by omega) (wanted_none rfl) (v := Value.pointer (some ⟨a.pb, 0, none⟩)) (fun wr hwr => by simp only [execOp, (F1.eval 0 (by omega)).trans (show _ = Value.pointer (some ⟨a.pb, 0, none⟩) from by simp [upd, e0, e3])]; first | rfl | simp [go_sem]) fun F2 => ?_
  refine lyp F2 rfl HCC rfl (by omega) (wanted_none rfl) (v := Value.pointer (some ⟨a.pb, 0, none⟩)) (fun wr hwr => by simp only [execOp, (F2.eval 45 (by omega)).trans (show _ = Value.pointer (some ⟨a.pb, 0, none⟩) from by simp [upd, e0, e3])]; simp [go_sem]) fun F3 => ?_
  refine lyp F3 rfl HCC rfl (by omega) (wanted_none rfl) (v := Value.pointer (some ⟨a.pb, 8, none⟩)) (fun wr hwr => by simp only [execOp, (F3.eval 46 (by omega)).trans (show _ = Value.pointer (some ⟨a.pb, 0, none⟩) from by simp [upd, e0, e3])]; simp [go_sem]) fun F4 => ?_
  refine lyp F4 rfl HCC rfl (by omega) (wanted_none rfl) (v := Value.slice aoW z1.wt.length capW) (fun wr hwr => by simp only [execOp, (F4.eval 47 (by omega)).trans (show _ = Value.pointer (some ⟨a.pb, 8, none⟩) from by simp [upd, e0, e3])]; simp [go_sem, hwr]) fun F5 => ?_
  refine lyp F5 rfl HCC rfl (by omega) (wanted_none rfl) (v := Value.slice ao ys.length cap) (fun wr hwr => by simp only [execOp, (F5.eval 3 (by omega)).trans (show _ = Value.slice ao ys.length cap from by simp [upd, e0, e3])]; first | rfl | simp [go_sem]) fun F6 => ?_
  have hrX := NZ.hs hAd.h (List.mem_append.2 (Or.inr (List.mem_append.2 (Or.inl HXI.out))))
  simp only at hrX
  obtain ⟨hnl, hsrc⟩ := row_src hrX
  obtain ⟨v5, w5, hrun, ho5, hg5⟩ := app_rows (w := ({ W2 with drawn := W2.drawn + 1 } : World)) 51 9 (.string ⟨#[]⟩) 1 16 Try.underlying51 info9 rfl (by decide) (by decide) (World.ownsRow_nil (({ W2 with drawn := W2.drawn + 1 } : World)) (({ W2 with drawn := W2.drawn + 1 } : World)).heap.size 9 1) (ao := ao) (m := ys.length) (cap := cap) (ys := flatS ys) hrX.1 hnl hsrc (fun u hu => by simp [flatS] at hu; obtain ⟨a, _, rfl⟩ := hu; rfl) (by have := HYL.out; omega) (Nat.le_refl _)
  rw [List.nil_append] at ho5
  obtain ⟨ao5, cap5, hv5, _⟩ := own_slice ho5
  subst hv5
  have hb5 : Below (({ W2 with drawn := W2.drawn + 1 } : World)).heap.size (({ W2 with drawn := W2.drawn + 1 } : World)) w5 := hg5.chg.below (Nat.le_refl _) (fun k e => by cases e)
  have hA5 := hAd.more hb5
  have hA5f := hA5.fresh (e := dsE a.S0 ⟨.slice ao5 (0 + ys.length) cap5, ys⟩) hb5 hAd (show World.ownsRow w5 a.S0 9 1 (.slice ao5 (0 + ys.length) cap5) ys.length (flatS ys) from by
    have := ownsRow_mono ho5 (Nat.le_trans HPN.out.low hAd.chg.size)
    rwa [Nat.zero_add] at this ⊢) (fun k hk => (ownsRow_lt ho5 hk).1)
  have HC5 : (fun wz => wz.cell? ⟨a.pb, 8, none⟩ = some (.slice aoW z1.wt.length capW)) w5 := (hA5.cell 8).trans (by rw [← HVW.out]; rfl)
  refine lep F6 rfl HCC rfl (by omega) (wanted_none rfl) (v := Value.slice ao5 (0 + ys.length) cap5) (w1 := w5) (by simp only [execOp, resolve, invoke, builtin, List.map_toArray, List.map_cons, List.map_nil, show ∀ a : Act, a.eval (Operand.const (Value.slice none 0 0)) = Value.slice none 0 0 from fun _ => rfl, (F6.eval 49 (by omega)).trans (show _ = Value.slice ao ys.length cap from by simp [upd, e0, e3])]; simp only [Sem.run_bind, Sem.run_pure, Result.andThen_ok, hrun]) fun F7 => ?_
  have hA6 := hA5f.more ((Below.refl w5.heap.size w5).alloc (Nat.le_refl _) (.cells #[.slice ao5 (0 + ys.length) cap5] 51))
  have HC6 : (fun wz => wz.cell? ⟨a.pb, 8, none⟩ = some (.slice aoW z1.wt.length capW)) (w5.alloc (.cells #[.slice ao5 (0 + ys.length) cap5] 51)) := (hA6.cell 8).trans (by rw [← HVW.out]; rfl)
  refine lep F7 rfl HC5 rfl (by omega) (wanted_none rfl) (v := Value.slice (some ⟨w5.heap.size, 0, none⟩) 1 1) (w1 := w5.alloc (.cells #[.slice ao5 (0 + ys.length) cap5] 51)) (by simp only [execOp, List.map_toArray, List.map_cons, List.map_nil, (F7.eval 50 (by omega)).trans (show _ = Value.slice ao5 (0 + ys.length) cap5 from by simp [upd, e0, e3])]; simp [go_sem]) fun F8 => ?_
  have hTw5 : Tail w5 a.S0 51 z1.vwt z1.wt.length (z1.wt.map DS.d) := NZ.h5 hA5.h
  obtain ⟨g7, off7, cap7, w7, hrun7, hT7, hc7, hu7⟩ := app_tail 63 51 (.slice none 0 0) 24 Try.underlying63 info51 rfl (by decide) hTw5 (.slice ao5 (0 + ys.length) cap5) rfl (by have := HNW.out; omega) (Nat.le_trans HPN.out.low hA5.chg.size)
  rw [HVW.out] at hrun7
  have hA7 := hA5f.wereS (u := .slice (some ⟨g7, off7, none⟩) (z1.wt.length + 1) cap7) hT7 hc7 hu7
  have HC7 : (fun wz => wz.cell? ⟨a.pb, 8, none⟩ = some (.slice aoW z1.wt.length capW)) w7 := (hA7.cell 8).trans (by rw [← HVW.out]; rfl)
  have hf7 := hA7.fz 8
  refine lep F8 rfl HC6 rfl (by omega) (wanted_none rfl) (v := Value.slice (some ⟨g7, off7, none⟩) (z1.wt.length + 1) cap7) (w1 := w7) (by simp only [execOp, resolve, invoke, builtin, List.map_toArray, List.map_cons, List.map_nil, (F8.eval 48 (by omega)).trans (show _ = Value.slice aoW z1.wt.length capW from by simp [upd, e0, e3]), (F8.eval 51 (by omega)).trans (show _ = Value.slice (some ⟨w5.heap.size, 0, none⟩) 1 1 from by simp [upd, e0, e3])]; simp only [Sem.run_bind, Sem.run_pure, Result.andThen_ok, hrun7]) fun F9 => ?_
  refine lyp F9 rfl HC7 rfl (by omega) (wanted_none rfl) (v := Value.pointer (some ⟨a.pb, 0, none⟩)) (fun wr hwr => by simp only [execOp, (F9.eval 44 (by omega)).trans (show _ = Value.pointer (some ⟨a.pb, 0, none⟩) from by simp [upd, e0, e3])]; simp [go_sem]) fun F10 => ?_
  refine lyp F10 rfl HC7 rfl (by omega) (wanted_none rfl) (v := Value.pointer (some ⟨a.pb, 8, none⟩)) (fun wr hwr => by simp only [execOp, (F10.eval 53 (by omega)).trans (show _ = Value.pointer (some ⟨a.pb, 0, none⟩) from by simp [upd, e0, e3])]; simp [go_sem]) fun F11 => ?_
  refine lst rfl HC7 rfl (wanted_none rfl) (w1 := w7.setCell ⟨a.pb, 8, none⟩ (.slice (some ⟨g7, off7, none⟩) (z1.wt.length + 1) cap7)) (by simp only [execOp, (F11.eval 54 (by omega)).trans (show _ = Value.pointer (some ⟨a.pb, 8, none⟩) from by simp [upd, e0, e3]), (F11.eval 52 (by omega)).trans (show _ = Value.slice (some ⟨g7, off7, none⟩) (z1.wt.length + 1) cap7 from by simp [upd, e0, e3])]; simp [go_sem, hf7, show w7.cell? ⟨a.pb, 8, none⟩ = some (.slice aoW z1.wt.length capW) from HC7]) ?_
  refine ⟨fun h => by omega, ?_⟩
  clear F0 F1 F2 F3 F4 F5 F6 F7 F8 F9 F10 F11 e0 e3 HCC HC5 HC6 HC7 hrun hrun7
  simp only [Act.put, List.setIfInBounds_toArray, List.set_cons_succ, List.set_cons_zero]
  obtain ⟨z2, hz2⟩ : ∃ z2 : NZ, z2 = { z1 with vwt := .slice (some ⟨g7, off7, none⟩) (z1.wt.length + 1) cap7, wt := z1.wt ++ [⟨.slice ao5 (0 + ys.length) cap5, ys⟩] } := ⟨_, rfl⟩
  have hA8 : AS a kl wl KL WL WL own0 w (z2.box a (mk + 1)) (z2.ents a.S0) (w7.setCell ⟨a.pb, 8, none⟩ (.slice (some ⟨g7, off7, none⟩) (z1.wt.length + 1) cap7)) := by
    rw [hz2]
    exact hA7.set 8 (.slice (some ⟨g7, off7, none⟩) (z1.wt.length + 1) cap7)
  have hF2 : NFull z2 := by
    rw [hz2, HZ1.out]
    exact HFL.out.putS HYL.out hn3 _ _ _ _
  rw [HO0.out] at hA8
  have HFIN : Hid _ := HPN.out.back hA8 hF2
  have HLN2 : Hid (z2.lt.length ≤ z.lt.length + 1 ∧ z2.lc.length ≤ z.lc.length + 1) := show _ ∧ _ from by rw [hz2, HZ1.out]; simp
  clear hA5 hA5f hA6 hA7 hT7 hc7 hu7 hTw5 hAd hrX hnl hsrc ho5 hg5 hb5 hf7 hA8 hF2 hz2
  go_wp2_with fail
  go_ret
  exact ⟨rfl, z2, HFIN.out.1, HFIN.out.2, HLN2.out⟩
set_option maxRecDepth 100000 in
set_option maxHeartbeats 6400000 in
theorem asked_left (a : PA) (s : PV) (w : World) (h : PN a s w) (hLK : s.KL.length ≤ 1000) (hLW : s.WL.length ≤ 1000) (hnd : (s.WL.map (·.1)).Nodup) (hmk : 0 ≤ s.mark ∧ s.mark ≤ 100000) (hn3 : s.z.lc.length + 1 ≤ 1000) (hm3 : ¬ (s.mark + 1) % 3 = 0) :
    Calls Try.prog 60 #[.pointer (some ⟨a.pb, 0, none⟩)] w fun e w' => e = .returned (.bool true) ∧ ∃ z', PN a { s with mark := s.mark + 1, z := z' } w' ∧ PStp a s { s with mark := s.mark + 1, z := z' } w w' ∧ z'.lt.length ≤ s.z.lt.length + 1 ∧ z'.lc.length ≤ s.z.lc.length + 1 := by
  obtain ⟨kl, wl, KL, WL, mk, z⟩ := s
  simp only at hLK hLW hnd hmk hn3 hm3
  have HPN : Hid (PN a ⟨kl, wl, KL, WL, mk, z⟩ w) := h
  have p0 : w.cell? ⟨a.pb, 0, none⟩ = some (.pointer (some ⟨a.hb, 0, none⟩)) := h.p.cell 0
  have HA : Hid _ := asked_any w h.t (show WL.length ≤ 100000 by omega)
  have hKN : (KNm a.rep KL).map (·.1) = KL := by unfold KNm; rw [List.map_map]; exact List.map_id _
  go_enter Try.func60, Try.ntmps60
  go_wp2_with fail
  refine Calls.mono HA.out ?_
  rintro e w1 ⟨v, ys, rfl, h1, h2, h3, h4⟩
  have hp : ys.Perm (WL.map (·.1)) := h1
  have hst := strictC h2 (hp.nodup_iff.2 hnd)
  have hyl : ys.length ≤ 1000 := by rw [hp.length_eq]; simp; omega
  have HR1 : Hid _ := rasked_any w1 (h.r.more h4) (show WL.length ≤ 100000 by omega) hp hst
  have p1 : w1.cell? ⟨a.pb, 1, none⟩ = some (.pointer (some ⟨a.rb, 0, none⟩)) := (Blk.below h.p h4 (Blk.lt h.p)).cell 1
  have H3 : Hid (World.ownsRow w1 w.heap.size 37 2 v ys.length (flatC ys)) := h3
  have H4 : Hid (Below w.heap.size w w1) := h4
  have HYL : Hid (ys.length ≤ 1000) := hyl
  obtain ⟨ao, cap, hv, hncap⟩ := own_slice h3
  subst hv
  have hcapm : cap ≤ maxLen := by obtain ⟨_, _, e, _, h, _⟩ := own_read h3; cases e; exact h
  unfold maxLen at hcapm
  clear HA h1 h2 h3 h4 hp hst h p0 hKN hnd
  go_wp2_with fail
  refine Calls.mono HR1.out ?_
  rintro e w2 ⟨vr, rfl, hr2, hb2⟩
  have hrow2 : World.ownsRow w2 w.heap.size 37 2 (.slice ao ys.length cap) ys.length (flatC ys) := ownsRow_same H3.out (fun g e => hb2.block g (ownsRow_lt H3.out e).2)
  have hsm := sameC_any hrow2 hr2 (by have := HYL.out; omega)
  rw [show decide (ys = ys) = true from decide_eq_true rfl] at hsm
  have HSM : Hid _ := hsm
  have HB2 : Hid (Below w.heap.size w w2) := H4.out.trans (hb2.mono H4.out.size)
  have HRW : Hid (World.ownsRow w2 w.heap.size 37 2 (.slice ao ys.length cap) ys.length (flatC ys)) := hrow2
  obtain ⟨aor, capr, hvr, _⟩ := own_slice hr2
  subst hvr
  clear hr2 hb2 hrow2 HR1 p1 hsm H3 H4
  go_wp2_with fail
  refine Calls.mono HSM.out ?_
  rintro e w3 ⟨rfl, hb3⟩
  have hb03 : Below w.heap.size w w3 := HB2.out.trans (hb3.mono HB2.out.size)
  have hr3 : World.ownsRow w3 w.heap.size 37 2 (.slice ao ys.length cap) ys.length (flatC ys) := ownsRow_same HRW.out (fun g e => hb3.block g (ownsRow_lt HRW.out e).2)
  have hA0 := HPN.out.as
  have hA3 := (hA0.more hb03).fresh (e := dcE a.S0 ⟨.slice ao ys.length cap, ys⟩) hb03 hA0 (show World.ownsRow w3 a.S0 37 2 _ _ _ from ownsRow_mono hr3 HPN.out.low) (fun k hk => (ownsRow_lt hr3 hk).1)
  simp only at hA3
  have c5 : w3.cell? ⟨a.pb, 5, none⟩ = some (.int .i64 mk) := hA3.cell 5
  have f5 := hA3.fz 5
  obtain ⟨own0, ho0⟩ : ∃ own0, own0 = a.own ⟨kl, wl, KL, WL, mk, z⟩ := ⟨_, rfl⟩
  rw [← ho0] at hA3
  have HO0 : Hid (own0 = a.own ⟨kl, wl, KL, WL, mk, z⟩) := ho0
  obtain ⟨X, hX⟩ : ∃ X, X = w3.setCell ⟨a.pb, 5, none⟩ (.int .i64 (mk + 1)) := ⟨_, rfl⟩
  have HSX : Hid (AS a kl wl KL WL WL own0 w (z.box a (mk + 1)) (dcE a.S0 ⟨.slice ao ys.length cap, ys⟩ :: z.ents a.S0) X) := show AS a kl wl KL WL WL own0 w (z.box a (mk + 1)) _ X from by rw [hX]; exact hA3.set 5 (.int .i64 (mk + 1))
  have x5 : X.cell? ⟨a.pb, 5, none⟩ = some (.int .i64 (mk + 1)) := HSX.out.cell 5
  have hwm : IntKind.i64.wrap (mk + 1) = mk + 1 := by rw [IntKind.wrap_i64]; omega
  have htm : (mk + 1).tmod 3 = (mk + 1) % 3 := Int.tmod_eq_emod_of_nonneg (by omega)
  have HFL : Hid (NFull z) := HPN.out.f
  clear hb03 hr3 hA0 hA3 HSM HRW HB2 hb3 ho0
  go_upto_region 4 with fail
  rw [← hX]
  clear hX c5 f5
  have hxS : a.S0 ≤ X.heap.size := Nat.le_trans HPN.out.low HSX.out.chg.size
  have hTl : Tail X a.S0 45 z.vlc z.lc.length (z.lc.map DC.d) := HSX.out.h.all (z.e6 a.S0) (List.mem_cons_of_mem _ (by simp [NZ.ents]))
  obtain ⟨aoL, capL, hvL, _⟩ := tail_form hTl
  obtain ⟨gL, offL, ccL, WL1, hrunL, hTL, hcL, huL⟩ := app_tail 64 45 (.slice none 0 0) 24 Try.underlying64 info45 rfl (by decide) hTl (.slice ao ys.length cap) rfl (by omega) hxS
  have hA4 := HSX.out.leftC (u := .slice (some ⟨gL, offL, none⟩) (z.lc.length + 1) ccL) hTL hcL huL
  have z7 : WL1.cell? ⟨a.pb, 9, none⟩ = some z.vlc := hA4.cell 9
  have f7 := hA4.fz 9
  have x7 : X.cell? ⟨a.pb, 9, none⟩ = some z.vlc := HSX.out.cell 9
  obtain ⟨W2, hW2⟩ : ∃ W2, W2 = WL1.setCell ⟨a.pb, 9, none⟩ (.slice (some ⟨gL, offL, none⟩) (z.lc.length + 1) ccL) := ⟨_, rfl⟩
  obtain ⟨z1, hz1⟩ : ∃ z1 : NZ, z1 = { z with vlc := .slice (some ⟨gL, offL, none⟩) (z.lc.length + 1) ccL, lc := z.lc ++ [⟨.slice ao ys.length cap, ys⟩] } := ⟨_, rfl⟩
  have HS2 : Hid (AS a kl wl KL WL WL own0 w (z1.box a (mk + 1)) (z1.ents a.S0) W2) := show AS a kl wl KL WL WL own0 w (z1.box a (mk + 1)) (z1.ents a.S0) W2 from by
    rw [hW2, hz1]
    exact hA4.set 9 (.slice (some ⟨gL, offL, none⟩) (z.lc.length + 1) ccL)
  rw [hvL] at x7 z7 hrunL
  have HRL : Hid (∀ ty, (Builtin.append_ #[64, 64] ty #[.slice aoL z.lc.length capL, .slice (some ⟨X.heap.size, 0, none⟩) 1 1]).run Try.prog (X.alloc (.cells #[.slice ao ys.length cap] 45)) = .ok (.slice (some ⟨gL, offL, none⟩) (z.lc.length + 1) ccL) WL1) := hrunL
  have HXI : Hid ((⟨.slice ao ys.length cap, ys⟩ : DC) ∈ z1.lc) := show _ ∈ z1.lc from by rw [hz1]; simp
  have HZ1 : Hid (z1 = { z with vlc := .slice (some ⟨gL, offL, none⟩) (z.lc.length + 1) ccL, lc := z.lc ++ [⟨.slice ao ys.length cap, ys⟩] }) := hz1
  clear hxS hTl hTL hcL huL hA4 hrunL hz1 hvL
  go_upto_region 6 with (at_builtin; refine wpList_runs rfl _ _ 64 rfl rfl rfl HRL.out ?_)
  rw [← hW2]
  clear hW2 z7 f7 x7 x5 HRL HSX
  have hTw : Tail W2 a.S0 45 z1.vwc z1.wc.length (z1.wc.map DC.d) := NZ.h7 HS2.out.h
  obtain ⟨aoW, capW, hvW, _⟩ := tail_form hTw
  have HTW : Hid _ := hTw
  have HVW : Hid (z1.vwc = .slice aoW z1.wc.length capW) := hvW
  have HNW : Hid (z1.wc.length ≤ 1000) := show z1.wc.length ≤ 1000 from by
    rw [HZ1.out]
    have h1 := congrArg List.length HFL.out.wc1
    simp at h1
    simp only
    omega
  clear hTw hvW
  go_wp2_with fail
  try rw [show ∀ a : Act, a.put none undef = a from fun _ => rfl]
  refine wp_region_mix (fun wz => wz.cell? ⟨a.pb, 10, none⟩ = some (.slice aoW z1.wc.length capW)) (fun i => i == 6 || i == 7 || i == 8 || i == 11) 11 (by kernel_rfl) rfl (by kernel_rfl) (by kernel_rfl) (by kernel_rfl) ?_
  refine withFrP (N := 139) rfl ?_
  intro f0 F0 hff
  have e0 : f0 0 = Value.pointer (some ⟨a.pb, 0, none⟩) := hff 0
  have e3 : f0 3 = Value.slice ao ys.length cap := hff 3
  clear hff
  have hAd : AS a kl wl KL WL WL own0 w (z1.box a (mk + 1)) (z1.ents a.S0) (({ W2 with drawn := W2.drawn + 1 } : World)) := HS2.out.more (Below.drew (Below.refl _ _))
  have HCC : (fun wz => wz.cell? ⟨a.pb, 10, none⟩ = some (.slice aoW z1.wc.length capW)) (({ W2 with drawn := W2.drawn + 1 } : World)) := (hAd.cell 10).trans (by rw [← HVW.out]; rfl)
  refine lyp F0 rfl HCC rfl (by omega) (wanted_none rfl) (v := Value.pointer (some ⟨a.pb, 0, none⟩)) (fun wr hwr => by simp only [execOp, (F0.eval 0 (by omega)).trans (show _ = Value.pointer (some ⟨a.pb, 0, none⟩) from by simp [upd, e0, e3])]; first | rfl | simp [go_sem]) fun F1 => ?_
  refine lyp F1 rfl HCC rfl (by omega) (wanted_none rfl) (v := Value.pointer (some ⟨a.pb, 0, none⟩)) (fun wr hwr => by simp only [execOp, (F1.eval 0 (by omega)).trans (show _ = Value.pointer (some ⟨a.pb, 0, none⟩) from by simp [upd, e0, e3])]; first | rfl | simp [go_sem]) fun F2 => ?_
  refine lyp F2 rfl HCC rfl (by omega) (wanted_none rfl) (v := Value.pointer (some ⟨a.pb, 0, none⟩)) (fun wr hwr => by simp only [execOp, (F2.eval 44 (by omega)).trans (show _ = Value.pointer (some ⟨a.pb, 0, none⟩) from by simp [upd, e0, e3])]; simp [go_sem]) fun F3 => ?_
  refine lyp F3 rfl HCC rfl (by omega) (wanted_none rfl) (v := Value.pointer (some ⟨a.pb, 10, none⟩)) (fun wr hwr => by simp only [execOp, (F3.eval 45 (by omega)).trans (show _ = Value.pointer (some ⟨a.pb, 0, none⟩) from by simp [upd, e0, e3])]; simp [go_sem]) fun F4 => ?_
  refine lyp F4 rfl HCC rfl (by omega) (wanted_none rfl) (v := Value.slice aoW z1.wc.length capW) (fun wr hwr => by simp only [execOp, (F4.eval 46 (by omega)).trans (show _ = Value.pointer (some ⟨a.pb, 10, none⟩) from by simp [upd, e0, e3])]; simp [go_sem, hwr]) fun F5 => ?_
  refine lyp F5 rfl HCC rfl (by omega) (wanted_none rfl) (v := Value.slice ao ys.length cap) (fun wr hwr => by simp only [execOp, (F5.eval 3 (by omega)).trans (show _ = Value.slice ao ys.length cap from by simp [upd, e0, e3])]; first | rfl | simp [go_sem]) fun F6 => ?_
  have hrX := NZ.hc hAd.h (List.mem_append.2 (Or.inr (List.mem_append.2 (Or.inl HXI.out))))
  simp only at hrX
  obtain ⟨hnl, hsrc⟩ := row_src hrX
  obtain ⟨v5, w5, hrun, ho5, hg5⟩ := app_rows (w := ({ W2 with drawn := W2.drawn + 1 } : World)) 45 37 (.agg #[.int .i64 0, .int .i64 0]) 2 16 Try.underlying45 info37 rfl (by decide) (by decide) (World.ownsRow_nil (({ W2 with drawn := W2.drawn + 1 } : World)) (({ W2 with drawn := W2.drawn + 1 } : World)).heap.size 37 2) (ao := ao) (m := ys.length) (cap := cap) (ys := flatC ys) hrX.1 hnl hsrc (fun u hu => by simp [flatC] at hu; rcases hu with ⟨a, b, _, rfl | rfl⟩ <;> rfl) (by have := HYL.out; omega) (Nat.le_refl _)
  rw [List.nil_append] at ho5
  obtain ⟨ao5, cap5, hv5, _⟩ := own_slice ho5
  subst hv5
  have hb5 : Below (({ W2 with drawn := W2.drawn + 1 } : World)).heap.size (({ W2 with drawn := W2.drawn + 1 } : World)) w5 := hg5.chg.below (Nat.le_refl _) (fun k e => by cases e)
  have hA5 := hAd.more hb5
  have hA5f := hA5.fresh (e := dcE a.S0 ⟨.slice ao5 (0 + ys.length) cap5, ys⟩) hb5 hAd (show World.ownsRow w5 a.S0 37 2 (.slice ao5 (0 + ys.length) cap5) ys.length (flatC ys) from by
    have := ownsRow_mono ho5 (Nat.le_trans HPN.out.low hAd.chg.size)
    rwa [Nat.zero_add] at this ⊢) (fun k hk => (ownsRow_lt ho5 hk).1)
  have HC5 : (fun wz => wz.cell? ⟨a.pb, 10, none⟩ = some (.slice aoW z1.wc.length capW)) w5 := (hA5.cell 10).trans (by rw [← HVW.out]; rfl)
  refine lep F6 rfl HCC rfl (by omega) (wanted_none rfl) (v := Value.slice ao5 (0 + ys.length) cap5) (w1 := w5) (by simp only [execOp, resolve, invoke, builtin, List.map_toArray, List.map_cons, List.map_nil, show ∀ a : Act, a.eval (Operand.const (Value.slice none 0 0)) = Value.slice none 0 0 from fun _ => rfl, (F6.eval 48 (by omega)).trans (show _ = Value.slice ao ys.length cap from by simp [upd, e0, e3])]; simp only [Sem.run_bind, Sem.run_pure, Result.andThen_ok, hrun]) fun F7 => ?_
  have hA6 := hA5f.more ((Below.refl w5.heap.size w5).alloc (Nat.le_refl _) (.cells #[.slice ao5 (0 + ys.length) cap5] 45))
  have HC6 : (fun wz => wz.cell? ⟨a.pb, 10, none⟩ = some (.slice aoW z1.wc.length capW)) (w5.alloc (.cells #[.slice ao5 (0 + ys.length) cap5] 45)) := (hA6.cell 10).trans (by rw [← HVW.out]; rfl)
  refine lep F7 rfl HC5 rfl (by omega) (wanted_none rfl) (v := Value.slice (some ⟨w5.heap.size, 0, none⟩) 1 1) (w1 := w5.alloc (.cells #[.slice ao5 (0 + ys.length) cap5] 45)) (by simp only [execOp, List.map_toArray, List.map_cons, List.map_nil, (F7.eval 49 (by omega)).trans (show _ = Value.slice ao5 (0 + ys.length) cap5 from by simp [upd, e0, e3])]; simp [go_sem]) fun F8 => ?_
  have hTw5 : Tail w5 a.S0 45 z1.vwc z1.wc.length (z1.wc.map DC.d) := NZ.h7 hA5.h
  obtain ⟨g7, off7, cap7, w7, hrun7, hT7, hc7, hu7⟩ := app_tail 64 45 (.slice none 0 0) 24 Try.underlying64 info45 rfl (by decide) hTw5 (.slice ao5 (0 + ys.length) cap5) rfl (by have := HNW.out; omega) (Nat.le_trans HPN.out.low hA5.chg.size)
  rw [HVW.out] at hrun7
  have hA7 := hA5f.wereC (u := .slice (some ⟨g7, off7, none⟩) (z1.wc.length + 1) cap7) hT7 hc7 hu7
  have HC7 : (fun wz => wz.cell? ⟨a.pb, 10, none⟩ = some (.slice aoW z1.wc.length capW)) w7 := (hA7.cell 10).trans (by rw [← HVW.out]; rfl)
  have hf7 := hA7.fz 10
  refine lep F8 rfl HC6 rfl (by omega) (wanted_none rfl) (v := Value.slice (some ⟨g7, off7, none⟩) (z1.wc.length + 1) cap7) (w1 := w7) (by simp only [execOp, resolve, invoke, builtin, List.map_toArray, List.map_cons, List.map_nil, (F8.eval 47 (by omega)).trans (show _ = Value.slice aoW z1.wc.length capW from by simp [upd, e0, e3]), (F8.eval 50 (by omega)).trans (show _ = Value.slice (some ⟨w5.heap.size, 0, none⟩) 1 1 from by simp [upd, e0, e3])]; simp only [Sem.run_bind, Sem.run_pure, Result.andThen_ok, hrun7]) fun F9 => ?_
  refine lyp F9 rfl HC7 rfl (by omega) (wanted_none rfl) (v := Value.pointer (some ⟨a.pb, 0, none⟩)) (fun wr hwr => by simp only [execOp, (F9.eval 43 (by omega)).trans (show _ = Value.pointer (some ⟨a.pb, 0, none⟩) from by simp [upd, e0, e3])]; simp [go_sem]) fun F10 => ?_
  refine lyp F10 rfl HC7 rfl (by omega) (wanted_none rfl) (v := Value.pointer (some ⟨a.pb, 10, none⟩)) (fun wr hwr => by simp only [execOp, (F10.eval 52 (by omega)).trans (show _ = Value.pointer (some ⟨a.pb, 0, none⟩) from by simp [upd, e0, e3])]; simp [go_sem]) fun F11 => ?_
  refine lst rfl HC7 rfl (wanted_none rfl) (w1 := w7.setCell ⟨a.pb, 10, none⟩ (.slice (some ⟨g7, off7, none⟩) (z1.wc.length + 1) cap7)) (by simp only [execOp, (F11.eval 53 (by omega)).trans (show _ = Value.pointer (some ⟨a.pb, 10, none⟩) from by simp [upd, e0, e3]), (F11.eval 51 (by omega)).trans (show _ = Value.slice (some ⟨g7, off7, none⟩) (z1.wc.length + 1) cap7 from by simp [upd, e0, e3])]; simp [go_sem, hf7, show w7.cell? ⟨a.pb, 10, none⟩ = some (.slice aoW z1.wc.length capW) from HC7]) ?_
  refine ⟨fun h => by omega, ?_⟩
  clear F0 F1 F2 F3 F4 F5 F6 F7 F8 F9 F10 F11 e0 e3 HCC HC5 HC6 HC7 hrun hrun7
  simp only [Act.put, List.setIfInBounds_toArray, List.set_cons_succ, List.set_cons_zero]
  obtain ⟨z2, hz2⟩ : ∃ z2 : NZ, z2 = { z1 with vwc := .slice (some ⟨g7, off7, none⟩) (z1.wc.length + 1) cap7, wc := z1.wc ++ [⟨.slice ao5 (0 + ys.length) cap5, ys⟩] } := ⟨_, rfl⟩
  have hA8 : AS a kl wl KL WL WL own0 w (z2.box a (mk + 1)) (z2.ents a.S0) (w7.setCell ⟨a.pb, 10, none⟩ (.slice (some ⟨g7, off7, none⟩) (z1.wc.length + 1) cap7)) := by
    rw [hz2]
    exact hA7.set 10 (.slice (some ⟨g7, off7, none⟩) (z1.wc.length + 1) cap7)
  have hF2 : NFull z2 := by
    rw [hz2, HZ1.out]
    exact HFL.out.putC HYL.out hn3 _ _ _ _
  rw [HO0.out] at hA8
  have HFIN : Hid _ := HPN.out.back hA8 hF2
  have HLN2 : Hid (z2.lt.length ≤ z.lt.length + 1 ∧ z2.lc.length ≤ z.lc.length + 1) := show _ ∧ _ from by rw [hz2, HZ1.out]; simp
  clear hA5 hA5f hA6 hA7 hT7 hc7 hu7 hTw5 hAd hrX hnl hsrc ho5 hg5 hb5 hf7 hA8 hF2 hz2
  go_wp2_with fail
  go_ret
  exact ⟨rfl, z2, HFIN.out.1, HFIN.out.2, HLN2.out⟩
end Go.Proofs.Ytbjlaloofpdbfaa
