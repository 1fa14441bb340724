import Derived.Test.YtadfmnlkfcigoaaFil
import Derived.Deep.Cut
namespace Go.Proofs.Ytadfmnlkfcigoaa
open Go.RowKit Go.PlainAid
set_option linter.unusedVariables false
set_option linter.unusedSimpArgs false
set_option maxRecDepth 100000 in
set_option maxHeartbeats 6400000 in
theorem pending_full (a : PA) (s : PV) (w : World) (h : PN a s w) (hLW : s.x.op.length ≤ 1000) (hmk : 0 ≤ s.mark ∧ s.mark ≤ 100000) (hn3 : s.z.lc.length + 1 ≤ 1000) (hm3 : (s.mark + 1) % 3 = 0) :
    Calls Try.prog 32 #[.pointer (some ⟨a.pb, 0, none⟩)] w fun e w' => e = .returned (.bool true) ∧ ∃ z', PN a { s with mark := s.mark + 1, z := z' } w' ∧ PStp a s { s with mark := s.mark + 1, z := z' } w w' ∧ z'.lc.length ≤ s.z.lc.length + 1 := by
  obtain ⟨s0x, s0r, mk, z⟩ := s
  simp only at hLW hmk hn3 hm3
  have HPN : Hid (PN a ⟨s0x, s0r, mk, z⟩ w) := h
  have p0 : w.cell? ⟨a.pb, 0, none⟩ = some (.pointer (some ⟨a.ca.cb, 0, none⟩)) := h.box.cell 0
  have HA : Hid _ := pending_any w h.cm (show s0x.op.length ≤ 100000 by omega)
  go_enter Try.func32, Try.ntmps32
  go_wp2_with fail
  refine Calls.mono HA.out ?_
  rintro e w1 ⟨v, ys, rfl, h1, h2, h3, h4⟩
  have hp : ys.Perm s0x.op := h1
  have hst := strictC h2 (hp.nodup_iff.2 h.g.opn)
  have hyl : ys.length ≤ 1000 := by rw [hp.length_eq]; omega
  have HR1 : Hid _ := rpending_any w1 (h.rc.more h4) (show s0r.op.length ≤ 100000 by rw [h.g.op]; simp only; omega) (show ys.Perm s0r.op by rw [h.g.op]; exact hp) hst
  have p1 : w1.cell? ⟨a.pb, 1, none⟩ = some (.pointer (some ⟨a.rb, 0, none⟩)) := (Blk.below h.box h4 (Blk.lt h.box)).cell 1
  have H3 : Hid (World.ownsRow w1 w.heap.size 32 2 v ys.length (flatC ys)) := h3
  have H4 : Hid (Below w.heap.size w w1) := h4
  have HYL : Hid (ys.length ≤ 1000) := hyl
  obtain ⟨ao, cap, hv, hncap⟩ := own_slice h3
  subst hv
  have hcapm : cap ≤ maxLen := by obtain ⟨_, _, e, _, h, _⟩ := own_read h3; cases e; exact h
  unfold maxLen at hcapm
  clear HA h1 h2 h3 h4 hp hst h p0
  go_wp2_with fail
  refine Calls.mono HR1.out ?_
  rintro e w2 ⟨vr, rfl, hr2, hb2⟩
  have hrow2 : World.ownsRow w2 w.heap.size 32 2 (.slice ao ys.length cap) ys.length (flatC ys) := ownsRow_same H3.out (fun g e => hb2.block g (ownsRow_lt H3.out e).2)
  have hsm := sameC_any hrow2 hr2 (by have := HYL.out; omega)
  rw [show decide (ys = ys) = true from decide_eq_true rfl] at hsm
  have HSM : Hid _ := hsm
  have HB2 : Hid (Below w.heap.size w w2) := H4.out.trans (hb2.mono H4.out.size)
  have HRW : Hid (World.ownsRow w2 w.heap.size 32 2 (.slice ao ys.length cap) ys.length (flatC ys)) := hrow2
  obtain ⟨aor, capr, hvr, _⟩ := own_slice hr2
  subst hvr
  clear hr2 hb2 hrow2 HR1 p1 hsm H3 H4
  go_wp2_with fail
  refine Calls.mono HSM.out ?_
  rintro e w3 ⟨rfl, hb3⟩
  have hb03 : Below w.heap.size w w3 := HB2.out.trans (hb3.mono HB2.out.size)
  have hr3 : World.ownsRow w3 w.heap.size 32 2 (.slice ao ys.length cap) ys.length (flatC ys) := ownsRow_same HRW.out (fun g e => hb3.block g (ownsRow_lt HRW.out e).2)
  have hA0 : AP (boxE a.L a.pb (pairV a.ca.cb a.rb mk z) 57 :: [cmE a.L a.ca s0x, rcE a.L a.ca a.rb s0r]) (has (a.ents ⟨s0x, s0r, mk, z⟩)) w (z.ents a.L) w := HPN.out.as
  have hA3 := hA0.fresh (e := dcE a.L ⟨.slice ao ys.length cap, ys⟩) hb03 (show World.ownsRow w3 a.L 32 2 _ _ _ from ownsRow_mono hr3 HPN.out.lo) (fun k hk => (ownsRow_lt hr3 hk).1)
  have c5 : w3.cell? ⟨a.pb, 4, none⟩ = some (.int .i64 mk) := hA3.cell 4
  have f5 := hA3.fz 4
  obtain ⟨own0, ho0⟩ : ∃ own0, own0 = has (a.ents ⟨s0x, s0r, mk, z⟩) := ⟨_, rfl⟩
  rw [← ho0] at hA3
  have HO0 : Hid (own0 = has (a.ents ⟨s0x, s0r, mk, z⟩)) := ho0
  obtain ⟨X, hX⟩ : ∃ X, X = w3.setCell ⟨a.pb, 4, none⟩ (.int .i64 (mk + 1)) := ⟨_, rfl⟩
  have HSX : Hid (AP (boxE a.L a.pb (pairV a.ca.cb a.rb (mk + 1) z) 57 :: [cmE a.L a.ca s0x, rcE a.L a.ca a.rb s0r]) own0 w (dcE a.L ⟨.slice ao ys.length cap, ys⟩ :: z.ents a.L) X) := show AP (boxE a.L a.pb (pairV a.ca.cb a.rb (mk + 1) z) 57 :: [cmE a.L a.ca s0x, rcE a.L a.ca a.rb s0r]) own0 w _ X from by rw [hX]; exact hA3.set 4 (.int .i64 (mk + 1))
  have x5 : X.cell? ⟨a.pb, 4, none⟩ = some (.int .i64 (mk + 1)) := HSX.out.cell 4
  have hwm : IntKind.i64.wrap (mk + 1) = mk + 1 := by rw [IntKind.wrap_i64]; omega
  have htm : (mk + 1).tmod 3 = (mk + 1) % 3 := Int.tmod_eq_emod_of_nonneg (by omega)
  have HFL : Hid (NFull z) := HPN.out.f
  clear hb03 hr3 hA0 hA3 HSM HRW HB2 hb3 ho0
  go_upto_region 4 with fail
  rw [← hX]
  clear hX c5 f5
  obtain ⟨X1, hX1⟩ : ∃ X1, X1 = X := ⟨_, rfl⟩
  subst hX1
  have HSY : Hid _ := HSX.out
  clear HSX
  go_wp2_with fail
  go_loopw [5] (fun si wr => ∃ k : Nat, k ≤ ys.length ∧ si = .int .i64 k ∧ AP (boxE a.L a.pb (pairV a.ca.cb a.rb (mk + 1) z) 57 :: [cmE a.L a.ca s0x, rcE a.L a.ca a.rb s0r]) own0 w (dcE a.L ⟨.slice ao ys.length cap, List.replicate k ((-(mk + 1), 0) : Int × Int) ++ ys.drop k⟩ :: z.ents a.L) wr) (fun si _ => ys.length - (intOf si).toNat)
  case atStart => exact ⟨0, by omega, rfl, HSY.out⟩
  case round =>
    obtain ⟨k, hk, rfl, hS⟩ := hrel
    clear HSY
    by_cases hlt : k < ys.length
    · have hrow : World.ownsRow wr a.L 32 2 (.slice ao ys.length cap) (List.replicate k ((-(mk + 1), 0) : Int × Int) ++ ys.drop k).length (flatC (List.replicate k ((-(mk + 1), 0) : Int × Int) ++ ys.drop k)) := hS.get (e := dcE a.L _) (List.mem_cons_self ..)
      rw [show (List.replicate k ((-(mk + 1), 0) : Int × Int) ++ ys.drop k).length = ys.length from by simp; omega] at hrow
      obtain ⟨g, hg⟩ : ∃ g, ao = some ⟨g, 0, none⟩ := by
        obtain ⟨_, _, e, _, _, h⟩ := own_read hrow
        cases e
        obtain ⟨g, e, _⟩ := h (by omega)
        exact ⟨g, e⟩
      subst hg
      have hst := fillC hrow hlt
      obtain ⟨hst1, hst2⟩ := hst
      have y5 : wr.cell? ⟨a.pb, 4, none⟩ = some (.int .i64 (mk + 1)) := hS.cell 4
      have HN := hS.writeC (x' := ⟨.slice (some ⟨g, 0, none⟩) ys.length cap, List.replicate (k + 1) ((-(mk + 1), 0) : Int × Int) ++ ys.drop (k + 1)⟩) rfl (show World.ownsRow _ a.L 32 2 (.slice (some ⟨g, 0, none⟩) ys.length cap) (List.replicate (k + 1) ((-(mk + 1), 0) : Int × Int) ++ ys.drop (k + 1)).length (flatC (List.replicate (k + 1) ((-(mk + 1), 0) : Int × Int) ++ ys.drop (k + 1))) from by rw [show (List.replicate (k + 1) ((-(mk + 1), 0) : Int × Int) ++ ys.drop (k + 1)).length = ys.length from by simp; omega]; exact hst1) hst2.1
      obtain ⟨f0, f1, u0, u1, k0, k1⟩ := hst2.2
      have HNN : Hid _ := HN
      clear hst1 hst2 hrow hS HN
      go_wp2_with fail
      go_roundw
      case rel => exact ⟨k + 1, by omega, by go_num, HNN.out⟩
      case measure => simp [intOf]; omega
    · obtain rfl : k = ys.length := by omega
      have hS2 : AP (boxE a.L a.pb (pairV a.ca.cb a.rb (mk + 1) z) 57 :: [cmE a.L a.ca s0x, rcE a.L a.ca a.rb s0r]) own0 w (dcE a.L ⟨.slice ao ys.length cap, List.replicate ys.length ((-(mk + 1), 0) : Int × Int)⟩ :: z.ents a.L) wr := by
        have := hS
        rwa [List.drop_of_length_le (Nat.le_refl _), List.append_nil] at this
      have HS2 : Hid _ := hS2
      have hMo : MoC (boxE a.L a.pb (pairV a.ca.cb a.rb (mk + 1) z) 57 :: [cmE a.L a.ca s0x, rcE a.L a.ca a.rb s0r]) w wr ⟨.slice ao ys.length cap, List.replicate ys.length ((-(mk + 1), 0) : Int × Int)⟩ (z.ents a.L) (.slice ao ys.length cap) (ys.length + 0) := ⟨⟨_, by have := hS2.get (e := dcE a.L ⟨.slice ao ys.length cap, List.replicate ys.length ((-(mk + 1), 0) : Int × Int)⟩) (List.mem_cons_self ..); have h9 : World.ownsRow wr a.L 32 2 (.slice ao ys.length cap) (List.replicate ys.length ((-(mk + 1), 0) : Int × Int)).length (flatC (List.replicate ys.length ((-(mk + 1), 0) : Int × Int))) := this; rw [List.length_replicate] at h9; exact h9⟩, fun k hk => Or.inl hk⟩
      have HMO : Hid _ := hMo
      obtain ⟨W0, hW0⟩ : ∃ W0, W0 = wr := ⟨wr, rfl⟩
      subst hW0
      clear hS hS2 hMo hlt hk
      go_wp2_with fail
      go_loopw [6, 7] (fun sm sj wr => ∃ j : Nat, j ≤ 80 ∧ sj = .int .i64 j ∧ AP (boxE a.L a.pb (pairV a.ca.cb a.rb (mk + 1) z) 57 :: [cmE a.L a.ca s0x, rcE a.L a.ca a.rb s0r]) own0 w (dcE a.L ⟨.slice ao ys.length cap, List.replicate ys.length ((-(mk + 1), 0) : Int × Int)⟩ :: z.ents a.L) wr ∧ MoC (boxE a.L a.pb (pairV a.ca.cb a.rb (mk + 1) z) 57 :: [cmE a.L a.ca s0x, rcE a.L a.ca a.rb s0r]) w wr ⟨.slice ao ys.length cap, List.replicate ys.length ((-(mk + 1), 0) : Int × Int)⟩ (z.ents a.L) sm (ys.length + j)) (fun _ sj _ => 80 - (intOf sj).toNat)
      case atStart => exact ⟨0, by omega, rfl, HS2.out, HMO.out⟩
      case round =>
        obtain ⟨j, hj, rfl, hS, hM⟩ := hrel
        clear HS2 HMO
        obtain ⟨zs0, hz0⟩ := hM.own
        obtain ⟨aom, capm, hvm, hcm⟩ := own_slice hz0
        subst hvm
        have hcapmm : capm ≤ maxLen := by obtain ⟨_, _, e, _, h, _⟩ := own_read hz0; cases e; exact h
        unfold maxLen at hcapmm
        by_cases hjl : j < 80
        · have y5 : wr.cell? ⟨a.pb, 4, none⟩ = some (.int .i64 (mk + 1)) := hS.cell 4
          have hal : Below wr.heap.size wr (wr.alloc (.cells #[.int .i64 (-1000000 - (mk + 1)), .int .i64 0] 32)) := (Below.refl _ _).alloc (Nat.le_refl _) _
          have hS1 := hS.more hal
          have hM1 : MoC (boxE a.L a.pb (pairV a.ca.cb a.rb (mk + 1) z) 57 :: [cmE a.L a.ca s0x, rcE a.L a.ca a.rb s0r]) w (wr.alloc (.cells #[.int .i64 (-1000000 - (mk + 1)), .int .i64 0] 32)) ⟨.slice ao ys.length cap, List.replicate ys.length ((-(mk + 1), 0) : Int × Int)⟩ (z.ents a.L) (.slice aom (ys.length + j) capm) (ys.length + j) := ⟨⟨_, World.ownsRow.alloc hz0 _⟩, hM.loc⟩
          obtain ⟨v6, w6, hr6, ho6, hg6, hin6⟩ := app_any (w := wr.alloc (.cells #[.int .i64 (-1000000 - (mk + 1)), .int .i64 0] 32)) 79 32 (.agg #[.int .i64 0, .int .i64 0]) 2 16 Try.underlying79 info32 rfl (by decide) (by decide) (World.ownsRow.alloc hz0 _) ⟨wr.heap.size, 0, none⟩ 1 1 [.int .i64 (-1000000 - (mk + 1)), .int .i64 0] rfl (fun q u hu => by
            have hB : Blk (wr.alloc (.cells #[.int .i64 (-1000000 - (mk + 1)), .int .i64 0] 32)) wr.heap.size #[.int .i64 (-1000000 - (mk + 1)), .int .i64 0] 32 := heap_alloc_new wr _
            rw [addr_add, Nat.zero_add, hB.cell q]
            simpa using hu) (fun u hu => by simp at hu; rcases hu with rfl | rfl <;> rfl) (by have := HYL.out; omega) (Nat.le_trans HPN.out.lo hS1.chg.size) 79
          obtain ⟨ao6, cap6, hv6, _⟩ := own_slice ho6
          subst hv6
          obtain ⟨hS2, hM2⟩ := hS1.growC hM1 (by simp) ho6 hg6 hin6
          have HR6 : Hid (∀ ty, (Builtin.append_ #[79, 79] ty #[.slice aom (ys.length + j) capm, .slice (some ⟨wr.heap.size, 0, none⟩) 1 1]).run Try.prog (wr.alloc (.cells #[.int .i64 (-1000000 - (mk + 1)), .int .i64 0] 32)) = .ok (.slice ao6 (ys.length + j + 1) cap6) w6) := fun ty => hr6
          have HS2 : Hid _ := hS2
          have HM2 : Hid (MoC (boxE a.L a.pb (pairV a.ca.cb a.rb (mk + 1) z) 57 :: [cmE a.L a.ca s0x, rcE a.L a.ca a.rb s0r]) w w6 ⟨.slice ao ys.length cap, List.replicate ys.length ((-(mk + 1), 0) : Int × Int)⟩ (z.ents a.L) (.slice ao6 (ys.length + j + 1) cap6) (ys.length + (j + 1))) := hM2
          clear hal hS1 hM1 hr6 ho6 hg6 hin6 hS2 hM2 hS hM hz0
          go_wp2_with (at_builtin; refine wpList_runs rfl _ _ 79 rfl rfl rfl HR6.out ?_)
          go_roundw
          case rel => exact ⟨j + 1, by omega, by go_num, HS2.out, HM2.out⟩
          case measure => simp [intOf]; omega
        · obtain rfl : j = 80 := by omega
          clear hM hz0 hjl hj
          have hwS : a.L ≤ wr.heap.size := Nat.le_trans HPN.out.lo hS.chg.size
          have hTl : Tail wr a.L 79 z.vcl z.kc.length (z.kc.map DC.d) := hS.get (e := z.e1 a.L) (by simp [NZ.ents])
          obtain ⟨aoL, capL, hvL, hcnL, _⟩ := tail_form hTl
          have hn4 := HFL.out.n2
          obtain ⟨gL, offL, ccL, WL1, hrunL, hTL, hcL, huL⟩ := app_tail 55 79 (.slice none 0 0) 24 Try.underlying55 info79 rfl (by decide) hTl (.slice ao ys.length cap) rfl (by omega) hwS
          have hA4 := hS.listsC (u := .slice (some ⟨gL, offL, none⟩) (z.kc.length + 1) ccL) hTL hcL huL
          have z7 : WL1.cell? ⟨a.pb, 2, none⟩ = some z.vcl := hA4.cell 2
          have f7 := hA4.fz 2
          have x7 : wr.cell? ⟨a.pb, 2, none⟩ = some z.vcl := hS.cell 2
          obtain ⟨W2, hW2⟩ : ∃ W2, W2 = WL1.setCell ⟨a.pb, 2, none⟩ (.slice (some ⟨gL, offL, none⟩) (z.kc.length + 1) ccL) := ⟨_, rfl⟩
          obtain ⟨z1, hz1⟩ : ∃ z1 : NZ, z1 = { z with vcl := .slice (some ⟨gL, offL, none⟩) (z.kc.length + 1) ccL, kc := z.kc ++ [⟨.slice ao ys.length cap, List.replicate ys.length ((-(mk + 1), 0) : Int × Int)⟩] } := ⟨_, rfl⟩
          have HS2 : Hid (AP (boxE a.L a.pb (pairV a.ca.cb a.rb (mk + 1) z1) 57 :: [cmE a.L a.ca s0x, rcE a.L a.ca a.rb s0r]) own0 w (z1.ents a.L) W2) := show AP (boxE a.L a.pb (pairV a.ca.cb a.rb (mk + 1) z1) 57 :: [cmE a.L a.ca s0x, rcE a.L a.ca a.rb s0r]) own0 w (z1.ents a.L) W2 from by
            rw [hW2, hz1]
            exact hA4.set 2 (.slice (some ⟨gL, offL, none⟩) (z.kc.length + 1) ccL)
          rw [hvL] at x7 z7 hrunL
          have HRL : Hid (∀ ty, (Builtin.append_ #[55, 55] ty #[.slice aoL z.kc.length capL, .slice (some ⟨wr.heap.size, 0, none⟩) 1 1]).run Try.prog (wr.alloc (.cells #[.slice ao ys.length cap] 79)) = .ok (.slice (some ⟨gL, offL, none⟩) (z.kc.length + 1) ccL) WL1) := hrunL
          have HZ1 : Hid (z1 = { z with vcl := .slice (some ⟨gL, offL, none⟩) (z.kc.length + 1) ccL, kc := z.kc ++ [⟨.slice ao ys.length cap, List.replicate ys.length ((-(mk + 1), 0) : Int × Int)⟩] }) := hz1
          have HL5 : Hid (z.kc.length + 1 ≤ ccL) := show _ ≤ _ from by obtain ⟨_, _, e, h, _⟩ := tail_form hTL; cases e; exact h
          clear hwS hTl hTL hcL huL hA4 hrunL hz1 hvL hS hcnL
          go_upto_region 18 with (at_builtin; refine wpList_runs rfl _ _ 55 rfl rfl rfl HRL.out ?_)
          rw [← hW2]
          clear hW2 z7 f7 x7 HRL
          have hwS : a.L ≤ W2.heap.size := Nat.le_trans HPN.out.lo HS2.out.chg.size
          have hTm : Tail W2 a.L 3 z1.vms z1.ms.length (z1.ms.map Iv) := HS2.out.get (e := z1.e3 a.L) (by simp [NZ.ents])
          have hml : z1.ms.length = z.kc.length := by rw [HZ1.out]; exact HFL.out.lc1
          obtain ⟨aoM, capM, hvM, hcnM, _⟩ := tail_form hTm
          have HVM : Hid (z1.vms = .slice aoM z1.ms.length capM) := hvM
          clear hvM hTm
          go_wp2_with fail
          try rw [show ∀ a : Act, a.put none undef = a from fun _ => rfl]
          refine wp_region_mix (fun wz => wz.cell? ⟨a.pb, 3, none⟩ = some (.slice aoM z1.ms.length capM) ∧ wz.cell? ⟨a.pb, 4, none⟩ = some (.int .i64 (mk + 1))) (fun i => i == 10 || i == 11 || i == 14) 14 (by kernel_rfl) rfl (by kernel_rfl) (by kernel_rfl) (by kernel_rfl) ?_
          refine withFrP (N := 139) rfl ?_
          intro f0 F0 hff
          have e0 : f0 0 = Value.pointer (some ⟨a.pb, 0, none⟩) := hff 0
          clear hff
          have hAd : AP (boxE a.L a.pb (pairV a.ca.cb a.rb (mk + 1) z1) 57 :: [cmE a.L a.ca s0x, rcE a.L a.ca a.rb s0r]) own0 w (z1.ents a.L) (({ W2 with drawn := W2.drawn + 1 } : World)) := HS2.out.more (Below.drew (Below.refl _ _))
          have HCC : (fun wz => wz.cell? ⟨a.pb, 3, none⟩ = some (.slice aoM z1.ms.length capM) ∧ wz.cell? ⟨a.pb, 4, none⟩ = some (.int .i64 (mk + 1))) (({ W2 with drawn := W2.drawn + 1 } : World)) := ⟨(hAd.cell 3).trans (by rw [← HVM.out]; rfl), hAd.cell 4⟩
          refine lyp F0 rfl HCC rfl (by omega) (wanted_none rfl) (v := Value.pointer (some ⟨a.pb, 0, none⟩)) (fun wr hwr => by simp only [execOp, (F0.eval 0 (by omega)).trans (show _ = Value.pointer (some ⟨a.pb, 0, none⟩) from by simp [upd, e0])]; first | rfl | simp [go_sem]) fun Fq1 => ?_
          refine lyp Fq1 rfl HCC rfl (by omega) (wanted_none rfl) (v := Value.pointer (some ⟨a.pb, 0, none⟩)) (fun wr hwr => by simp only [execOp, (Fq1.eval 0 (by omega)).trans (show _ = Value.pointer (some ⟨a.pb, 0, none⟩) from by simp [upd, e0])]; first | rfl | simp [go_sem]) fun Fq2 => ?_
          refine lyp Fq2 rfl HCC rfl (by omega) (wanted_none rfl) (v := Value.pointer (some ⟨a.pb, 0, none⟩)) (fun wr hwr => by simp only [execOp, (Fq2.eval 95 (by omega)).trans (show _ = Value.pointer (some ⟨a.pb, 0, none⟩) from by simp [upd, e0])]; simp [go_sem]) fun Fq3 => ?_
          refine lyp Fq3 rfl HCC rfl (by omega) (wanted_none rfl) (v := Value.pointer (some ⟨a.pb, 3, none⟩)) (fun wr hwr => by simp only [execOp, (Fq3.eval 96 (by omega)).trans (show _ = Value.pointer (some ⟨a.pb, 0, none⟩) from by simp [upd, e0])]; simp [go_sem]) fun Fq4 => ?_
          refine lyp Fq4 rfl HCC rfl (by omega) (wanted_none rfl) (v := Value.slice aoM z1.ms.length capM) (fun wr hwr => by simp only [execOp, (Fq4.eval 97 (by omega)).trans (show _ = Value.pointer (some ⟨a.pb, 3, none⟩) from by simp [upd, e0])]; simp [go_sem, hwr.1]) fun Fq5 => ?_
          refine lyp Fq5 rfl HCC rfl (by omega) (wanted_none rfl) (v := Value.pointer (some ⟨a.pb, 0, none⟩)) (fun wr hwr => by simp only [execOp, (Fq5.eval 0 (by omega)).trans (show _ = Value.pointer (some ⟨a.pb, 0, none⟩) from by simp [upd, e0])]; first | rfl | simp [go_sem]) fun Fq6 => ?_
          refine lyp Fq6 rfl HCC rfl (by omega) (wanted_none rfl) (v := Value.pointer (some ⟨a.pb, 0, none⟩)) (fun wr hwr => by simp only [execOp, (Fq6.eval 99 (by omega)).trans (show _ = Value.pointer (some ⟨a.pb, 0, none⟩) from by simp [upd, e0])]; simp [go_sem]) fun Fq7 => ?_
          refine lyp Fq7 rfl HCC rfl (by omega) (wanted_none rfl) (v := Value.pointer (some ⟨a.pb, 4, none⟩)) (fun wr hwr => by simp only [execOp, (Fq7.eval 100 (by omega)).trans (show _ = Value.pointer (some ⟨a.pb, 0, none⟩) from by simp [upd, e0])]; simp [go_sem]) fun Fq8 => ?_
          refine lyp Fq8 rfl HCC rfl (by omega) (wanted_none rfl) (v := Value.int .i64 (mk + 1)) (fun wr hwr => by simp only [execOp, (Fq8.eval 101 (by omega)).trans (show _ = Value.pointer (some ⟨a.pb, 4, none⟩) from by simp [upd, e0])]; simp [go_sem, hwr.2]) fun Fq9 => ?_
          refine lyp Fq9 rfl HCC rfl (by omega) (wanted_none rfl) (v := Value.int .i64 (-(mk + 1))) (fun wr hwr => by simp only [execOp, (Fq9.eval 102 (by omega)).trans (show _ = Value.int .i64 (mk + 1) from by simp [upd, e0])]; simp [go_sem, Act.eval]; try (rw [IntKind.wrap_i64]; omega)) fun Fq10 => ?_
          have hAe := hAd.more ((Below.refl (({ W2 with drawn := W2.drawn + 1 } : World)).heap.size (({ W2 with drawn := W2.drawn + 1 } : World))).alloc (Nat.le_refl _) (.cells #[(.int .i64 (-(mk + 1)))] 3))
          have HC6 : (fun wz => wz.cell? ⟨a.pb, 3, none⟩ = some (.slice aoM z1.ms.length capM) ∧ wz.cell? ⟨a.pb, 4, none⟩ = some (.int .i64 (mk + 1))) ((({ W2 with drawn := W2.drawn + 1 } : World)).alloc (.cells #[(.int .i64 (-(mk + 1)))] 3)) := ⟨(hAe.cell 3).trans (by rw [← HVM.out]; rfl), hAe.cell 4⟩
          refine lep Fq10 rfl HCC rfl (by omega) (wanted_none rfl) (v := Value.slice (some ⟨(({ W2 with drawn := W2.drawn + 1 } : World)).heap.size, 0, none⟩) 1 1) (w1 := (({ W2 with drawn := W2.drawn + 1 } : World)).alloc (.cells #[(.int .i64 (-(mk + 1)))] 3)) (by simp only [execOp, List.map_toArray, List.map_cons, List.map_nil, (Fq10.eval 103 (by omega)).trans (show _ = Value.int .i64 (-(mk + 1)) from by simp [upd, e0])]; simp [go_sem]) fun Fq11 => ?_
          have hTmd : Tail (({ W2 with drawn := W2.drawn + 1 } : World)) a.L 3 z1.vms z1.ms.length (z1.ms.map Iv) := hAd.get (e := z1.e3 a.L) (by simp [NZ.ents])
          obtain ⟨gM, offM, ccM, WM1, hrunM, hTM, hcM, huM⟩ := app_tail 43 3 (.int .i64 0) 8 Try.underlying43 info3 rfl (by decide) hTmd (.int .i64 (-(mk + 1))) rfl (by omega) (Nat.le_trans HPN.out.lo hAd.chg.size)
          rw [HVM.out] at hrunM
          have hA5 := hAd.marksC (m := (-(mk + 1))) (u := .slice (some ⟨gM, offM, none⟩) (z1.ms.length + 1) ccM) hTM hcM huM
          have HC7 : (fun wz => wz.cell? ⟨a.pb, 3, none⟩ = some (.slice aoM z1.ms.length capM) ∧ wz.cell? ⟨a.pb, 4, none⟩ = some (.int .i64 (mk + 1))) WM1 := ⟨(hA5.cell 3).trans (by rw [← HVM.out]; rfl), hA5.cell 4⟩
          have f7 := hA5.fz 3
          refine lep Fq11 rfl HC6 rfl (by omega) (wanted_none rfl) (v := Value.slice (some ⟨gM, offM, none⟩) (z1.ms.length + 1) ccM) (w1 := WM1) (by simp only [execOp, resolve, invoke, builtin, List.map_toArray, List.map_cons, List.map_nil, (Fq11.eval 98 (by omega)).trans (show _ = Value.slice aoM z1.ms.length capM from by simp [upd, e0]), (Fq11.eval 104 (by omega)).trans (show _ = Value.slice (some ⟨(({ W2 with drawn := W2.drawn + 1 } : World)).heap.size, 0, none⟩) 1 1 from by simp [upd, e0])]; simp only [Sem.run_bind, Sem.run_pure, Result.andThen_ok, hrunM]) fun Fq12 => ?_
          refine lyp Fq12 rfl HC7 rfl (by omega) (wanted_none rfl) (v := Value.pointer (some ⟨a.pb, 0, none⟩)) (fun wr hwr => by simp only [execOp, (Fq12.eval 94 (by omega)).trans (show _ = Value.pointer (some ⟨a.pb, 0, none⟩) from by simp [upd, e0])]; simp [go_sem]) fun Fq13 => ?_
          refine lyp Fq13 rfl HC7 rfl (by omega) (wanted_none rfl) (v := Value.pointer (some ⟨a.pb, 3, none⟩)) (fun wr hwr => by simp only [execOp, (Fq13.eval 106 (by omega)).trans (show _ = Value.pointer (some ⟨a.pb, 0, none⟩) from by simp [upd, e0])]; simp [go_sem]) fun Fq14 => ?_
          refine lst rfl HC7 rfl (wanted_none rfl) (w1 := WM1.setCell ⟨a.pb, 3, none⟩ (.slice (some ⟨gM, offM, none⟩) (z1.ms.length + 1) ccM)) (by simp only [execOp, (Fq14.eval 107 (by omega)).trans (show _ = Value.pointer (some ⟨a.pb, 3, none⟩) from by simp [upd, e0]), (Fq14.eval 105 (by omega)).trans (show _ = Value.slice (some ⟨gM, offM, none⟩) (z1.ms.length + 1) ccM from by simp [upd, e0])]; simp [go_sem, f7, show WM1.cell? ⟨a.pb, 3, none⟩ = some (.slice aoM z1.ms.length capM) from HC7.1]) ?_
          refine ⟨fun h => by omega, ?_⟩
          clear F0 Fq1 Fq2 Fq3 Fq4 Fq5 Fq6 Fq7 Fq8 Fq9 Fq10 Fq11 Fq12 Fq13 Fq14 e0 HCC HC6 HC7 hrunM hAe hTmd
          simp only [Act.put, List.setIfInBounds_toArray, List.set_cons_succ, List.set_cons_zero]
          obtain ⟨W3, hW3⟩ : ∃ W3, W3 = WM1.setCell ⟨a.pb, 3, none⟩ (.slice (some ⟨gM, offM, none⟩) (z1.ms.length + 1) ccM) := ⟨_, rfl⟩
          obtain ⟨z2, hz2⟩ : ∃ z2 : NZ, z2 = { z1 with vms := .slice (some ⟨gM, offM, none⟩) (z1.ms.length + 1) ccM, ms := z1.ms ++ [(-(mk + 1))] } := ⟨_, rfl⟩
          have HS3 : Hid (AP (boxE a.L a.pb (pairV a.ca.cb a.rb (mk + 1) z2) 57 :: [cmE a.L a.ca s0x, rcE a.L a.ca a.rb s0r]) own0 w (z2.ents a.L) W3) := show AP (boxE a.L a.pb (pairV a.ca.cb a.rb (mk + 1) z2) 57 :: [cmE a.L a.ca s0x, rcE a.L a.ca a.rb s0r]) own0 w (z2.ents a.L) W3 from by
            rw [hW3, hz2]
            exact hA5.set 3 (.slice (some ⟨gM, offM, none⟩) (z1.ms.length + 1) ccM)
          have HZ2 : Hid (z2 = { z1 with vms := .slice (some ⟨gM, offM, none⟩) (z1.ms.length + 1) ccM, ms := z1.ms ++ [(-(mk + 1))] }) := hz2
          have HLM : Hid (z1.ms.length + 1 ≤ ccM) := show _ ≤ _ from by obtain ⟨_, _, e, h, _⟩ := tail_form hTM; cases e; exact h
          have HML : Hid (z1.ms.length = z.kc.length) := hml
          clear hwS hTM hcM huM hA5 hz2 hcnM HS2 hml hAd f7 HVM
          rw [← hW3]
          clear hW3
          have q2 : W3.cell? ⟨a.pb, 2, none⟩ = some (.slice (some ⟨gL, offL, none⟩) (z.kc.length + 1) ccL) := (HS3.out.cell 2).trans (by rw [HZ2.out, HZ1.out]; rfl)
          have q4 : W3.cell? ⟨a.pb, 3, none⟩ = some (.slice (some ⟨gM, offM, none⟩) (z1.ms.length + 1) ccM) := (HS3.out.cell 3).trans (by rw [HZ2.out]; rfl)
          by_cases hcut : z.kc.length + 1 ≤ 4
          · have hF2 : NFull z2 := by
              rw [HZ2.out, HZ1.out]
              exact HFL.out.addC (x := (⟨.slice ao ys.length cap, List.replicate ys.length ((-(mk + 1), 0) : Int × Int)⟩ : DC)) (m := (-(mk + 1))) (by simp; exact HYL.out) (fun u hu => by rw [List.eq_of_mem_replicate hu]) hcut _ _
            have hA8 := HS3.out
            rw [HO0.out] at hA8
            have HFIN : Hid (PN a ⟨s0x, s0r, mk + 1, z2⟩ W3 ∧ PStp a ⟨s0x, s0r, mk, z⟩ ⟨s0x, s0r, mk + 1, z2⟩ w W3) := HPN.out.of (s' := ⟨s0x, s0r, mk + 1, z2⟩) hA8 hF2 HPN.out.g
            have HLN2 : Hid (z2.lc.length ≤ z.lc.length + 1) := show z2.lc.length ≤ z.lc.length + 1 from by rw [HZ2.out, HZ1.out]; simp
            clear hA8 hF2 HS3
            go_wp2_with fail
            go_ret
            exact ⟨rfl, z2, HFIN.out.1, HFIN.out.2, HLN2.out⟩
          · have hk4 : z.kc.length = 4 := by omega
            have hm4 : z1.ms.length = 4 := by rw [HML.out]; exact hk4
            have f2 := HS3.out.fz 2
            obtain ⟨x0, ks, hks⟩ : ∃ x0 ks, z2.kc = x0 :: ks := by
              have h5 : z2.kc.length = 4 + 1 := by rw [HZ2.out, HZ1.out]; simp [hk4]
              cases h : z2.kc with
              | nil => rw [h] at h5; simp at h5
              | cons x0 ks => exact ⟨x0, ks, rfl⟩
            have hksl : ks.length = 4 := by
              have h5 : z2.kc.length = 4 + 1 := by rw [HZ2.out, HZ1.out]; simp [hk4]
              rw [hks] at h5
              simpa using h5
            have hT0 : Tail W3 a.L 79 z2.vcl z2.kc.length (z2.kc.map DC.d) := HS3.out.get (e := z2.e1 a.L) (by simp [NZ.ents])
            have hv0 : z2.vcl = .slice (some ⟨gL, offL, none⟩) (z.kc.length + 1) ccL := by rw [HZ2.out, HZ1.out]
            rw [hks, hv0, hk4] at hT0
            simp only [List.map_cons, List.length_cons, hksl] at hT0
            obtain ⟨gg, oo, hgg, hT1⟩ := tail_cut hT0
            cases hgg
            have hA6 := HS3.out.cutLC (u := .slice (some ⟨gL, offL + 1, none⟩) 4 (ccL - 1)) hks (by rw [hksl]; exact hT1) (by rw [hv0]; rfl)
            obtain ⟨z3, hz3⟩ : ∃ z3 : NZ, z3 = { z2 with vcl := .slice (some ⟨gL, offL + 1, none⟩) 4 (ccL - 1), kc := ks } := ⟨_, rfl⟩
            obtain ⟨W4, hW4⟩ : ∃ W4, W4 = W3.setCell ⟨a.pb, 2, none⟩ (.slice (some ⟨gL, offL + 1, none⟩) 4 (ccL - 1)) := ⟨_, rfl⟩
            have hS4 : AP (boxE a.L a.pb (pairV a.ca.cb a.rb (mk + 1) z3) 57 :: [cmE a.L a.ca s0x, rcE a.L a.ca a.rb s0r]) own0 w (z3.ents a.L) W4 := by
              rw [hW4, hz3]
              exact hA6.set 2 (.slice (some ⟨gL, offL + 1, none⟩) 4 (ccL - 1))
            have f4 := hS4.fz 3
            have q4' : W4.cell? ⟨a.pb, 3, none⟩ = some (.slice (some ⟨gM, offM, none⟩) (z1.ms.length + 1) ccM) := (hS4.cell 3).trans (by rw [hz3, HZ2.out]; rfl)
            have hT2 : Tail W4 a.L 3 z3.vms z3.ms.length (z3.ms.map Iv) := hS4.get (e := z3.e3 a.L) (by simp [NZ.ents])
            obtain ⟨m0, mt0, hmt⟩ : ∃ m0 mt0, z3.ms = m0 :: mt0 := by
              have h5 : z3.ms.length = 4 + 1 := by rw [hz3, HZ2.out]; simp [hm4]
              cases h : z3.ms with
              | nil => rw [h] at h5; simp at h5
              | cons x0 ks => exact ⟨x0, ks, rfl⟩
            have hmtl : mt0.length = 4 := by
              have h5 : z3.ms.length = 4 + 1 := by rw [hz3, HZ2.out]; simp [hm4]
              rw [hmt] at h5
              simpa using h5
            have hv1 : z3.vms = .slice (some ⟨gM, offM, none⟩) (z1.ms.length + 1) ccM := by rw [hz3, HZ2.out]
            rw [hmt, hv1, hm4] at hT2
            simp only [List.map_cons, List.length_cons, hmtl] at hT2
            obtain ⟨gg, oo, hgg, hT3⟩ := tail_cut hT2
            cases hgg
            have hA7 := hS4.cutMC (u := .slice (some ⟨gM, offM + 1, none⟩) 4 (ccM - 1)) (by rw [hmt]; simp only [List.tail_cons, hmtl]; exact hT3) (by rw [hv1]; rfl)
            obtain ⟨z4, hz4⟩ : ∃ z4 : NZ, z4 = { z3 with vms := .slice (some ⟨gM, offM + 1, none⟩) 4 (ccM - 1), ms := z3.ms.tail } := ⟨_, rfl⟩
            obtain ⟨W5, hW5⟩ : ∃ W5, W5 = W4.setCell ⟨a.pb, 3, none⟩ (.slice (some ⟨gM, offM + 1, none⟩) 4 (ccM - 1)) := ⟨_, rfl⟩
            have hS5 : AP (boxE a.L a.pb (pairV a.ca.cb a.rb (mk + 1) z4) 57 :: [cmE a.L a.ca s0x, rcE a.L a.ca a.rb s0r]) own0 w (z4.ents a.L) W5 := by
              rw [hW5, hz4]
              exact hA7.set 3 (.slice (some ⟨gM, offM + 1, none⟩) 4 (ccM - 1))
            have hF4 : NFull z4 := by
              have hkk : ks = (z.kc ++ [(⟨.slice ao ys.length cap, List.replicate ys.length ((-(mk + 1), 0) : Int × Int)⟩ : DC)]).tail := by
                have := congrArg List.tail hks
                rw [HZ2.out, HZ1.out] at this
                exact this.symm
              rw [hz4, hz3, HZ2.out, HZ1.out, hkk]
              exact HFL.out.rotC (x := (⟨.slice ao ys.length cap, List.replicate ys.length ((-(mk + 1), 0) : Int × Int)⟩ : DC)) (m := (-(mk + 1))) (by simp; exact HYL.out) (fun u hu => by rw [List.eq_of_mem_replicate hu]) hk4 _ _
            rw [HO0.out] at hS5
            have HFIN : Hid (PN a ⟨s0x, s0r, mk + 1, z4⟩ W5 ∧ PStp a ⟨s0x, s0r, mk, z⟩ ⟨s0x, s0r, mk + 1, z4⟩ w W5) := HPN.out.of (s' := ⟨s0x, s0r, mk + 1, z4⟩) hS5 hF4 HPN.out.g
            have HLN2 : Hid (z4.lc.length ≤ z.lc.length + 1) := show z4.lc.length ≤ z.lc.length + 1 from by rw [hz4, hz3, HZ2.out, HZ1.out]; simp
            have hcl : 5 ≤ ccL := by have := HL5.out; omega
            have hcm : 5 ≤ ccM := by have := HLM.out; omega
            have hcl1 : ¬ ccL = 1 := by omega
            have hcm1 : ¬ ccM = 1 := by omega
            rw [hk4] at q2
            rw [hm4] at q4 q4'
            clear hS5 hF4 HS3 hA6 hA7 hS4 hT0 hT1 hT2 hT3 hz3 hz4 hv0 hv1 hks hksl hmt hmtl hcut HZ1 HZ2
            go_upto_region 21 with fail
            rw [← hW4]
            clear hW4 q2 q4 f2
            go_upto_region 22 with fail
            rw [← hW5]
            clear hW5 q4' f4
            go_wp2_with fail
            go_ret
            exact ⟨rfl, z4, HFIN.out.1, HFIN.out.2, HLN2.out⟩
end Go.Proofs.Ytadfmnlkfcigoaa
