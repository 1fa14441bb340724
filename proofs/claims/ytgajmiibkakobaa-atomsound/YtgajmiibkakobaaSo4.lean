import Derived.Test.YtgajmiibkakobaaSo3
import Derived.Deep.Cut
import Derived.Deep.CutBlock
namespace Go.Proofs.Ytgajmiibkakobaa
open Go.RowKit Go.PlainAid Go.MapKept
set_option linter.unusedVariables false
set_option linter.unusedSimpArgs false
theorem wr_ {x : Int} (h1 : -9000000000000 ≤ x) (h2 : x ≤ 9000000000000) : IntKind.i64.wrap x = x := wr h1 h2
set_option maxRecDepth 100000 in
set_option maxHeartbeats 12800000 in
theorem sound_law (ao : Option Addr) (KN cap : Nat) (os : List AA) (w : World) (hl : os.length = KN)
    (hat : 0 < KN → ∃ b off, ao = some ⟨b, off, none⟩ ∧ ∀ i o, os[i]? = some o → RowAt w b (off + i * 5) o.row) (hok : ∀ o ∈ os, o.ok) (hcm : KN ≤ maxLen) :
    Calls Try.prog 4 #[.slice ao KN cap] w fun e w' => e = .returned (.bool true) ∧ Below w.heap.size w w' := by
  have HSP : Hid (∀ W, Below w.heap.size w W → _) := fun W hb => spoken_any ao KN cap os w W hb hl hat hcm
  unfold maxLen at hcm
  have HAT : Hid (0 < KN → ∃ b off, ao = some ⟨b, off, none⟩ ∧ ∀ i o, os[i]? = some o → RowAt w b (off + i * 5) o.row) := hat
  have HOK : Hid (∀ o ∈ os, o.ok) := hok
  have HLE : Hid (os.length = KN) := hl
  clear hat hok hl
  go_enter Try.func4, Try.ntmps4
  go_wp2_with fail
  refine Calls.mono (alive_any w) ?_
  rintro e9 w1 ⟨rfl, hb1⟩
  have HN : Hid _ := AX.new hb1
  clear hb1
  go_wp2_with fail
  refine Calls.mono HN.out ?_
  rintro e9 W1 ⟨ab, mb, rfl, hA⟩
  have HA1 : Hid (AX w ab mb [] W1) := hA
  clear hA HN
  go_wp2_with fail
  refine Calls.mono (HSP.out W1 HA1.out.bel) ?_
  rintro e9 W2 ⟨nv, nms, rfl, hn3, _, hrow, hb2⟩
  obtain ⟨M, hM⟩ : ∃ M, M = nms.length := ⟨_, rfl⟩
  rw [← hM] at hn3 hrow
  obtain ⟨no, nc, hnv, _⟩ := own_slice hrow
  subst hnv
  obtain ⟨B0, hB0⟩ : ∃ B0, B0 = W1.heap.size := ⟨_, rfl⟩
  rw [← hB0] at hrow
  have HA2 : Hid (AX w ab mb [] W2) := HA1.out.more hb2
  have HN2 : Hid (W2.ownsRow B0 9 1 (.slice no M nc) M (nms.map Sv)) := hrow
  have HM : Hid (M = nms.length) := hM
  clear hrow hb2 HA1 HSP hB0 hM
  go_upto_block 0 with fail
  go_cut [6, 7, 8, 9, 10, 11, 12, 13, 14] from 25 to 133 (fun _ _ _ _ _ _ _ _ _ wc => Below w.heap.size w wc)
  case first =>
    go_wp2_with fail
    go_loopw [6] (fun s6 wr => ∃ (j : Nat) (L : List (List UInt8 × Ct)), j ≤ KN ∧ j ≤ 300 ∧ s6 = .int .i64 j ∧ AX w ab mb L wr ∧ wr.ownsRow B0 9 1 (.slice no M nc) M (nms.map Sv)) (fun s6 _ => 300 - (intOf s6).toNat)
    case atStart => exact ⟨0, [], Nat.zero_le _, Nat.zero_le _, rfl, HA2.out, HN2.out⟩
    case round =>
      obtain ⟨j, L, hjK, hj3, rfl, hA, hNr⟩ := hrel
      have HA : Hid (AX w ab mb L wr) := hA
      have HNr : Hid (wr.ownsRow B0 9 1 (.slice no M nc) M (nms.map Sv)) := hNr
      clear hA hNr HA2 HN2
      by_cases hlt : j < KN ∧ j < 300
      · obtain ⟨b, off, hao, hrow⟩ := HAT.out (by omega)
        subst hao
        have hjo : j < os.length := by rw [HLE.out]; exact hlt.1
        have hr := hrow j os[j] (List.getElem?_eq_getElem hjo)
        have hr2 := hr.below HA.out.bel (hr.lt (by show 0 < 5; decide))
        have hbl : b < w.heap.size := hr.lt (by show 0 < 5; decide)
        have HBL : Hid (b < w.heap.size) := hbl
        have hok := HOK.out os[j] (List.getElem_mem hjo)
        generalize os[j] = o at *
        obtain ⟨⟨ok, on, oa, ob_⟩, oq⟩ := o
        obtain ⟨c0, c1, c2, c3, c4⟩ := hr2.act
        obtain ⟨⟨hq1, hnl, hq2, hq3⟩, hq4⟩ := hok
        clear hq1 hq2 hq3 hq4
        simp only at c0 c1 c2 c3 c4 hnl
        have HNL : Hid (on.length ≤ 140737488355328) := show on.length ≤ 140737488355328 from by omega
        have hlt1 := hlt.1
        have hlt2 := hlt.2
        clear hrow hr hlt hr2 hnl hjo hbl
        obtain ⟨xb, hxb⟩ : ∃ xb, xb = wr.heap.size := ⟨_, rfl⟩
        obtain ⟨X, hX⟩ : ∃ X, X = wr.alloc (.cells #[.int .i64 ok, .string ⟨on.toArray⟩, .int .i64 oa, .int .i64 ob_] 31) := ⟨_, rfl⟩
        have hbX : Below wr.heap.size wr X := by rw [hX]; exact (Below.refl _ _).alloc (Nat.le_refl _) _
        have BXB : Hid (Blk X xb #[.int .i64 ok, .string ⟨on.toArray⟩, .int .i64 oa, .int .i64 ob_] 31) := show Blk X xb #[.int .i64 ok, .string ⟨on.toArray⟩, .int .i64 oa, .int .i64 ob_] 31 from by rw [hX, hxb]; exact heap_alloc_new wr _
        have x4X : X.cell? ⟨b, off + j * 5 + 4, none⟩ = some (.int .i64 oq) := cell_below hbX c4
        have HAX : Hid (AX w ab mb L X) := HA.out.more hbX
        have HNX : Hid (X.ownsRow B0 9 1 (.slice no M nc) M (nms.map Sv)) := ownsRow_same HNr.out (fun g hg => hbX.block g (ownsRow_lt HNr.out hg).2)
        clear hbX
        go_upto_region 10 with fail
        rw [← hX, ← hxb]
        clear hX hxb c0 c1 c2 c3 c4
        have HLO1 : Hid _ := looked_any (.slice no M nc) nms X HAX.out.am (by rw [← HM.out]; exact HNX.out) (by rw [← HM.out]; exact hn3)
        rw [← HM.out] at HLO1
        go_wp2_with fail
        refine Calls.mono HLO1.out ?_
        rintro e9 w2 ⟨v1, rfl, hv1, hb2⟩
        have HV1 : Hid (w2.ownsRow X.heap.size 45 4 v1 M (flatL (nms.map (lkOf L)))) := hv1
        have HA2 : Hid (AX w ab mb L w2) := HAX.out.more hb2
        have BX2 : Hid (Blk w2 xb #[.int .i64 ok, .string ⟨on.toArray⟩, .int .i64 oa, .int .i64 ob_] 31) := BXB.out.below hb2 BXB.out.lt
        have HN2 : Hid (w2.ownsRow B0 9 1 (.slice no M nc) M (nms.map Sv)) := ownsRow_same HNX.out (fun g hg => hb2.block g (ownsRow_lt HNX.out hg).2)
        have x4 : w2.cell? ⟨b, off + j * 5 + 4, none⟩ = some (.int .i64 oq) := cell_below hb2 x4X
        have HBD : Hid (Below w.heap.size w w2) := HA2.out.bel
        have HDO : Hid (∀ V, Below w2.heap.size w2 V → Calls Try.prog 12 #[.pointer (some ⟨ab, 0, none⟩), .agg #[.int .i64 ok, .string ⟨on.toArray⟩, .int .i64 oa, .int .i64 ob_], .int .i64 oq] V fun e w' => ∃ hb', e = .returned (.tuple #[.int .i64 (mapO ok oa ob_ oq on L).1.1, .int .i64 (mapO ok oa ob_ oq on L).1.2]) ∧ AX w ab mb (doL (mapO ok oa ob_ oq on L) on hb' L) w' ∧ ∀ b C T, Blk V b C T → Blk w' b C T) := fun V hV => (HA2.out.more hV).do2 ok oa ob_ oq on HNL.out
        have HOKL : Hid (∀ p ∈ L, p.2.Ok) := fun p hp => (HA2.out.am.ct p hp).2.1
        obtain ⟨ao1, cap1, hv, _⟩ := own_slice hv1
        subst hv
        clear hv1 hb2 x4X HAX HNX HLO1 BXB HA HNr
        obtain ⟨R, hR⟩ : ∃ R, R = mapO ok oa ob_ oq on L := ⟨_, rfl⟩
        have HRR : Hid (R = mapO ok oa ob_ oq on L) := hR
        rw [← hR] at HDO
        clear hR
        go_wp2_with fail
        rename_i K hK
        try rw [show ∀ a : Act, a.put none undef = a from fun _ => rfl]
        refine wp_region_mix (fun wq => Blk wq xb #[.int .i64 ok, .string ⟨on.toArray⟩, .int .i64 oa, .int .i64 ob_] 31 ∧ wq.cell? ⟨b, off + j * 5 + 4, none⟩ = some (.int .i64 oq)) (fun i => i == 7 || i == 99) 99 (by kernel_rfl) rfl (by kernel_rfl) (by kernel_rfl) (by kernel_rfl) ?_
        refine withFrP (N := 134) rfl ?_
        intro f0 F0 hff
        have ee4 : f0 4 = Value.pointer (some ⟨ab, 0, none⟩) := hff 4
        have ee7 : f0 7 = Value.pointer (some ⟨xb, 0, none⟩) := hff 7
        have ee0 : f0 0 = Value.slice (some ⟨b, off, none⟩) KN cap := hff 0
        have ee6 : f0 6 = Value.int .i64 (j : Nat) := hff 6
        clear hff
        have HCC : (fun wq => Blk wq xb #[.int .i64 ok, .string ⟨on.toArray⟩, .int .i64 oa, .int .i64 ob_] 31 ∧ wq.cell? ⟨b, off + j * 5 + 4, none⟩ = some (.int .i64 oq)) (({ w2 with drawn := w2.drawn + 1 } : World)) := ⟨BX2.out, x4⟩
        refine lyp F0 rfl HCC rfl (by omega) (wanted_none rfl) (v := Value.pointer (some ⟨ab, 0, none⟩)) (fun wr hwr => by simp only [execOp, (F0.eval 4 (by omega)).trans (show _ = Value.pointer (some ⟨ab, 0, none⟩) from by simp [upd, ee4, ee7, ee0, ee6])]; first | rfl | simp [go_sem]) fun F1 => ?_
        refine lyp F1 rfl HCC rfl (by omega) (wanted_none rfl) (v := Value.agg #[.int .i64 ok, .string ⟨on.toArray⟩, .int .i64 oa, .int .i64 ob_]) (fun wr hwr => by simp only [execOp, (F1.eval 7 (by omega)).trans (show _ = Value.pointer (some ⟨xb, 0, none⟩) from by simp [upd, ee4, ee7, ee0, ee6])]; simp [go_sem, show wr.cell? ⟨xb, 0, none⟩ = some (.int .i64 ok) from hwr.1.cell 0, show wr.cell? ⟨xb, 1, none⟩ = some (.string ⟨on.toArray⟩) from hwr.1.cell 1, show wr.cell? ⟨xb, 2, none⟩ = some (.int .i64 oa) from hwr.1.cell 2, show wr.cell? ⟨xb, 3, none⟩ = some (.int .i64 ob_) from hwr.1.cell 3]) fun F2 => ?_
        refine lyp F2 rfl HCC rfl (by omega) (wanted_none rfl) (v := Value.slice (some ⟨b, off, none⟩) KN cap) (fun wr hwr => by simp only [execOp, (F2.eval 0 (by omega)).trans (show _ = Value.slice (some ⟨b, off, none⟩) KN cap from by simp [upd, ee4, ee7, ee0, ee6])]; first | rfl | simp [go_sem]) fun F3 => ?_
        refine lyp F3 rfl HCC rfl (by omega) (wanted_none rfl) (v := Value.int .i64 (j : Nat)) (fun wr hwr => by simp only [execOp, (F3.eval 6 (by omega)).trans (show _ = Value.int .i64 (j : Nat) from by simp [upd, ee4, ee7, ee0, ee6])]; first | rfl | simp [go_sem]) fun F4 => ?_
        refine lyp F4 rfl HCC rfl (by omega) (wanted_none rfl) (v := Value.pointer (some ⟨b, off + j * 5, none⟩)) (fun wr hwr => by simp only [execOp, (F4.eval 46 (by omega)).trans (show _ = Value.slice (some ⟨b, off, none⟩) KN cap from by simp [upd, ee4, ee7, ee0, ee6]), (F4.eval 47 (by omega)).trans (show _ = Value.int .i64 (j : Nat) from by simp [upd, ee4, ee7, ee0, ee6])]; simp only [Sem.run_bind, Sem.run_pure, Result.andThen_ok, idx_run 22 33 5 Try.underlying22 (by kernel_rfl) wr b off KN cap j (by omega)]; try rfl) fun F5 => ?_
        refine lyp F5 rfl HCC rfl (by omega) (wanted_none rfl) (v := Value.pointer (some ⟨b, off + j * 5 + 4, none⟩)) (fun wr hwr => by simp only [execOp, (F5.eval 48 (by omega)).trans (show _ = Value.pointer (some ⟨b, off + j * 5, none⟩) from by simp [upd, ee4, ee7, ee0, ee6])]; simp [go_sem]) fun F6 => ?_
        refine lyp F6 rfl HCC rfl (by omega) (wanted_none rfl) (v := Value.int .i64 oq) (fun wr hwr => by simp only [execOp, (F6.eval 49 (by omega)).trans (show _ = Value.pointer (some ⟨b, off + j * 5 + 4, none⟩) from by simp [upd, ee4, ee7, ee0, ee6])]; simp [go_sem, hwr.2]) fun F7 => ?_
        refine lcp F7 rfl HCC rfl (by omega) (wanted_none rfl) (g := 12) (args := #[Value.pointer (some ⟨ab, 0, none⟩), Value.agg #[.int .i64 ok, .string ⟨on.toArray⟩, .int .i64 oa, .int .i64 ob_], Value.int .i64 oq]) (by simp only [execOp, resolve, invoke, List.map_toArray, List.map_cons, List.map_nil, (F7.eval 44 (by omega)).trans (show _ = Value.pointer (some ⟨ab, 0, none⟩) from by simp [upd, ee4, ee7, ee0, ee6]), (F7.eval 45 (by omega)).trans (show _ = Value.agg #[.int .i64 ok, .string ⟨on.toArray⟩, .int .i64 oa, .int .i64 ob_] from by simp [upd, ee4, ee7, ee0, ee6]), (F7.eval 50 (by omega)).trans (show _ = Value.int .i64 oq from by simp [upd, ee4, ee7, ee0, ee6])]; simp [go_sem, Act.eval]) (HDO.out (({ w2 with drawn := w2.drawn + 1 } : World)) (Below.drew (Below.refl _ _))) ?_
        rintro e9 w3 ⟨hb', rfl, hA3, hk3⟩
        refine ⟨_, rfl, fun F8 => ?_⟩
        have HC2 : (fun wq => Blk wq xb #[.int .i64 ok, .string ⟨on.toArray⟩, .int .i64 oa, .int .i64 ob_] 31 ∧ wq.cell? ⟨b, off + j * 5 + 4, none⟩ = some (.int .i64 oq)) w3 := ⟨hk3 _ _ _ HCC.1, (World.cell?_of_block (w := (({ w2 with drawn := w2.drawn + 1 } : World))) (hA3.bel.block b HBL.out |>.trans (HBD.out.block b HBL.out).symm)).trans HCC.2⟩
        refine lyp F8 rfl HC2 rfl (by omega) (wanted_none rfl) (v := Value.tuple #[.int .i64 R.1.1, .int .i64 R.1.2]) (fun wr hwr => by simp only [execOp, (F8.eval 51 (by omega)).trans (show _ = Value.tuple #[.int .i64 R.1.1, .int .i64 R.1.2] from by simp [upd, ee4, ee7, ee0, ee6])]; first | rfl | simp [go_sem]) fun F9 => ?_
        refine lyp F9 rfl HC2 rfl (by omega) (wanted_none rfl) (v := Value.int .i64 R.1.1) (fun wr hwr => by simp only [execOp, (F9.eval 43 (by omega)).trans (show _ = Value.tuple #[.int .i64 R.1.1, .int .i64 R.1.2] from by simp [upd, ee4, ee7, ee0, ee6])]; simp [go_sem]) fun F10 => ?_
        refine lyp F10 rfl HC2 rfl (by omega) (wanted_none rfl) (v := Value.int .i64 R.1.2) (fun wr hwr => by simp only [execOp, (F10.eval 43 (by omega)).trans (show _ = Value.tuple #[.int .i64 R.1.1, .int .i64 R.1.2] from by simp [upd, ee4, ee7, ee0, ee6])]; simp [go_sem]) fun F11 => ?_
        refine lyp F11 rfl HC2 rfl (by omega) (wanted_none rfl) (v := Value.int .i64 R.1.1) (fun wr hwr => by simp only [execOp, (F11.eval 52 (by omega)).trans (show _ = Value.int .i64 R.1.1 from by simp [upd, ee4, ee7, ee0, ee6])]; first | rfl | simp [go_sem]) fun F12 => ?_
        refine lyp F12 rfl HC2 rfl (by omega) (wanted_none rfl) (v := Value.int .i64 R.1.2) (fun wr hwr => by simp only [execOp, (F12.eval 53 (by omega)).trans (show _ = Value.int .i64 R.1.2 from by simp [upd, ee4, ee7, ee0, ee6])]; first | rfl | simp [go_sem]) fun F13 => ?_
        refine ⟨fun _ => HC2, ?_⟩
        refine hK _ _ ?_
        clear F0 F1 F2 F3 F4 F5 F6 F7 F8 F9 F10 F11 F12 F13 ee4 ee7 ee0 ee6 HCC HC2
        simp only [Act.put, List.setIfInBounds_toArray, List.set_cons_succ, List.set_cons_zero]
        have HA3 : Hid (AX w ab mb (doL R on hb' L) w3) := hA3
        have hD0 : ∀ b C T, Blk w2 b C T → Blk w3 b C T := fun b C T h => hk3 b C T h
        have BX3 : Hid (Blk w3 xb #[.int .i64 ok, .string ⟨on.toArray⟩, .int .i64 oa, .int .i64 ob_] 31) := hD0 _ _ _ BX2.out
        have HV13 : Hid (w3.ownsRow X.heap.size 45 4 (.slice ao1 M cap1) M (flatL (nms.map (lkOf L)))) := own_keep HV1.out hD0
        have HN3 : Hid (w3.ownsRow B0 9 1 (.slice no M nc) M (nms.map Sv)) := own_keep HN2.out hD0
        obtain ⟨L', hL'⟩ : ∃ L', L' = doL R on hb' L := ⟨_, rfl⟩
        rw [← hL'] at HA3
        have HL' : Hid (L' = doL R on hb' L) := hL'
        have HLO2 : Hid _ := looked_any (.slice no M nc) nms w3 HA3.out.am (by rw [← HM.out]; exact HN3.out) (by rw [← HM.out]; exact hn3)
        rw [← HM.out] at HLO2
        clear hA3 hk3 hD0 hL' x4 HA2 BX2 HN2 HV1 HDO
        go_wp2_with fail
        refine Calls.mono HLO2.out ?_
        rintro e9 w4 ⟨v2, rfl, hv2, hb4⟩
        have HV24 : Hid (w4.ownsRow w3.heap.size 45 4 v2 M (flatL (nms.map (lkOf L')))) := hv2
        have HA4 : Hid (AX w ab mb L' w4) := HA3.out.more hb4
        have BX4 : Hid (Blk w4 xb #[.int .i64 ok, .string ⟨on.toArray⟩, .int .i64 oa, .int .i64 ob_] 31) := BX3.out.below hb4 BX3.out.lt
        have HV14 : Hid (w4.ownsRow X.heap.size 45 4 (.slice ao1 M cap1) M (flatL (nms.map (lkOf L)))) := ownsRow_same HV13.out (fun g hg => hb4.block g (ownsRow_lt HV13.out hg).2)
        have HN4 : Hid (w4.ownsRow B0 9 1 (.slice no M nc) M (nms.map Sv)) := ownsRow_same HN3.out (fun g hg => hb4.block g (ownsRow_lt HN3.out hg).2)
        obtain ⟨ao2, cap2, hv, _⟩ := own_slice hv2
        subst hv
        have HLK : Hid (∀ nm, 0 ≤ (lkOf L' nm).val ∧ 0 ≤ (lkOf L' nm).held ∧ (lkOf L' nm).val + (lkOf L' nm).held ≤ (lkOf L' nm).lim ∧ (lkOf L' nm).lim ≤ 1099511627776) := fun nm => lk_ok (fun p hp => (HA4.out.am.ct p hp).2.1) nm
        have HOTH : Hid (∀ nm, ¬ nm = on → lkOf L nm = lkOf L' nm) := fun nm h => by rw [HL'.out]; exact (lk_other R hb' h).symm
        clear hv2 hb4 HA3 BX3 HV13 HN3 HLO2
        by_cases hrz : R.1.2 = 0
        · have her : (R.1.2 == 0) = true := by simpa using hrz
          have HRZ : Hid (R.1.2 = 0) := hrz
          have HFIT : Hid (∀ nm, nm = on → ∀ W, Calls Try.prog 18 #[.agg #[.int .i64 ok, .string ⟨on.toArray⟩, .int .i64 oa, .int .i64 ob_], .int .i64 R.1.1, .agg (lkOf L nm).cs, .agg (lkOf L' nm).cs] W fun e w' => e = .returned (.bool true) ∧ Below W.heap.size W w') := fun nm h W => by
            have hh := fits_do HOKL.out ok oa ob_ oq on hb' W (by rw [← HRR.out]; exact hrz)
            rw [← HRR.out, ← HL'.out] at hh
            rw [h]
            exact hh
          have HEQ : Hid (∀ nm : List UInt8, True) := fun _ => trivial
          obtain ⟨w5, hw5⟩ : ∃ w5, w5 = w4 := ⟨_, rfl⟩
          have HA5 : Hid (AX w ab mb L' w5) := show AX w ab mb L' w5 from by rw [hw5]; exact HA4.out
          have BX5 : Hid (Blk w5 xb #[.int .i64 ok, .string ⟨on.toArray⟩, .int .i64 oa, .int .i64 ob_] 31) := show Blk w5 xb #[.int .i64 ok, .string ⟨on.toArray⟩, .int .i64 oa, .int .i64 ob_] 31 from by rw [hw5]; exact BX4.out
          have HV15 : Hid (w5.ownsRow X.heap.size 45 4 (.slice ao1 M cap1) M (flatL (nms.map (lkOf L)))) := show World.ownsRow w5 X.heap.size 45 4 (.slice ao1 M cap1) M (flatL (nms.map (lkOf L))) from by rw [hw5]; exact HV14.out
          have HV25 : Hid (w5.ownsRow w3.heap.size 45 4 (.slice ao2 M cap2) M (flatL (nms.map (lkOf L')))) := show World.ownsRow w5 w3.heap.size 45 4 (.slice ao2 M cap2) M (flatL (nms.map (lkOf L'))) from by rw [hw5]; exact HV24.out
          have HN5 : Hid (w5.ownsRow B0 9 1 (.slice no M nc) M (nms.map Sv)) := show World.ownsRow w5 B0 9 1 (.slice no M nc) M (nms.map Sv) from by rw [hw5]; exact HN4.out
          clear hrz HA4 BX4 HV14 HV24 HN4
          rw [← hw5]
          clear hw5
          go_upto_region 13 with fail
          refine wp_region_lit ?_
          refine withFrS (N := 134) rfl ?_
          intro f0 F0 hff
          have hs10 : f0 10 = Value.int .i64 R.1.2 := hff 10
          have hs9 : f0 9 = Value.int .i64 R.1.1 := hff 9
          clear hff
          refine syp F0 rfl (by omega) (wanted_none rfl) (v := Value.int .i64 R.1.2) (by simp only [execOp, (F0.eval 10 (by omega)).trans (show _ = Value.int .i64 R.1.2 from by simp [upd, hs10, hs9])]; first | rfl | simp [go_sem]) fun F1 => ?_
          refine syp F1 rfl (by omega) (wanted_none rfl) (v := Value.bool false) (by simp only [execOp, (F1.eval 57 (by omega)).trans (show _ = Value.int .i64 R.1.2 from by simp [upd, hs10, hs9])]; simp [go_sem, Act.eval, HRZ.out]) fun F2 => ?_
          refine syp F2 rfl (by omega) (wanted_none rfl) (v := Value.bool false) (by simp only [execOp, (F2.eval 58 (by omega)).trans (show _ = Value.bool false from by simp [upd, hs10, hs9])]; first | rfl | simp [go_sem]) fun F3 => ?_
          refine snp F3 rfl (by omega) (want_no F3 rfl (e := 59) rfl (by omega) (show _ = Value.bool false from by simp [upd, hs10, hs9]) (by decide)) fun F4 => ?_
          refine snp F4 rfl (by omega) (want_no F4 rfl (e := 59) rfl (by omega) (show _ = Value.bool false from by simp [upd, hs10, hs9]) (by decide)) fun F5 => ?_
          refine snp F5 rfl (by omega) (want_no F5 rfl (e := 59) rfl (by omega) (show _ = Value.bool false from by simp [upd, hs10, hs9]) (by decide)) fun F6 => ?_
          refine snp F6 rfl (by omega) (want_not F6 rfl (e := 62) rfl (by omega) (show _ = undef from by simp [upd, hs10, hs9])) fun F7 => ?_
          refine snp F7 rfl (by omega) (want_not F7 rfl (e := 62) rfl (by omega) (show _ = undef from by simp [upd, hs10, hs9])) fun F8 => ?_
          refine snp F8 rfl (by omega) (want_not F8 rfl (e := 62) rfl (by omega) (show _ = undef from by simp [upd, hs10, hs9])) fun F9 => ?_
          refine snp F9 rfl (by omega) (want_not F9 rfl (e := 62) rfl (by omega) (show _ = undef from by simp [upd, hs10, hs9])) fun F10 => ?_
          refine snp F10 rfl (by omega) (want_no F10 rfl (e := 59) rfl (by omega) (show _ = Value.bool false from by simp [upd, hs10, hs9]) (by decide)) fun F11 => ?_
          refine syp F11 rfl (by omega) (wanted_none rfl) (v := Value.bool false) (by simp only [execOp, (F11.eval 59 (by omega)).trans (show _ = Value.bool false from by simp [upd, hs10, hs9])]; simp [go_sem, Act.eval]) fun F12 => ?_
          refine ⟨?_⟩
          clear F0 F1 F2 F3 F4 F5 F6 F7 F8 F9 F10 F11 F12 hs10 hs9 
          simp only [Act.put, List.setIfInBounds_toArray, List.set_cons_succ, List.set_cons_zero]
          go_wp2_with fail
          go_loopw [12] (fun s12 wr2 => ∃ (q : Nat), q ≤ M ∧ s12 = .int .i64 q ∧ Below w5.heap.size w5 wr2) (fun s12 _ => M - (intOf s12).toNat)
          case atStart => exact ⟨0, Nat.zero_le _, rfl, Below.refl _ _⟩
          case round =>
            obtain ⟨q, hqM, rfl, hbv⟩ := hrel
            have HBV : Hid (Below w5.heap.size w5 wr) := hbv
            clear hbv
            by_cases hql : q < M
            · obtain ⟨nm, hnm⟩ : ∃ nm, nms[q]? = some nm := ⟨_, List.getElem?_eq_getElem (by rw [← HM.out]; exact hql)⟩
              obtain ⟨g, gc, hg, _, _, hgl, hgc⟩ := own_at HN5.out (by omega)
              cases hg
              obtain ⟨ga, gac, hga, _, _, hgal, hgac⟩ := own_at HV15.out (by omega)
              obtain ⟨gb, gbc, hgb, _, _, hgbl, hgbc⟩ := own_at HV25.out (by omega)
              cases hga
              cases hgb
              have e1 : (nms.map (lkOf L))[q]? = some (lkOf L nm) := by rw [List.getElem?_map, hnm]; rfl
              have e2 : (nms.map (lkOf L'))[q]? = some (lkOf L' nm) := by rw [List.getElem?_map, hnm]; rfl
              have hLk := HLK.out nm
              have hFI := HFIT.out nm
              have hOT := HOTH.out nm
              have hEQ := HEQ.out nm
              have y00 : wr.cell? ⟨g, q, none⟩ = some (.string ⟨nm.toArray⟩) := (HBV.out.cell (p := ⟨g, q, none⟩) hgl).trans (hgc q _ (by rw [List.getElem?_map, hnm]; rfl))
              have u0 : wr.cell? ⟨ga, q * 4, none⟩ = some (.int .i64 (lkOf L nm).val) := (HBV.out.cell (p := ⟨ga, q * 4, none⟩) hgal).trans (hgac (q * 4) _ (flatL_at 0 e1 (by decide)))
              have v0 : wr.cell? ⟨gb, q * 4, none⟩ = some (.int .i64 (lkOf L' nm).val) := (HBV.out.cell (p := ⟨gb, q * 4, none⟩) hgbl).trans (hgbc (q * 4) _ (flatL_at 0 e2 (by decide)))
              have u1 : wr.cell? ⟨ga, q * 4 + 1, none⟩ = some (.int .i64 (lkOf L nm).held) := (HBV.out.cell (p := ⟨ga, q * 4 + 1, none⟩) hgal).trans (hgac (q * 4 + 1) _ (flatL_at 1 e1 (by decide)))
              have v1 : wr.cell? ⟨gb, q * 4 + 1, none⟩ = some (.int .i64 (lkOf L' nm).held) := (HBV.out.cell (p := ⟨gb, q * 4 + 1, none⟩) hgbl).trans (hgbc (q * 4 + 1) _ (flatL_at 1 e2 (by decide)))
              have u2 : wr.cell? ⟨ga, q * 4 + 2, none⟩ = some (.int .i64 (lkOf L nm).lim) := (HBV.out.cell (p := ⟨ga, q * 4 + 2, none⟩) hgal).trans (hgac (q * 4 + 2) _ (flatL_at 2 e1 (by decide)))
              have v2 : wr.cell? ⟨gb, q * 4 + 2, none⟩ = some (.int .i64 (lkOf L' nm).lim) := (HBV.out.cell (p := ⟨gb, q * 4 + 2, none⟩) hgbl).trans (hgbc (q * 4 + 2) _ (flatL_at 2 e2 (by decide)))
              have u3 : wr.cell? ⟨ga, q * 4 + 3, none⟩ = some (.bool (lkOf L nm).is) := (HBV.out.cell (p := ⟨ga, q * 4 + 3, none⟩) hgal).trans (hgac (q * 4 + 3) _ (flatL_at 3 e1 (by decide)))
              have v3 : wr.cell? ⟨gb, q * 4 + 3, none⟩ = some (.bool (lkOf L' nm).is) := (HBV.out.cell (p := ⟨gb, q * 4 + 3, none⟩) hgbl).trans (hgbc (q * 4 + 3) _ (flatL_at 3 e2 (by decide)))
              clear e1 e2 hgc hgac hgbc
              generalize lkOf L nm = a at *
              generalize lkOf L' nm = c at *
              have HFI : Hid _ := hFI
              have HOT : Hid _ := hOT
              have HEQ2 : Hid _ := hEQ
              clear hFI hOT hEQ
              obtain ⟨pa, hpa⟩ : ∃ b, b = wr.heap.size := ⟨_, rfl⟩
              obtain ⟨pb, hpb⟩ : ∃ b, b = wr.heap.size + 1 := ⟨_, rfl⟩
              obtain ⟨V, hV⟩ : ∃ V, V = (wr.alloc (.cells #[.int .i64 a.val, .int .i64 a.held, .int .i64 a.lim, .bool a.is] 45)).alloc (.cells #[.int .i64 c.val, .int .i64 c.held, .int .i64 c.lim, .bool c.is] 45) := ⟨_, rfl⟩
              have hbV : Below wr.heap.size wr V := by rw [hV]; exact ((Below.refl _ _).alloc (Nat.le_refl _) _).alloc (by simp) _
              have BPA : Hid (Blk V pa #[.int .i64 a.val, .int .i64 a.held, .int .i64 a.lim, .bool a.is] 45) := show Blk V pa #[.int .i64 a.val, .int .i64 a.held, .int .i64 a.lim, .bool a.is] 45 from by rw [hV, hpa]; exact blk_alloc (heap_alloc_new wr _) _
              have BPB : Hid (Blk V pb #[.int .i64 c.val, .int .i64 c.held, .int .i64 c.lim, .bool c.is] 45) := show Blk V pb #[.int .i64 c.val, .int .i64 c.held, .int .i64 c.lim, .bool c.is] 45 from by rw [hV, hpb]; have h := heap_alloc_new (wr.alloc (.cells #[.int .i64 a.val, .int .i64 a.held, .int .i64 a.lim, .bool a.is] 45)) (.cells #[.int .i64 c.val, .int .i64 c.held, .int .i64 c.lim, .bool c.is] 45); simp only [World.size_alloc] at h; exact h
              have hX5 : Blk wr xb #[.int .i64 ok, .string ⟨on.toArray⟩, .int .i64 oa, .int .i64 ob_] 31 := BX5.out.below HBV.out BX5.out.lt
              have BXX : Hid (Blk V xb #[.int .i64 ok, .string ⟨on.toArray⟩, .int .i64 oa, .int .i64 ob_] 31) := hX5.below hbV hX5.lt
              have y0 : V.cell? ⟨g, q, none⟩ = some (.string ⟨nm.toArray⟩) := cell_below hbV y00
              have HVV : Hid (Below w5.heap.size w5 V) := HBV.out.trans (hbV.mono HBV.out.size)
              obtain ⟨hL1, hL2, hL3, hL4⟩ := hLk
              have n1 : ¬ c.val < 0 := by omega
              have n2 : ¬ c.held < 0 := by omega
              have n3 : IntKind.i64.wrap (c.val + c.held) = c.val + c.held := wr_ (by omega) (by omega)
              have n4 : ¬ c.lim < c.val + c.held := by omega
              have t0 : (wr.alloc (.cells #[.int .i64 a.val, .int .i64 a.held, .int .i64 a.lim, .bool a.is] 45)).cell? ⟨gb, q * 4, none⟩ = some (.int .i64 c.val) := cell_below ((Below.refl _ _).alloc (Nat.le_refl _) _) v0
              have t1 : (wr.alloc (.cells #[.int .i64 a.val, .int .i64 a.held, .int .i64 a.lim, .bool a.is] 45)).cell? ⟨gb, q * 4 + 1, none⟩ = some (.int .i64 c.held) := cell_below ((Below.refl _ _).alloc (Nat.le_refl _) _) v1
              have t2 : (wr.alloc (.cells #[.int .i64 a.val, .int .i64 a.held, .int .i64 a.lim, .bool a.is] 45)).cell? ⟨gb, q * 4 + 2, none⟩ = some (.int .i64 c.lim) := cell_below ((Below.refl _ _).alloc (Nat.le_refl _) _) v2
              have t3 : (wr.alloc (.cells #[.int .i64 a.val, .int .i64 a.held, .int .i64 a.lim, .bool a.is] 45)).cell? ⟨gb, q * 4 + 3, none⟩ = some (.bool c.is) := cell_below ((Below.refl _ _).alloc (Nat.le_refl _) _) v3
              clear hnm hgl hgal hgbl hL1 hL2 hL3 hL4 hX5 hbV
              go_upto_region 20 with fail
              rw [← hV, ← hpb, ← hpa]
              clear hV hpa hpb y00 u0 v0 t0 u1 v1 t1 u2 v2 t2 u3 v3 t3
              by_cases hno : nm = on
              · replace hno := hno.symm
                subst hno
                have HFJ : Hid (∀ W, _) := HFI.out rfl
                go_wp2_with fail
                rename_i K hK
                try rw [show ∀ a : Act, a.put none undef = a from fun _ => rfl]
                refine wp_region_mix (fun wq => Blk wq pb #[.int .i64 c.val, .int .i64 c.held, .int .i64 c.lim, .bool c.is] 45 ∧ Blk wq pa #[.int .i64 a.val, .int .i64 a.held, .int .i64 a.lim, .bool a.is] 45 ∧ Blk wq xb #[.int .i64 ok, .string ⟨on.toArray⟩, .int .i64 oa, .int .i64 ob_] 31 ∧ wq.cell? ⟨g, q, none⟩ = some (.string ⟨on.toArray⟩)) (fun i => i == 99) 99 (by kernel_rfl) rfl (by kernel_rfl) (by kernel_rfl) (by kernel_rfl) ?_
                refine withFrP (N := 134) rfl ?_
                intro f0 F0 hff
                have ee14 : f0 14 = Value.pointer (some ⟨pb, 0, none⟩) := hff 14
                have ee13 : f0 13 = Value.pointer (some ⟨pa, 0, none⟩) := hff 13
                have ee5 : f0 5 = Value.slice (some ⟨g, 0, none⟩) M nc := hff 5
                have ee12 : f0 12 = Value.int .i64 (q : Nat) := hff 12
                have ee7 : f0 7 = Value.pointer (some ⟨xb, 0, none⟩) := hff 7
                clear hff
                have HCC : (fun wq => Blk wq pb #[.int .i64 c.val, .int .i64 c.held, .int .i64 c.lim, .bool c.is] 45 ∧ Blk wq pa #[.int .i64 a.val, .int .i64 a.held, .int .i64 a.lim, .bool a.is] 45 ∧ Blk wq xb #[.int .i64 ok, .string ⟨on.toArray⟩, .int .i64 oa, .int .i64 ob_] 31 ∧ wq.cell? ⟨g, q, none⟩ = some (.string ⟨on.toArray⟩)) (({ V with drawn := V.drawn + 1 } : World)) := ⟨BPB.out, BPA.out, BXX.out, y0⟩
                refine lyp F0 rfl HCC rfl (by omega) (wanted_none rfl) (v := Value.pointer (some ⟨pb, 0, none⟩)) (fun wr hwr => by simp only [execOp, (F0.eval 14 (by omega)).trans (show _ = Value.pointer (some ⟨pb, 0, none⟩) from by simp [upd, ee14, ee13, ee5, ee12, ee7])]; simp [go_sem]) fun F1 => ?_
                refine lyp F1 rfl HCC rfl (by omega) (wanted_none rfl) (v := Value.int .i64 c.val) (fun wr hwr => by simp only [execOp, (F1.eval 83 (by omega)).trans (show _ = Value.pointer (some ⟨pb, 0, none⟩) from by simp [upd, ee14, ee13, ee5, ee12, ee7])]; simp [go_sem, show wr.cell? ⟨pb, 0, none⟩ = some (.int .i64 c.val) from hwr.1.cell 0]) fun F2 => ?_
                refine lyp F2 rfl HCC rfl (by omega) (wanted_none rfl) (v := Value.bool false) (fun wr hwr => by simp only [execOp, (F2.eval 84 (by omega)).trans (show _ = Value.int .i64 c.val from by simp [upd, ee14, ee13, ee5, ee12, ee7])]; simp [go_sem, Act.eval, n1]) fun F3 => ?_
                refine lyp F3 rfl HCC rfl (by omega) (wanted_none rfl) (v := Value.bool false) (fun wr hwr => by simp only [execOp, (F3.eval 85 (by omega)).trans (show _ = Value.bool false from by simp [upd, ee14, ee13, ee5, ee12, ee7])]; first | rfl | simp [go_sem]) fun F4 => ?_
                refine lyp F4 rfl HCC rfl (by omega) (want_yes F4 rfl (e := 86) rfl (by omega) (show _ = Value.bool false from by simp [upd, ee14, ee13, ee5, ee12, ee7])) (v := Value.pointer (some ⟨pb, 1, none⟩)) (fun wr hwr => by simp only [execOp, (F4.eval 14 (by omega)).trans (show _ = Value.pointer (some ⟨pb, 0, none⟩) from by simp [upd, ee14, ee13, ee5, ee12, ee7])]; simp [go_sem]) fun F5 => ?_
                refine lyp F5 rfl HCC rfl (by omega) (want_yes F5 rfl (e := 86) rfl (by omega) (show _ = Value.bool false from by simp [upd, ee14, ee13, ee5, ee12, ee7])) (v := Value.int .i64 c.held) (fun wr hwr => by simp only [execOp, (F5.eval 87 (by omega)).trans (show _ = Value.pointer (some ⟨pb, 1, none⟩) from by simp [upd, ee14, ee13, ee5, ee12, ee7])]; simp [go_sem, show wr.cell? ⟨pb, 1, none⟩ = some (.int .i64 c.held) from hwr.1.cell 1]) fun F6 => ?_
                refine lyp F6 rfl HCC rfl (by omega) (want_yes F6 rfl (e := 86) rfl (by omega) (show _ = Value.bool false from by simp [upd, ee14, ee13, ee5, ee12, ee7])) (v := Value.bool false) (fun wr hwr => by simp only [execOp, (F6.eval 88 (by omega)).trans (show _ = Value.int .i64 c.held from by simp [upd, ee14, ee13, ee5, ee12, ee7])]; simp [go_sem, Act.eval, n2]) fun F7 => ?_
                refine lyp F7 rfl HCC rfl (by omega) (wanted_none rfl) (v := Value.bool false) (fun wr hwr => by simp only [execOp, (F7.eval 86 (by omega)).trans (show _ = Value.bool false from by simp [upd, ee14, ee13, ee5, ee12, ee7]), (F7.eval 89 (by omega)).trans (show _ = Value.bool false from by simp [upd, ee14, ee13, ee5, ee12, ee7])]; simp [go_sem, Act.eval]) fun F8 => ?_
                refine lyp F8 rfl HCC rfl (by omega) (wanted_none rfl) (v := Value.bool false) (fun wr hwr => by simp only [execOp, (F8.eval 90 (by omega)).trans (show _ = Value.bool false from by simp [upd, ee14, ee13, ee5, ee12, ee7])]; first | rfl | simp [go_sem]) fun F9 => ?_
                refine lyp F9 rfl HCC rfl (by omega) (want_yes F9 rfl (e := 91) rfl (by omega) (show _ = Value.bool false from by simp [upd, ee14, ee13, ee5, ee12, ee7])) (v := Value.pointer (some ⟨pb, 0, none⟩)) (fun wr hwr => by simp only [execOp, (F9.eval 14 (by omega)).trans (show _ = Value.pointer (some ⟨pb, 0, none⟩) from by simp [upd, ee14, ee13, ee5, ee12, ee7])]; simp [go_sem]) fun F10 => ?_
                refine lyp F10 rfl HCC rfl (by omega) (want_yes F10 rfl (e := 91) rfl (by omega) (show _ = Value.bool false from by simp [upd, ee14, ee13, ee5, ee12, ee7])) (v := Value.int .i64 c.val) (fun wr hwr => by simp only [execOp, (F10.eval 92 (by omega)).trans (show _ = Value.pointer (some ⟨pb, 0, none⟩) from by simp [upd, ee14, ee13, ee5, ee12, ee7])]; simp [go_sem, show wr.cell? ⟨pb, 0, none⟩ = some (.int .i64 c.val) from hwr.1.cell 0]) fun F11 => ?_
                refine lyp F11 rfl HCC rfl (by omega) (want_yes F11 rfl (e := 91) rfl (by omega) (show _ = Value.bool false from by simp [upd, ee14, ee13, ee5, ee12, ee7])) (v := Value.pointer (some ⟨pb, 1, none⟩)) (fun wr hwr => by simp only [execOp, (F11.eval 14 (by omega)).trans (show _ = Value.pointer (some ⟨pb, 0, none⟩) from by simp [upd, ee14, ee13, ee5, ee12, ee7])]; simp [go_sem]) fun F12 => ?_
                refine lyp F12 rfl HCC rfl (by omega) (want_yes F12 rfl (e := 91) rfl (by omega) (show _ = Value.bool false from by simp [upd, ee14, ee13, ee5, ee12, ee7])) (v := Value.int .i64 c.held) (fun wr hwr => by simp only [execOp, (F12.eval 94 (by omega)).trans (show _ = Value.pointer (some ⟨pb, 1, none⟩) from by simp [upd, ee14, ee13, ee5, ee12, ee7])]; simp [go_sem, show wr.cell? ⟨pb, 1, none⟩ = some (.int .i64 c.held) from hwr.1.cell 1]) fun F13 => ?_
                refine lyp F13 rfl HCC rfl (by omega) (want_yes F13 rfl (e := 91) rfl (by omega) (show _ = Value.bool false from by simp [upd, ee14, ee13, ee5, ee12, ee7])) (v := Value.int .i64 (c.val + c.held)) (fun wr hwr => by simp only [execOp, (F13.eval 93 (by omega)).trans (show _ = Value.int .i64 c.val from by simp [upd, ee14, ee13, ee5, ee12, ee7]), (F13.eval 95 (by omega)).trans (show _ = Value.int .i64 c.held from by simp [upd, ee14, ee13, ee5, ee12, ee7])]; simp [go_sem, Act.eval, n3]) fun F14 => ?_
                refine lyp F14 rfl HCC rfl (by omega) (want_yes F14 rfl (e := 91) rfl (by omega) (show _ = Value.bool false from by simp [upd, ee14, ee13, ee5, ee12, ee7])) (v := Value.pointer (some ⟨pb, 2, none⟩)) (fun wr hwr => by simp only [execOp, (F14.eval 14 (by omega)).trans (show _ = Value.pointer (some ⟨pb, 0, none⟩) from by simp [upd, ee14, ee13, ee5, ee12, ee7])]; simp [go_sem]) fun F15 => ?_
                refine lyp F15 rfl HCC rfl (by omega) (want_yes F15 rfl (e := 91) rfl (by omega) (show _ = Value.bool false from by simp [upd, ee14, ee13, ee5, ee12, ee7])) (v := Value.int .i64 c.lim) (fun wr hwr => by simp only [execOp, (F15.eval 97 (by omega)).trans (show _ = Value.pointer (some ⟨pb, 2, none⟩) from by simp [upd, ee14, ee13, ee5, ee12, ee7])]; simp [go_sem, show wr.cell? ⟨pb, 2, none⟩ = some (.int .i64 c.lim) from hwr.1.cell 2]) fun F16 => ?_
                refine lyp F16 rfl HCC rfl (by omega) (want_yes F16 rfl (e := 91) rfl (by omega) (show _ = Value.bool false from by simp [upd, ee14, ee13, ee5, ee12, ee7])) (v := Value.bool false) (fun wr hwr => by simp only [execOp, (F16.eval 96 (by omega)).trans (show _ = Value.int .i64 (c.val + c.held) from by simp [upd, ee14, ee13, ee5, ee12, ee7]), (F16.eval 98 (by omega)).trans (show _ = Value.int .i64 c.lim from by simp [upd, ee14, ee13, ee5, ee12, ee7])]; simp [go_sem, Act.eval, n4]) fun F17 => ?_
                refine lyp F17 rfl HCC rfl (by omega) (wanted_none rfl) (v := Value.bool false) (fun wr hwr => by simp only [execOp, (F17.eval 91 (by omega)).trans (show _ = Value.bool false from by simp [upd, ee14, ee13, ee5, ee12, ee7]), (F17.eval 99 (by omega)).trans (show _ = Value.bool false from by simp [upd, ee14, ee13, ee5, ee12, ee7])]; simp [go_sem, Act.eval]) fun F18 => ?_
                refine lyp F18 rfl HCC rfl (by omega) (wanted_none rfl) (v := Value.bool false) (fun wr hwr => by simp only [execOp, (F18.eval 100 (by omega)).trans (show _ = Value.bool false from by simp [upd, ee14, ee13, ee5, ee12, ee7])]; first | rfl | simp [go_sem]) fun F19 => ?_
                refine lyp F19 rfl HCC rfl (by omega) (want_yes F19 rfl (e := 101) rfl (by omega) (show _ = Value.bool false from by simp [upd, ee14, ee13, ee5, ee12, ee7])) (v := Value.slice (some ⟨g, 0, none⟩) M nc) (fun wr hwr => by simp only [execOp, (F19.eval 5 (by omega)).trans (show _ = Value.slice (some ⟨g, 0, none⟩) M nc from by simp [upd, ee14, ee13, ee5, ee12, ee7])]; first | rfl | simp [go_sem]) fun F20 => ?_
                refine lyp F20 rfl HCC rfl (by omega) (want_yes F20 rfl (e := 101) rfl (by omega) (show _ = Value.bool false from by simp [upd, ee14, ee13, ee5, ee12, ee7])) (v := Value.int .i64 (q : Nat)) (fun wr hwr => by simp only [execOp, (F20.eval 12 (by omega)).trans (show _ = Value.int .i64 (q : Nat) from by simp [upd, ee14, ee13, ee5, ee12, ee7])]; first | rfl | simp [go_sem]) fun F21 => ?_
                refine lyp F21 rfl HCC rfl (by omega) (want_yes F21 rfl (e := 101) rfl (by omega) (show _ = Value.bool false from by simp [upd, ee14, ee13, ee5, ee12, ee7])) (v := Value.pointer (some ⟨g, q, none⟩)) (fun wr hwr => by simp only [execOp, (F21.eval 102 (by omega)).trans (show _ = Value.slice (some ⟨g, 0, none⟩) M nc from by simp [upd, ee14, ee13, ee5, ee12, ee7]), (F21.eval 103 (by omega)).trans (show _ = Value.int .i64 (q : Nat) from by simp [upd, ee14, ee13, ee5, ee12, ee7])]; simp only [Sem.run_bind, Sem.run_pure, Result.andThen_ok, idx_run 39 9 1 Try.underlying39 (by kernel_rfl) wr g 0 M nc q (by omega), Nat.zero_add, Nat.mul_one]; try rfl) fun F22 => ?_
                refine lyp F22 rfl HCC rfl (by omega) (want_yes F22 rfl (e := 101) rfl (by omega) (show _ = Value.bool false from by simp [upd, ee14, ee13, ee5, ee12, ee7])) (v := Value.string ⟨on.toArray⟩) (fun wr hwr => by simp only [execOp, (F22.eval 104 (by omega)).trans (show _ = Value.pointer (some ⟨g, q, none⟩) from by simp [upd, ee14, ee13, ee5, ee12, ee7])]; simp [go_sem, hwr.2.2.2]) fun F23 => ?_
                refine lyp F23 rfl HCC rfl (by omega) (want_yes F23 rfl (e := 101) rfl (by omega) (show _ = Value.bool false from by simp [upd, ee14, ee13, ee5, ee12, ee7])) (v := Value.pointer (some ⟨xb, 1, none⟩)) (fun wr hwr => by simp only [execOp, (F23.eval 7 (by omega)).trans (show _ = Value.pointer (some ⟨xb, 0, none⟩) from by simp [upd, ee14, ee13, ee5, ee12, ee7])]; simp [go_sem]) fun F24 => ?_
                refine lyp F24 rfl HCC rfl (by omega) (want_yes F24 rfl (e := 101) rfl (by omega) (show _ = Value.bool false from by simp [upd, ee14, ee13, ee5, ee12, ee7])) (v := Value.string ⟨on.toArray⟩) (fun wr hwr => by simp only [execOp, (F24.eval 106 (by omega)).trans (show _ = Value.pointer (some ⟨xb, 1, none⟩) from by simp [upd, ee14, ee13, ee5, ee12, ee7])]; simp [go_sem, show wr.cell? ⟨xb, 1, none⟩ = some (.string ⟨on.toArray⟩) from hwr.2.2.1.cell 1]) fun F25 => ?_
                refine lyp F25 rfl HCC rfl (by omega) (want_yes F25 rfl (e := 101) rfl (by omega) (show _ = Value.bool false from by simp [upd, ee14, ee13, ee5, ee12, ee7])) (v := Value.bool false) (fun wr hwr => by simp only [execOp, (F25.eval 105 (by omega)).trans (show _ = Value.string ⟨on.toArray⟩ from by simp [upd, ee14, ee13, ee5, ee12, ee7]), (F25.eval 107 (by omega)).trans (show _ = Value.string ⟨on.toArray⟩ from by simp [upd, ee14, ee13, ee5, ee12, ee7])]; simp [go_sem, Act.eval]) fun F26 => ?_
                refine lyp F26 rfl HCC rfl (by omega) (want_yes F26 rfl (e := 101) rfl (by omega) (show _ = Value.bool false from by simp [upd, ee14, ee13, ee5, ee12, ee7])) (v := Value.bool false) (fun wr hwr => by simp only [execOp, (F26.eval 108 (by omega)).trans (show _ = Value.bool false from by simp [upd, ee14, ee13, ee5, ee12, ee7])]; first | rfl | simp [go_sem]) fun F27 => ?_
                refine lnp F27 rfl HCC rfl (by omega) (want_no F27 rfl (e := 109) rfl (by omega) (show _ = Value.bool false from by simp [upd, ee14, ee13, ee5, ee12, ee7]) (by decide)) fun F28 => ?_
                refine lnp F28 rfl HCC rfl (by omega) (want_no F28 rfl (e := 109) rfl (by omega) (show _ = Value.bool false from by simp [upd, ee14, ee13, ee5, ee12, ee7]) (by decide)) fun F29 => ?_
                refine lnp F29 rfl HCC rfl (by omega) (want_no F29 rfl (e := 109) rfl (by omega) (show _ = Value.bool false from by simp [upd, ee14, ee13, ee5, ee12, ee7]) (by decide)) fun F30 => ?_
                refine lyp F30 rfl HCC rfl (by omega) (want_yes F30 rfl (e := 101) rfl (by omega) (show _ = Value.bool false from by simp [upd, ee14, ee13, ee5, ee12, ee7])) (v := Value.bool false) (fun wr hwr => by simp only [execOp, (F30.eval 109 (by omega)).trans (show _ = Value.bool false from by simp [upd, ee14, ee13, ee5, ee12, ee7])]; simp [go_sem, Act.eval]) fun F31 => ?_
                refine lyp F31 rfl HCC rfl (by omega) (wanted_none rfl) (v := Value.bool false) (fun wr hwr => by simp only [execOp, (F31.eval 101 (by omega)).trans (show _ = Value.bool false from by simp [upd, ee14, ee13, ee5, ee12, ee7]), (F31.eval 113 (by omega)).trans (show _ = Value.bool false from by simp [upd, ee14, ee13, ee5, ee12, ee7])]; simp [go_sem, Act.eval]) fun F32 => ?_
                refine ⟨fun _ => HCC, ?_⟩
                refine hK _ _ ?_
                clear F0 F1 F2 F3 F4 F5 F6 F7 F8 F9 F10 F11 F12 F13 F14 F15 F16 F17 F18 F19 F20 F21 F22 F23 F24 F25 F26 F27 F28 F29 F30 F31 F32 ee14 ee13 ee5 ee12 ee7 HCC
                simp only [Act.put, List.setIfInBounds_toArray, List.set_cons_succ, List.set_cons_zero]
                obtain ⟨U, hU⟩ : ∃ U, U = ({ V with drawn := V.drawn + 1 } : World) := ⟨_, rfl⟩
                have hPA : Blk U pa #[.int .i64 a.val, .int .i64 a.held, .int .i64 a.lim, .bool a.is] 45 := by rw [hU]; exact BPA.out
                have hPB : Blk U pb #[.int .i64 c.val, .int .i64 c.held, .int .i64 c.lim, .bool c.is] 45 := by rw [hU]; exact BPB.out
                have hXX : Blk U xb #[.int .i64 ok, .string ⟨on.toArray⟩, .int .i64 oa, .int .i64 ob_] 31 := by rw [hU]; exact BXX.out
                have hy0 : U.cell? ⟨g, q, none⟩ = some (.string ⟨on.toArray⟩) := by rw [hU]; exact y0
                have HUU : Hid (Below w5.heap.size w5 U) := show Below w5.heap.size w5 U from by rw [hU]; exact Below.drew HVV.out
                rw [← hU]
                clear BPA BPB BXX y0 HVV hU
                have BPA : Hid (Blk U pa #[.int .i64 a.val, .int .i64 a.held, .int .i64 a.lim, .bool a.is] 45) := hPA
                have BPB : Hid (Blk U pb #[.int .i64 c.val, .int .i64 c.held, .int .i64 c.lim, .bool c.is] 45) := hPB
                have BXX : Hid (Blk U xb #[.int .i64 ok, .string ⟨on.toArray⟩, .int .i64 oa, .int .i64 ob_] 31) := hXX
                have y0 := hy0
                clear hPA hPB hXX hy0
                go_wp2_with fail
                rename_i K hK
                try rw [show ∀ a : Act, a.put none undef = a from fun _ => rfl]
                refine wp_region_mix (fun wq => Blk wq pb #[.int .i64 c.val, .int .i64 c.held, .int .i64 c.lim, .bool c.is] 45 ∧ Blk wq pa #[.int .i64 a.val, .int .i64 a.held, .int .i64 a.lim, .bool a.is] 45 ∧ Blk wq xb #[.int .i64 ok, .string ⟨on.toArray⟩, .int .i64 oa, .int .i64 ob_] 31 ∧ wq.cell? ⟨g, q, none⟩ = some (.string ⟨on.toArray⟩)) (fun i => i == 16 || i == 99) 99 (by kernel_rfl) rfl (by kernel_rfl) (by kernel_rfl) (by kernel_rfl) ?_
                refine withFrP (N := 134) rfl ?_
                intro f0 F0 hff
                have ee14 : f0 14 = Value.pointer (some ⟨pb, 0, none⟩) := hff 14
                have ee13 : f0 13 = Value.pointer (some ⟨pa, 0, none⟩) := hff 13
                have ee5 : f0 5 = Value.slice (some ⟨g, 0, none⟩) M nc := hff 5
                have ee12 : f0 12 = Value.int .i64 (q : Nat) := hff 12
                have ee7 : f0 7 = Value.pointer (some ⟨xb, 0, none⟩) := hff 7
                have ee10 : f0 10 = Value.int .i64 R.1.2 := hff 10
                have ee9 : f0 9 = Value.int .i64 R.1.1 := hff 9
                clear hff
                have HCC : (fun wq => Blk wq pb #[.int .i64 c.val, .int .i64 c.held, .int .i64 c.lim, .bool c.is] 45 ∧ Blk wq pa #[.int .i64 a.val, .int .i64 a.held, .int .i64 a.lim, .bool a.is] 45 ∧ Blk wq xb #[.int .i64 ok, .string ⟨on.toArray⟩, .int .i64 oa, .int .i64 ob_] 31 ∧ wq.cell? ⟨g, q, none⟩ = some (.string ⟨on.toArray⟩)) (({ U with drawn := U.drawn + 1 } : World)) := ⟨BPB.out, BPA.out, BXX.out, y0⟩
                refine lyp F0 rfl HCC rfl (by omega) (wanted_none rfl) (v := Value.slice (some ⟨g, 0, none⟩) M nc) (fun wr hwr => by simp only [execOp, (F0.eval 5 (by omega)).trans (show _ = Value.slice (some ⟨g, 0, none⟩) M nc from by simp [upd, ee14, ee13, ee5, ee12, ee7, ee10, ee9])]; first | rfl | simp [go_sem]) fun F1 => ?_
                refine lyp F1 rfl HCC rfl (by omega) (wanted_none rfl) (v := Value.int .i64 (q : Nat)) (fun wr hwr => by simp only [execOp, (F1.eval 12 (by omega)).trans (show _ = Value.int .i64 (q : Nat) from by simp [upd, ee14, ee13, ee5, ee12, ee7, ee10, ee9])]; first | rfl | simp [go_sem]) fun F2 => ?_
                refine lyp F2 rfl HCC rfl (by omega) (wanted_none rfl) (v := Value.pointer (some ⟨g, q, none⟩)) (fun wr hwr => by simp only [execOp, (F2.eval 115 (by omega)).trans (show _ = Value.slice (some ⟨g, 0, none⟩) M nc from by simp [upd, ee14, ee13, ee5, ee12, ee7, ee10, ee9]), (F2.eval 116 (by omega)).trans (show _ = Value.int .i64 (q : Nat) from by simp [upd, ee14, ee13, ee5, ee12, ee7, ee10, ee9])]; simp only [Sem.run_bind, Sem.run_pure, Result.andThen_ok, idx_run 39 9 1 Try.underlying39 (by kernel_rfl) wr g 0 M nc q (by omega), Nat.zero_add, Nat.mul_one]; try rfl) fun F3 => ?_
                refine lyp F3 rfl HCC rfl (by omega) (wanted_none rfl) (v := Value.string ⟨on.toArray⟩) (fun wr hwr => by simp only [execOp, (F3.eval 117 (by omega)).trans (show _ = Value.pointer (some ⟨g, q, none⟩) from by simp [upd, ee14, ee13, ee5, ee12, ee7, ee10, ee9])]; simp [go_sem, hwr.2.2.2]) fun F4 => ?_
                refine lyp F4 rfl HCC rfl (by omega) (wanted_none rfl) (v := Value.pointer (some ⟨xb, 1, none⟩)) (fun wr hwr => by simp only [execOp, (F4.eval 7 (by omega)).trans (show _ = Value.pointer (some ⟨xb, 0, none⟩) from by simp [upd, ee14, ee13, ee5, ee12, ee7, ee10, ee9])]; simp [go_sem]) fun F5 => ?_
                refine lyp F5 rfl HCC rfl (by omega) (wanted_none rfl) (v := Value.string ⟨on.toArray⟩) (fun wr hwr => by simp only [execOp, (F5.eval 119 (by omega)).trans (show _ = Value.pointer (some ⟨xb, 1, none⟩) from by simp [upd, ee14, ee13, ee5, ee12, ee7, ee10, ee9])]; simp [go_sem, show wr.cell? ⟨xb, 1, none⟩ = some (.string ⟨on.toArray⟩) from hwr.2.2.1.cell 1]) fun F6 => ?_
                refine lyp F6 rfl HCC rfl (by omega) (wanted_none rfl) (v := Value.bool true) (fun wr hwr => by simp only [execOp, (F6.eval 118 (by omega)).trans (show _ = Value.string ⟨on.toArray⟩ from by simp [upd, ee14, ee13, ee5, ee12, ee7, ee10, ee9]), (F6.eval 120 (by omega)).trans (show _ = Value.string ⟨on.toArray⟩ from by simp [upd, ee14, ee13, ee5, ee12, ee7, ee10, ee9])]; simp [go_sem, Act.eval]) fun F7 => ?_
                refine lyp F7 rfl HCC rfl (by omega) (wanted_none rfl) (v := Value.bool true) (fun wr hwr => by simp only [execOp, (F7.eval 121 (by omega)).trans (show _ = Value.bool true from by simp [upd, ee14, ee13, ee5, ee12, ee7, ee10, ee9])]; first | rfl | simp [go_sem]) fun F8 => ?_
                refine lyp F8 rfl HCC rfl (by omega) (want_yes F8 rfl (e := 122) rfl (by omega) (show _ = Value.bool true from by simp [upd, ee14, ee13, ee5, ee12, ee7, ee10, ee9])) (v := Value.int .i64 R.1.2) (fun wr hwr => by simp only [execOp, (F8.eval 10 (by omega)).trans (show _ = Value.int .i64 R.1.2 from by simp [upd, ee14, ee13, ee5, ee12, ee7, ee10, ee9])]; first | rfl | simp [go_sem]) fun F9 => ?_
                refine lyp F9 rfl HCC rfl (by omega) (want_yes F9 rfl (e := 122) rfl (by omega) (show _ = Value.bool true from by simp [upd, ee14, ee13, ee5, ee12, ee7, ee10, ee9])) (v := Value.bool true) (fun wr hwr => by simp only [execOp, (F9.eval 123 (by omega)).trans (show _ = Value.int .i64 R.1.2 from by simp [upd, ee14, ee13, ee5, ee12, ee7, ee10, ee9])]; simp [go_sem, Act.eval, her]) fun F10 => ?_
                refine lyp F10 rfl HCC rfl (by omega) (wanted_none rfl) (v := Value.bool true) (fun wr hwr => by simp only [execOp, (F10.eval 122 (by omega)).trans (show _ = Value.bool true from by simp [upd, ee14, ee13, ee5, ee12, ee7, ee10, ee9]), (F10.eval 124 (by omega)).trans (show _ = Value.bool true from by simp [upd, ee14, ee13, ee5, ee12, ee7, ee10, ee9])]; simp [go_sem, Act.eval]) fun F11 => ?_
                refine lyp F11 rfl HCC rfl (by omega) (wanted_none rfl) (v := Value.bool true) (fun wr hwr => by simp only [execOp, (F11.eval 125 (by omega)).trans (show _ = Value.bool true from by simp [upd, ee14, ee13, ee5, ee12, ee7, ee10, ee9])]; first | rfl | simp [go_sem]) fun F12 => ?_
                refine lyp F12 rfl HCC rfl (by omega) (want_yes F12 rfl (e := 126) rfl (by omega) (show _ = Value.bool true from by simp [upd, ee14, ee13, ee5, ee12, ee7, ee10, ee9])) (v := Value.agg #[.int .i64 ok, .string ⟨on.toArray⟩, .int .i64 oa, .int .i64 ob_]) (fun wr hwr => by simp only [execOp, (F12.eval 7 (by omega)).trans (show _ = Value.pointer (some ⟨xb, 0, none⟩) from by simp [upd, ee14, ee13, ee5, ee12, ee7, ee10, ee9])]; simp [go_sem, show wr.cell? ⟨xb, 0, none⟩ = some (.int .i64 ok) from hwr.2.2.1.cell 0, show wr.cell? ⟨xb, 1, none⟩ = some (.string ⟨on.toArray⟩) from hwr.2.2.1.cell 1, show wr.cell? ⟨xb, 2, none⟩ = some (.int .i64 oa) from hwr.2.2.1.cell 2, show wr.cell? ⟨xb, 3, none⟩ = some (.int .i64 ob_) from hwr.2.2.1.cell 3]) fun F13 => ?_
                refine lyp F13 rfl HCC rfl (by omega) (want_yes F13 rfl (e := 126) rfl (by omega) (show _ = Value.bool true from by simp [upd, ee14, ee13, ee5, ee12, ee7, ee10, ee9])) (v := Value.int .i64 R.1.1) (fun wr hwr => by simp only [execOp, (F13.eval 9 (by omega)).trans (show _ = Value.int .i64 R.1.1 from by simp [upd, ee14, ee13, ee5, ee12, ee7, ee10, ee9])]; first | rfl | simp [go_sem]) fun F14 => ?_
                refine lyp F14 rfl HCC rfl (by omega) (want_yes F14 rfl (e := 126) rfl (by omega) (show _ = Value.bool true from by simp [upd, ee14, ee13, ee5, ee12, ee7, ee10, ee9])) (v := Value.agg #[.int .i64 a.val, .int .i64 a.held, .int .i64 a.lim, .bool a.is]) (fun wr hwr => by simp only [execOp, (F14.eval 13 (by omega)).trans (show _ = Value.pointer (some ⟨pa, 0, none⟩) from by simp [upd, ee14, ee13, ee5, ee12, ee7, ee10, ee9])]; simp [go_sem, show wr.cell? ⟨pa, 0, none⟩ = some (.int .i64 a.val) from hwr.2.1.cell 0, show wr.cell? ⟨pa, 1, none⟩ = some (.int .i64 a.held) from hwr.2.1.cell 1, show wr.cell? ⟨pa, 2, none⟩ = some (.int .i64 a.lim) from hwr.2.1.cell 2, show wr.cell? ⟨pa, 3, none⟩ = some (.bool a.is) from hwr.2.1.cell 3]) fun F15 => ?_
                refine lyp F15 rfl HCC rfl (by omega) (want_yes F15 rfl (e := 126) rfl (by omega) (show _ = Value.bool true from by simp [upd, ee14, ee13, ee5, ee12, ee7, ee10, ee9])) (v := Value.agg #[.int .i64 c.val, .int .i64 c.held, .int .i64 c.lim, .bool c.is]) (fun wr hwr => by simp only [execOp, (F15.eval 14 (by omega)).trans (show _ = Value.pointer (some ⟨pb, 0, none⟩) from by simp [upd, ee14, ee13, ee5, ee12, ee7, ee10, ee9])]; simp [go_sem, show wr.cell? ⟨pb, 0, none⟩ = some (.int .i64 c.val) from hwr.1.cell 0, show wr.cell? ⟨pb, 1, none⟩ = some (.int .i64 c.held) from hwr.1.cell 1, show wr.cell? ⟨pb, 2, none⟩ = some (.int .i64 c.lim) from hwr.1.cell 2, show wr.cell? ⟨pb, 3, none⟩ = some (.bool c.is) from hwr.1.cell 3]) fun F16 => ?_
                refine lcp F16 rfl HCC rfl (by omega) (want_yes F16 rfl (e := 126) rfl (by omega) (show _ = Value.bool true from by simp [upd, ee14, ee13, ee5, ee12, ee7, ee10, ee9])) (g := 18) (args := #[Value.agg #[.int .i64 ok, .string ⟨on.toArray⟩, .int .i64 oa, .int .i64 ob_], Value.int .i64 R.1.1, Value.agg #[.int .i64 a.val, .int .i64 a.held, .int .i64 a.lim, .bool a.is], Value.agg #[.int .i64 c.val, .int .i64 c.held, .int .i64 c.lim, .bool c.is]]) (by simp only [execOp, resolve, invoke, List.map_toArray, List.map_cons, List.map_nil, (F16.eval 127 (by omega)).trans (show _ = Value.agg #[.int .i64 ok, .string ⟨on.toArray⟩, .int .i64 oa, .int .i64 ob_] from by simp [upd, ee14, ee13, ee5, ee12, ee7, ee10, ee9]), (F16.eval 128 (by omega)).trans (show _ = Value.int .i64 R.1.1 from by simp [upd, ee14, ee13, ee5, ee12, ee7, ee10, ee9]), (F16.eval 129 (by omega)).trans (show _ = Value.agg #[.int .i64 a.val, .int .i64 a.held, .int .i64 a.lim, .bool a.is] from by simp [upd, ee14, ee13, ee5, ee12, ee7, ee10, ee9]), (F16.eval 130 (by omega)).trans (show _ = Value.agg #[.int .i64 c.val, .int .i64 c.held, .int .i64 c.lim, .bool c.is] from by simp [upd, ee14, ee13, ee5, ee12, ee7, ee10, ee9])]; simp [go_sem, Act.eval]) (HFJ.out (({ U with drawn := U.drawn + 1 } : World))) ?_
                rintro e9 w8 ⟨rfl, hb8⟩
                refine ⟨_, rfl, fun F17 => ?_⟩
                have HC2 : (fun wq => Blk wq pb #[.int .i64 c.val, .int .i64 c.held, .int .i64 c.lim, .bool c.is] 45 ∧ Blk wq pa #[.int .i64 a.val, .int .i64 a.held, .int .i64 a.lim, .bool a.is] 45 ∧ Blk wq xb #[.int .i64 ok, .string ⟨on.toArray⟩, .int .i64 oa, .int .i64 ob_] 31 ∧ wq.cell? ⟨g, q, none⟩ = some (.string ⟨on.toArray⟩)) w8 := ⟨HCC.1.below hb8 HCC.1.lt, HCC.2.1.below hb8 HCC.2.1.lt, HCC.2.2.1.below hb8 HCC.2.2.1.lt, cell_below hb8 HCC.2.2.2⟩
                refine lyp F17 rfl HC2 rfl (by omega) (want_yes F17 rfl (e := 126) rfl (by omega) (show _ = Value.bool true from by simp [upd, ee14, ee13, ee5, ee12, ee7, ee10, ee9])) (v := Value.bool false) (fun wr hwr => by simp only [execOp, (F17.eval 131 (by omega)).trans (show _ = Value.bool true from by simp [upd, ee14, ee13, ee5, ee12, ee7, ee10, ee9])]; simp [go_sem, Act.eval]) fun F18 => ?_
                refine lyp F18 rfl HC2 rfl (by omega) (wanted_none rfl) (v := Value.bool false) (fun wr hwr => by simp only [execOp, (F18.eval 126 (by omega)).trans (show _ = Value.bool true from by simp [upd, ee14, ee13, ee5, ee12, ee7, ee10, ee9]), (F18.eval 132 (by omega)).trans (show _ = Value.bool false from by simp [upd, ee14, ee13, ee5, ee12, ee7, ee10, ee9])]; simp [go_sem, Act.eval]) fun F19 => ?_
                refine ⟨fun _ => HC2, ?_⟩
                refine hK _ _ ?_
                clear F0 F1 F2 F3 F4 F5 F6 F7 F8 F9 F10 F11 F12 F13 F14 F15 F16 F17 F18 F19 ee14 ee13 ee5 ee12 ee7 ee10 ee9 HCC HC2
                simp only [Act.put, List.setIfInBounds_toArray, List.set_cons_succ, List.set_cons_zero]
                have HF : Hid (Below w5.heap.size w5 w8) := (Below.drew HUU.out).trans (hb8.mono HUU.out.size)
                clear hb8
                go_wp2_with fail
                go_roundw
                case rel => exact ⟨q + 1, by omega, by go_num, HF.out⟩
                case measure => simp [intOf]; omega
              · have hne : (nm == on) = false := by simpa using hno
                have hac := (HOT.out hno).symm
                subst hac
                clear hno
                go_wp2_with fail
                rename_i K hK
                try rw [show ∀ a : Act, a.put none undef = a from fun _ => rfl]
                refine wp_region_mix (fun wq => Blk wq pb #[.int .i64 c.val, .int .i64 c.held, .int .i64 c.lim, .bool c.is] 45 ∧ Blk wq pa #[.int .i64 c.val, .int .i64 c.held, .int .i64 c.lim, .bool c.is] 45 ∧ Blk wq xb #[.int .i64 ok, .string ⟨on.toArray⟩, .int .i64 oa, .int .i64 ob_] 31 ∧ wq.cell? ⟨g, q, none⟩ = some (.string ⟨nm.toArray⟩)) (fun i => i == 99) 99 (by kernel_rfl) rfl (by kernel_rfl) (by kernel_rfl) (by kernel_rfl) ?_
                refine withFrP (N := 134) rfl ?_
                intro f0 F0 hff
                have ee14 : f0 14 = Value.pointer (some ⟨pb, 0, none⟩) := hff 14
                have ee13 : f0 13 = Value.pointer (some ⟨pa, 0, none⟩) := hff 13
                have ee5 : f0 5 = Value.slice (some ⟨g, 0, none⟩) M nc := hff 5
                have ee12 : f0 12 = Value.int .i64 (q : Nat) := hff 12
                have ee7 : f0 7 = Value.pointer (some ⟨xb, 0, none⟩) := hff 7
                clear hff
                have HCC : (fun wq => Blk wq pb #[.int .i64 c.val, .int .i64 c.held, .int .i64 c.lim, .bool c.is] 45 ∧ Blk wq pa #[.int .i64 c.val, .int .i64 c.held, .int .i64 c.lim, .bool c.is] 45 ∧ Blk wq xb #[.int .i64 ok, .string ⟨on.toArray⟩, .int .i64 oa, .int .i64 ob_] 31 ∧ wq.cell? ⟨g, q, none⟩ = some (.string ⟨nm.toArray⟩)) (({ V with drawn := V.drawn + 1 } : World)) := ⟨BPB.out, BPA.out, BXX.out, y0⟩
                refine lyp F0 rfl HCC rfl (by omega) (wanted_none rfl) (v := Value.pointer (some ⟨pb, 0, none⟩)) (fun wr hwr => by simp only [execOp, (F0.eval 14 (by omega)).trans (show _ = Value.pointer (some ⟨pb, 0, none⟩) from by simp [upd, ee14, ee13, ee5, ee12, ee7])]; simp [go_sem]) fun F1 => ?_
                refine lyp F1 rfl HCC rfl (by omega) (wanted_none rfl) (v := Value.int .i64 c.val) (fun wr hwr => by simp only [execOp, (F1.eval 83 (by omega)).trans (show _ = Value.pointer (some ⟨pb, 0, none⟩) from by simp [upd, ee14, ee13, ee5, ee12, ee7])]; simp [go_sem, show wr.cell? ⟨pb, 0, none⟩ = some (.int .i64 c.val) from hwr.1.cell 0]) fun F2 => ?_
                refine lyp F2 rfl HCC rfl (by omega) (wanted_none rfl) (v := Value.bool false) (fun wr hwr => by simp only [execOp, (F2.eval 84 (by omega)).trans (show _ = Value.int .i64 c.val from by simp [upd, ee14, ee13, ee5, ee12, ee7])]; simp [go_sem, Act.eval, n1]) fun F3 => ?_
                refine lyp F3 rfl HCC rfl (by omega) (wanted_none rfl) (v := Value.bool false) (fun wr hwr => by simp only [execOp, (F3.eval 85 (by omega)).trans (show _ = Value.bool false from by simp [upd, ee14, ee13, ee5, ee12, ee7])]; first | rfl | simp [go_sem]) fun F4 => ?_
                refine lyp F4 rfl HCC rfl (by omega) (want_yes F4 rfl (e := 86) rfl (by omega) (show _ = Value.bool false from by simp [upd, ee14, ee13, ee5, ee12, ee7])) (v := Value.pointer (some ⟨pb, 1, none⟩)) (fun wr hwr => by simp only [execOp, (F4.eval 14 (by omega)).trans (show _ = Value.pointer (some ⟨pb, 0, none⟩) from by simp [upd, ee14, ee13, ee5, ee12, ee7])]; simp [go_sem]) fun F5 => ?_
                refine lyp F5 rfl HCC rfl (by omega) (want_yes F5 rfl (e := 86) rfl (by omega) (show _ = Value.bool false from by simp [upd, ee14, ee13, ee5, ee12, ee7])) (v := Value.int .i64 c.held) (fun wr hwr => by simp only [execOp, (F5.eval 87 (by omega)).trans (show _ = Value.pointer (some ⟨pb, 1, none⟩) from by simp [upd, ee14, ee13, ee5, ee12, ee7])]; simp [go_sem, show wr.cell? ⟨pb, 1, none⟩ = some (.int .i64 c.held) from hwr.1.cell 1]) fun F6 => ?_
                refine lyp F6 rfl HCC rfl (by omega) (want_yes F6 rfl (e := 86) rfl (by omega) (show _ = Value.bool false from by simp [upd, ee14, ee13, ee5, ee12, ee7])) (v := Value.bool false) (fun wr hwr => by simp only [execOp, (F6.eval 88 (by omega)).trans (show _ = Value.int .i64 c.held from by simp [upd, ee14, ee13, ee5, ee12, ee7])]; simp [go_sem, Act.eval, n2]) fun F7 => ?_
                refine lyp F7 rfl HCC rfl (by omega) (wanted_none rfl) (v := Value.bool false) (fun wr hwr => by simp only [execOp, (F7.eval 86 (by omega)).trans (show _ = Value.bool false from by simp [upd, ee14, ee13, ee5, ee12, ee7]), (F7.eval 89 (by omega)).trans (show _ = Value.bool false from by simp [upd, ee14, ee13, ee5, ee12, ee7])]; simp [go_sem, Act.eval]) fun F8 => ?_
                refine lyp F8 rfl HCC rfl (by omega) (wanted_none rfl) (v := Value.bool false) (fun wr hwr => by simp only [execOp, (F8.eval 90 (by omega)).trans (show _ = Value.bool false from by simp [upd, ee14, ee13, ee5, ee12, ee7])]; first | rfl | simp [go_sem]) fun F9 => ?_
                refine lyp F9 rfl HCC rfl (by omega) (want_yes F9 rfl (e := 91) rfl (by omega) (show _ = Value.bool false from by simp [upd, ee14, ee13, ee5, ee12, ee7])) (v := Value.pointer (some ⟨pb, 0, none⟩)) (fun wr hwr => by simp only [execOp, (F9.eval 14 (by omega)).trans (show _ = Value.pointer (some ⟨pb, 0, none⟩) from by simp [upd, ee14, ee13, ee5, ee12, ee7])]; simp [go_sem]) fun F10 => ?_
                refine lyp F10 rfl HCC rfl (by omega) (want_yes F10 rfl (e := 91) rfl (by omega) (show _ = Value.bool false from by simp [upd, ee14, ee13, ee5, ee12, ee7])) (v := Value.int .i64 c.val) (fun wr hwr => by simp only [execOp, (F10.eval 92 (by omega)).trans (show _ = Value.pointer (some ⟨pb, 0, none⟩) from by simp [upd, ee14, ee13, ee5, ee12, ee7])]; simp [go_sem, show wr.cell? ⟨pb, 0, none⟩ = some (.int .i64 c.val) from hwr.1.cell 0]) fun F11 => ?_
                refine lyp F11 rfl HCC rfl (by omega) (want_yes F11 rfl (e := 91) rfl (by omega) (show _ = Value.bool false from by simp [upd, ee14, ee13, ee5, ee12, ee7])) (v := Value.pointer (some ⟨pb, 1, none⟩)) (fun wr hwr => by simp only [execOp, (F11.eval 14 (by omega)).trans (show _ = Value.pointer (some ⟨pb, 0, none⟩) from by simp [upd, ee14, ee13, ee5, ee12, ee7])]; simp [go_sem]) fun F12 => ?_
                refine lyp F12 rfl HCC rfl (by omega) (want_yes F12 rfl (e := 91) rfl (by omega) (show _ = Value.bool false from by simp [upd, ee14, ee13, ee5, ee12, ee7])) (v := Value.int .i64 c.held) (fun wr hwr => by simp only [execOp, (F12.eval 94 (by omega)).trans (show _ = Value.pointer (some ⟨pb, 1, none⟩) from by simp [upd, ee14, ee13, ee5, ee12, ee7])]; simp [go_sem, show wr.cell? ⟨pb, 1, none⟩ = some (.int .i64 c.held) from hwr.1.cell 1]) fun F13 => ?_
                refine lyp F13 rfl HCC rfl (by omega) (want_yes F13 rfl (e := 91) rfl (by omega) (show _ = Value.bool false from by simp [upd, ee14, ee13, ee5, ee12, ee7])) (v := Value.int .i64 (c.val + c.held)) (fun wr hwr => by simp only [execOp, (F13.eval 93 (by omega)).trans (show _ = Value.int .i64 c.val from by simp [upd, ee14, ee13, ee5, ee12, ee7]), (F13.eval 95 (by omega)).trans (show _ = Value.int .i64 c.held from by simp [upd, ee14, ee13, ee5, ee12, ee7])]; simp [go_sem, Act.eval, n3]) fun F14 => ?_
                refine lyp F14 rfl HCC rfl (by omega) (want_yes F14 rfl (e := 91) rfl (by omega) (show _ = Value.bool false from by simp [upd, ee14, ee13, ee5, ee12, ee7])) (v := Value.pointer (some ⟨pb, 2, none⟩)) (fun wr hwr => by simp only [execOp, (F14.eval 14 (by omega)).trans (show _ = Value.pointer (some ⟨pb, 0, none⟩) from by simp [upd, ee14, ee13, ee5, ee12, ee7])]; simp [go_sem]) fun F15 => ?_
                refine lyp F15 rfl HCC rfl (by omega) (want_yes F15 rfl (e := 91) rfl (by omega) (show _ = Value.bool false from by simp [upd, ee14, ee13, ee5, ee12, ee7])) (v := Value.int .i64 c.lim) (fun wr hwr => by simp only [execOp, (F15.eval 97 (by omega)).trans (show _ = Value.pointer (some ⟨pb, 2, none⟩) from by simp [upd, ee14, ee13, ee5, ee12, ee7])]; simp [go_sem, show wr.cell? ⟨pb, 2, none⟩ = some (.int .i64 c.lim) from hwr.1.cell 2]) fun F16 => ?_
                refine lyp F16 rfl HCC rfl (by omega) (want_yes F16 rfl (e := 91) rfl (by omega) (show _ = Value.bool false from by simp [upd, ee14, ee13, ee5, ee12, ee7])) (v := Value.bool false) (fun wr hwr => by simp only [execOp, (F16.eval 96 (by omega)).trans (show _ = Value.int .i64 (c.val + c.held) from by simp [upd, ee14, ee13, ee5, ee12, ee7]), (F16.eval 98 (by omega)).trans (show _ = Value.int .i64 c.lim from by simp [upd, ee14, ee13, ee5, ee12, ee7])]; simp [go_sem, Act.eval, n4]) fun F17 => ?_
                refine lyp F17 rfl HCC rfl (by omega) (wanted_none rfl) (v := Value.bool false) (fun wr hwr => by simp only [execOp, (F17.eval 91 (by omega)).trans (show _ = Value.bool false from by simp [upd, ee14, ee13, ee5, ee12, ee7]), (F17.eval 99 (by omega)).trans (show _ = Value.bool false from by simp [upd, ee14, ee13, ee5, ee12, ee7])]; simp [go_sem, Act.eval]) fun F18 => ?_
                refine lyp F18 rfl HCC rfl (by omega) (wanted_none rfl) (v := Value.bool false) (fun wr hwr => by simp only [execOp, (F18.eval 100 (by omega)).trans (show _ = Value.bool false from by simp [upd, ee14, ee13, ee5, ee12, ee7])]; first | rfl | simp [go_sem]) fun F19 => ?_
                refine lyp F19 rfl HCC rfl (by omega) (want_yes F19 rfl (e := 101) rfl (by omega) (show _ = Value.bool false from by simp [upd, ee14, ee13, ee5, ee12, ee7])) (v := Value.slice (some ⟨g, 0, none⟩) M nc) (fun wr hwr => by simp only [execOp, (F19.eval 5 (by omega)).trans (show _ = Value.slice (some ⟨g, 0, none⟩) M nc from by simp [upd, ee14, ee13, ee5, ee12, ee7])]; first | rfl | simp [go_sem]) fun F20 => ?_
                refine lyp F20 rfl HCC rfl (by omega) (want_yes F20 rfl (e := 101) rfl (by omega) (show _ = Value.bool false from by simp [upd, ee14, ee13, ee5, ee12, ee7])) (v := Value.int .i64 (q : Nat)) (fun wr hwr => by simp only [execOp, (F20.eval 12 (by omega)).trans (show _ = Value.int .i64 (q : Nat) from by simp [upd, ee14, ee13, ee5, ee12, ee7])]; first | rfl | simp [go_sem]) fun F21 => ?_
                refine lyp F21 rfl HCC rfl (by omega) (want_yes F21 rfl (e := 101) rfl (by omega) (show _ = Value.bool false from by simp [upd, ee14, ee13, ee5, ee12, ee7])) (v := Value.pointer (some ⟨g, q, none⟩)) (fun wr hwr => by simp only [execOp, (F21.eval 102 (by omega)).trans (show _ = Value.slice (some ⟨g, 0, none⟩) M nc from by simp [upd, ee14, ee13, ee5, ee12, ee7]), (F21.eval 103 (by omega)).trans (show _ = Value.int .i64 (q : Nat) from by simp [upd, ee14, ee13, ee5, ee12, ee7])]; simp only [Sem.run_bind, Sem.run_pure, Result.andThen_ok, idx_run 39 9 1 Try.underlying39 (by kernel_rfl) wr g 0 M nc q (by omega), Nat.zero_add, Nat.mul_one]; try rfl) fun F22 => ?_
                refine lyp F22 rfl HCC rfl (by omega) (want_yes F22 rfl (e := 101) rfl (by omega) (show _ = Value.bool false from by simp [upd, ee14, ee13, ee5, ee12, ee7])) (v := Value.string ⟨nm.toArray⟩) (fun wr hwr => by simp only [execOp, (F22.eval 104 (by omega)).trans (show _ = Value.pointer (some ⟨g, q, none⟩) from by simp [upd, ee14, ee13, ee5, ee12, ee7])]; simp [go_sem, hwr.2.2.2]) fun F23 => ?_
                refine lyp F23 rfl HCC rfl (by omega) (want_yes F23 rfl (e := 101) rfl (by omega) (show _ = Value.bool false from by simp [upd, ee14, ee13, ee5, ee12, ee7])) (v := Value.pointer (some ⟨xb, 1, none⟩)) (fun wr hwr => by simp only [execOp, (F23.eval 7 (by omega)).trans (show _ = Value.pointer (some ⟨xb, 0, none⟩) from by simp [upd, ee14, ee13, ee5, ee12, ee7])]; simp [go_sem]) fun F24 => ?_
                refine lyp F24 rfl HCC rfl (by omega) (want_yes F24 rfl (e := 101) rfl (by omega) (show _ = Value.bool false from by simp [upd, ee14, ee13, ee5, ee12, ee7])) (v := Value.string ⟨on.toArray⟩) (fun wr hwr => by simp only [execOp, (F24.eval 106 (by omega)).trans (show _ = Value.pointer (some ⟨xb, 1, none⟩) from by simp [upd, ee14, ee13, ee5, ee12, ee7])]; simp [go_sem, show wr.cell? ⟨xb, 1, none⟩ = some (.string ⟨on.toArray⟩) from hwr.2.2.1.cell 1]) fun F25 => ?_
                refine lyp F25 rfl HCC rfl (by omega) (want_yes F25 rfl (e := 101) rfl (by omega) (show _ = Value.bool false from by simp [upd, ee14, ee13, ee5, ee12, ee7])) (v := Value.bool true) (fun wr hwr => by simp only [execOp, (F25.eval 105 (by omega)).trans (show _ = Value.string ⟨nm.toArray⟩ from by simp [upd, ee14, ee13, ee5, ee12, ee7]), (F25.eval 107 (by omega)).trans (show _ = Value.string ⟨on.toArray⟩ from by simp [upd, ee14, ee13, ee5, ee12, ee7])]; simp [go_sem, Act.eval, hne]) fun F26 => ?_
                refine lyp F26 rfl HCC rfl (by omega) (want_yes F26 rfl (e := 101) rfl (by omega) (show _ = Value.bool false from by simp [upd, ee14, ee13, ee5, ee12, ee7])) (v := Value.bool true) (fun wr hwr => by simp only [execOp, (F26.eval 108 (by omega)).trans (show _ = Value.bool true from by simp [upd, ee14, ee13, ee5, ee12, ee7])]; first | rfl | simp [go_sem]) fun F27 => ?_
                refine lyp F27 rfl HCC rfl (by omega) (want_yes F27 rfl (e := 109) rfl (by omega) (show _ = Value.bool true from by simp [upd, ee14, ee13, ee5, ee12, ee7])) (v := Value.agg #[.int .i64 c.val, .int .i64 c.held, .int .i64 c.lim, .bool c.is]) (fun wr hwr => by simp only [execOp, (F27.eval 13 (by omega)).trans (show _ = Value.pointer (some ⟨pa, 0, none⟩) from by simp [upd, ee14, ee13, ee5, ee12, ee7])]; simp [go_sem, show wr.cell? ⟨pa, 0, none⟩ = some (.int .i64 c.val) from hwr.2.1.cell 0, show wr.cell? ⟨pa, 1, none⟩ = some (.int .i64 c.held) from hwr.2.1.cell 1, show wr.cell? ⟨pa, 2, none⟩ = some (.int .i64 c.lim) from hwr.2.1.cell 2, show wr.cell? ⟨pa, 3, none⟩ = some (.bool c.is) from hwr.2.1.cell 3]) fun F28 => ?_
                refine lyp F28 rfl HCC rfl (by omega) (want_yes F28 rfl (e := 109) rfl (by omega) (show _ = Value.bool true from by simp [upd, ee14, ee13, ee5, ee12, ee7])) (v := Value.agg #[.int .i64 c.val, .int .i64 c.held, .int .i64 c.lim, .bool c.is]) (fun wr hwr => by simp only [execOp, (F28.eval 14 (by omega)).trans (show _ = Value.pointer (some ⟨pb, 0, none⟩) from by simp [upd, ee14, ee13, ee5, ee12, ee7])]; simp [go_sem, show wr.cell? ⟨pb, 0, none⟩ = some (.int .i64 c.val) from hwr.1.cell 0, show wr.cell? ⟨pb, 1, none⟩ = some (.int .i64 c.held) from hwr.1.cell 1, show wr.cell? ⟨pb, 2, none⟩ = some (.int .i64 c.lim) from hwr.1.cell 2, show wr.cell? ⟨pb, 3, none⟩ = some (.bool c.is) from hwr.1.cell 3]) fun F29 => ?_
                refine lyp F29 rfl HCC rfl (by omega) (want_yes F29 rfl (e := 109) rfl (by omega) (show _ = Value.bool true from by simp [upd, ee14, ee13, ee5, ee12, ee7])) (v := Value.bool false) (fun wr hwr => by simp only [execOp, (F29.eval 110 (by omega)).trans (show _ = Value.agg #[.int .i64 c.val, .int .i64 c.held, .int .i64 c.lim, .bool c.is] from by simp [upd, ee14, ee13, ee5, ee12, ee7]), (F29.eval 111 (by omega)).trans (show _ = Value.agg #[.int .i64 c.val, .int .i64 c.held, .int .i64 c.lim, .bool c.is] from by simp [upd, ee14, ee13, ee5, ee12, ee7])]; simp [go_sem]) fun F30 => ?_
                refine lyp F30 rfl HCC rfl (by omega) (want_yes F30 rfl (e := 101) rfl (by omega) (show _ = Value.bool false from by simp [upd, ee14, ee13, ee5, ee12, ee7])) (v := Value.bool false) (fun wr hwr => by simp only [execOp, (F30.eval 109 (by omega)).trans (show _ = Value.bool true from by simp [upd, ee14, ee13, ee5, ee12, ee7]), (F30.eval 112 (by omega)).trans (show _ = Value.bool false from by simp [upd, ee14, ee13, ee5, ee12, ee7])]; simp [go_sem, Act.eval]) fun F31 => ?_
                refine lyp F31 rfl HCC rfl (by omega) (wanted_none rfl) (v := Value.bool false) (fun wr hwr => by simp only [execOp, (F31.eval 101 (by omega)).trans (show _ = Value.bool false from by simp [upd, ee14, ee13, ee5, ee12, ee7]), (F31.eval 113 (by omega)).trans (show _ = Value.bool false from by simp [upd, ee14, ee13, ee5, ee12, ee7])]; simp [go_sem, Act.eval]) fun F32 => ?_
                refine ⟨fun _ => HCC, ?_⟩
                refine hK _ _ ?_
                clear F0 F1 F2 F3 F4 F5 F6 F7 F8 F9 F10 F11 F12 F13 F14 F15 F16 F17 F18 F19 F20 F21 F22 F23 F24 F25 F26 F27 F28 F29 F30 F31 F32 ee14 ee13 ee5 ee12 ee7 HCC
                simp only [Act.put, List.setIfInBounds_toArray, List.set_cons_succ, List.set_cons_zero]
                obtain ⟨U, hU⟩ : ∃ U, U = ({ V with drawn := V.drawn + 1 } : World) := ⟨_, rfl⟩
                have hPA : Blk U pa #[.int .i64 c.val, .int .i64 c.held, .int .i64 c.lim, .bool c.is] 45 := by rw [hU]; exact BPA.out
                have hPB : Blk U pb #[.int .i64 c.val, .int .i64 c.held, .int .i64 c.lim, .bool c.is] 45 := by rw [hU]; exact BPB.out
                have hXX : Blk U xb #[.int .i64 ok, .string ⟨on.toArray⟩, .int .i64 oa, .int .i64 ob_] 31 := by rw [hU]; exact BXX.out
                have hy0 : U.cell? ⟨g, q, none⟩ = some (.string ⟨nm.toArray⟩) := by rw [hU]; exact y0
                have HUU : Hid (Below w5.heap.size w5 U) := show Below w5.heap.size w5 U from by rw [hU]; exact Below.drew HVV.out
                rw [← hU]
                clear BPA BPB BXX y0 HVV hU
                have BPA : Hid (Blk U pa #[.int .i64 c.val, .int .i64 c.held, .int .i64 c.lim, .bool c.is] 45) := hPA
                have BPB : Hid (Blk U pb #[.int .i64 c.val, .int .i64 c.held, .int .i64 c.lim, .bool c.is] 45) := hPB
                have BXX : Hid (Blk U xb #[.int .i64 ok, .string ⟨on.toArray⟩, .int .i64 oa, .int .i64 ob_] 31) := hXX
                have y0 := hy0
                clear hPA hPB hXX hy0
                go_wp2_with fail
                rename_i K hK
                try rw [show ∀ a : Act, a.put none undef = a from fun _ => rfl]
                refine wp_region_mix (fun wq => Blk wq pb #[.int .i64 c.val, .int .i64 c.held, .int .i64 c.lim, .bool c.is] 45 ∧ Blk wq pa #[.int .i64 c.val, .int .i64 c.held, .int .i64 c.lim, .bool c.is] 45 ∧ Blk wq xb #[.int .i64 ok, .string ⟨on.toArray⟩, .int .i64 oa, .int .i64 ob_] 31 ∧ wq.cell? ⟨g, q, none⟩ = some (.string ⟨nm.toArray⟩)) (fun i => i == 99) 99 (by kernel_rfl) rfl (by kernel_rfl) (by kernel_rfl) (by kernel_rfl) ?_
                refine withFrP (N := 134) rfl ?_
                intro f0 F0 hff
                have ee14 : f0 14 = Value.pointer (some ⟨pb, 0, none⟩) := hff 14
                have ee13 : f0 13 = Value.pointer (some ⟨pa, 0, none⟩) := hff 13
                have ee5 : f0 5 = Value.slice (some ⟨g, 0, none⟩) M nc := hff 5
                have ee12 : f0 12 = Value.int .i64 (q : Nat) := hff 12
                have ee7 : f0 7 = Value.pointer (some ⟨xb, 0, none⟩) := hff 7
                have ee10 : f0 10 = Value.int .i64 R.1.2 := hff 10
                have ee9 : f0 9 = Value.int .i64 R.1.1 := hff 9
                clear hff
                have HCC : (fun wq => Blk wq pb #[.int .i64 c.val, .int .i64 c.held, .int .i64 c.lim, .bool c.is] 45 ∧ Blk wq pa #[.int .i64 c.val, .int .i64 c.held, .int .i64 c.lim, .bool c.is] 45 ∧ Blk wq xb #[.int .i64 ok, .string ⟨on.toArray⟩, .int .i64 oa, .int .i64 ob_] 31 ∧ wq.cell? ⟨g, q, none⟩ = some (.string ⟨nm.toArray⟩)) (({ U with drawn := U.drawn + 1 } : World)) := ⟨BPB.out, BPA.out, BXX.out, y0⟩
                refine lyp F0 rfl HCC rfl (by omega) (wanted_none rfl) (v := Value.slice (some ⟨g, 0, none⟩) M nc) (fun wr hwr => by simp only [execOp, (F0.eval 5 (by omega)).trans (show _ = Value.slice (some ⟨g, 0, none⟩) M nc from by simp [upd, ee14, ee13, ee5, ee12, ee7, ee10, ee9])]; first | rfl | simp [go_sem]) fun F1 => ?_
                refine lyp F1 rfl HCC rfl (by omega) (wanted_none rfl) (v := Value.int .i64 (q : Nat)) (fun wr hwr => by simp only [execOp, (F1.eval 12 (by omega)).trans (show _ = Value.int .i64 (q : Nat) from by simp [upd, ee14, ee13, ee5, ee12, ee7, ee10, ee9])]; first | rfl | simp [go_sem]) fun F2 => ?_
                refine lyp F2 rfl HCC rfl (by omega) (wanted_none rfl) (v := Value.pointer (some ⟨g, q, none⟩)) (fun wr hwr => by simp only [execOp, (F2.eval 115 (by omega)).trans (show _ = Value.slice (some ⟨g, 0, none⟩) M nc from by simp [upd, ee14, ee13, ee5, ee12, ee7, ee10, ee9]), (F2.eval 116 (by omega)).trans (show _ = Value.int .i64 (q : Nat) from by simp [upd, ee14, ee13, ee5, ee12, ee7, ee10, ee9])]; simp only [Sem.run_bind, Sem.run_pure, Result.andThen_ok, idx_run 39 9 1 Try.underlying39 (by kernel_rfl) wr g 0 M nc q (by omega), Nat.zero_add, Nat.mul_one]; try rfl) fun F3 => ?_
                refine lyp F3 rfl HCC rfl (by omega) (wanted_none rfl) (v := Value.string ⟨nm.toArray⟩) (fun wr hwr => by simp only [execOp, (F3.eval 117 (by omega)).trans (show _ = Value.pointer (some ⟨g, q, none⟩) from by simp [upd, ee14, ee13, ee5, ee12, ee7, ee10, ee9])]; simp [go_sem, hwr.2.2.2]) fun F4 => ?_
                refine lyp F4 rfl HCC rfl (by omega) (wanted_none rfl) (v := Value.pointer (some ⟨xb, 1, none⟩)) (fun wr hwr => by simp only [execOp, (F4.eval 7 (by omega)).trans (show _ = Value.pointer (some ⟨xb, 0, none⟩) from by simp [upd, ee14, ee13, ee5, ee12, ee7, ee10, ee9])]; simp [go_sem]) fun F5 => ?_
                refine lyp F5 rfl HCC rfl (by omega) (wanted_none rfl) (v := Value.string ⟨on.toArray⟩) (fun wr hwr => by simp only [execOp, (F5.eval 119 (by omega)).trans (show _ = Value.pointer (some ⟨xb, 1, none⟩) from by simp [upd, ee14, ee13, ee5, ee12, ee7, ee10, ee9])]; simp [go_sem, show wr.cell? ⟨xb, 1, none⟩ = some (.string ⟨on.toArray⟩) from hwr.2.2.1.cell 1]) fun F6 => ?_
                refine lyp F6 rfl HCC rfl (by omega) (wanted_none rfl) (v := Value.bool false) (fun wr hwr => by simp only [execOp, (F6.eval 118 (by omega)).trans (show _ = Value.string ⟨nm.toArray⟩ from by simp [upd, ee14, ee13, ee5, ee12, ee7, ee10, ee9]), (F6.eval 120 (by omega)).trans (show _ = Value.string ⟨on.toArray⟩ from by simp [upd, ee14, ee13, ee5, ee12, ee7, ee10, ee9])]; simp [go_sem, Act.eval, hne]) fun F7 => ?_
                refine lyp F7 rfl HCC rfl (by omega) (wanted_none rfl) (v := Value.bool false) (fun wr hwr => by simp only [execOp, (F7.eval 121 (by omega)).trans (show _ = Value.bool false from by simp [upd, ee14, ee13, ee5, ee12, ee7, ee10, ee9])]; first | rfl | simp [go_sem]) fun F8 => ?_
                refine lnp F8 rfl HCC rfl (by omega) (want_no F8 rfl (e := 122) rfl (by omega) (show _ = Value.bool false from by simp [upd, ee14, ee13, ee5, ee12, ee7, ee10, ee9]) (by decide)) fun F9 => ?_
                refine lnp F9 rfl HCC rfl (by omega) (want_no F9 rfl (e := 122) rfl (by omega) (show _ = Value.bool false from by simp [upd, ee14, ee13, ee5, ee12, ee7, ee10, ee9]) (by decide)) fun F10 => ?_
                refine lyp F10 rfl HCC rfl (by omega) (wanted_none rfl) (v := Value.bool false) (fun wr hwr => by simp only [execOp, (F10.eval 122 (by omega)).trans (show _ = Value.bool false from by simp [upd, ee14, ee13, ee5, ee12, ee7, ee10, ee9])]; simp [go_sem, Act.eval]) fun F11 => ?_
                refine lyp F11 rfl HCC rfl (by omega) (wanted_none rfl) (v := Value.bool false) (fun wr hwr => by simp only [execOp, (F11.eval 125 (by omega)).trans (show _ = Value.bool false from by simp [upd, ee14, ee13, ee5, ee12, ee7, ee10, ee9])]; first | rfl | simp [go_sem]) fun F12 => ?_
                refine lnp F12 rfl HCC rfl (by omega) (want_no F12 rfl (e := 126) rfl (by omega) (show _ = Value.bool false from by simp [upd, ee14, ee13, ee5, ee12, ee7, ee10, ee9]) (by decide)) fun F13 => ?_
                refine lnp F13 rfl HCC rfl (by omega) (want_no F13 rfl (e := 126) rfl (by omega) (show _ = Value.bool false from by simp [upd, ee14, ee13, ee5, ee12, ee7, ee10, ee9]) (by decide)) fun F14 => ?_
                refine lnp F14 rfl HCC rfl (by omega) (want_no F14 rfl (e := 126) rfl (by omega) (show _ = Value.bool false from by simp [upd, ee14, ee13, ee5, ee12, ee7, ee10, ee9]) (by decide)) fun F15 => ?_
                refine lnp F15 rfl HCC rfl (by omega) (want_no F15 rfl (e := 126) rfl (by omega) (show _ = Value.bool false from by simp [upd, ee14, ee13, ee5, ee12, ee7, ee10, ee9]) (by decide)) fun F16 => ?_
                refine lnp F16 rfl HCC rfl (by omega) (want_no F16 rfl (e := 126) rfl (by omega) (show _ = Value.bool false from by simp [upd, ee14, ee13, ee5, ee12, ee7, ee10, ee9]) (by decide)) fun F17 => ?_
                refine lnp F17 rfl HCC rfl (by omega) (want_no F17 rfl (e := 126) rfl (by omega) (show _ = Value.bool false from by simp [upd, ee14, ee13, ee5, ee12, ee7, ee10, ee9]) (by decide)) fun F18 => ?_
                refine lyp F18 rfl HCC rfl (by omega) (wanted_none rfl) (v := Value.bool false) (fun wr hwr => by simp only [execOp, (F18.eval 126 (by omega)).trans (show _ = Value.bool false from by simp [upd, ee14, ee13, ee5, ee12, ee7, ee10, ee9])]; simp [go_sem, Act.eval]) fun F19 => ?_
                refine ⟨fun _ => HCC, ?_⟩
                refine hK _ _ ?_
                clear F0 F1 F2 F3 F4 F5 F6 F7 F8 F9 F10 F11 F12 F13 F14 F15 F16 F17 F18 F19 ee14 ee13 ee5 ee12 ee7 ee10 ee9 HCC
                simp only [Act.put, List.setIfInBounds_toArray, List.set_cons_succ, List.set_cons_zero]
                have HF : Hid (Below w5.heap.size w5 ({ U with drawn := U.drawn + 1 } : World)) := Below.drew HUU.out
                go_wp2_with fail
                go_roundw
                case rel => exact ⟨q + 1, by omega, by go_num, HF.out⟩
                case measure => simp [intOf]; omega
            · obtain rfl : q = M := by omega
              have HFB : Hid (AX w ab mb L' wr) := HA5.out.more HBV.out
              have hNF := HN5.out
              have HNF : Hid (wr.ownsRow B0 9 1 (.slice no q nc) q (nms.map Sv)) := ownsRow_same hNF (fun g hg => HBV.out.block g (ownsRow_lt hNF hg).2)
              clear hNF
              go_wp2_with fail
              go_roundw
              case rel => exact ⟨j + 1, _, by omega, by omega, by go_num, HFB.out, HNF.out⟩
              case measure => simp [intOf]; omega
        · have her : (R.1.2 == 0) = false := by simpa using hrz
          have h11 : R.1.1 = 0 := by rw [HRR.out] at hrz ⊢; exact mapO_err0 hrz
          have hLL : L' = L := by rw [HL'.out]; exact doL_no hrz
          have HFIT : Hid (∀ nm : List UInt8, True) := fun _ => trivial
          have HEQ : Hid (∀ nm, lkOf L' nm = lkOf L nm) := fun nm => by rw [hLL]
          have HSM : Hid _ := same_yes (.slice ao1 M cap1) (.slice ao2 M cap2) (nms.map (lkOf L)) w4 (by rw [List.length_map, ← HM.out]; exact HV14.out) (by rw [List.length_map, ← HM.out, ← hLL]; have h := HV24.out; rw [hLL] at h ⊢; exact h) (by rw [List.length_map, ← HM.out]; exact hn3)
          rw [h11]
          clear h11 hLL
          go_upto_region 13 with fail
          go_wp2_with fail
          refine Calls.mono HSM.out ?_
          rintro e9 w5 ⟨rfl, hb5⟩
          have HA5 : Hid (AX w ab mb L' w5) := HA4.out.more hb5
          have BX5 : Hid (Blk w5 xb #[.int .i64 ok, .string ⟨on.toArray⟩, .int .i64 oa, .int .i64 ob_] 31) := BX4.out.below hb5 BX4.out.lt
          have HV15 : Hid (w5.ownsRow X.heap.size 45 4 (.slice ao1 M cap1) M (flatL (nms.map (lkOf L)))) := ownsRow_same HV14.out (fun g hg => hb5.block g (ownsRow_lt HV14.out hg).2)
          have HV25 : Hid (w5.ownsRow w3.heap.size 45 4 (.slice ao2 M cap2) M (flatL (nms.map (lkOf L')))) := ownsRow_same HV24.out (fun g hg => hb5.block g (ownsRow_lt HV24.out hg).2)
          have HN5 : Hid (w5.ownsRow B0 9 1 (.slice no M nc) M (nms.map Sv)) := ownsRow_same HN4.out (fun g hg => hb5.block g (ownsRow_lt HN4.out hg).2)
          clear hb5 HSM HA4 BX4 HV14 HV24 HN4
          go_wp2_with fail
          go_loopw [12] (fun s12 wr2 => ∃ (q : Nat), q ≤ M ∧ s12 = .int .i64 q ∧ Below w5.heap.size w5 wr2) (fun s12 _ => M - (intOf s12).toNat)
          case atStart => exact ⟨0, Nat.zero_le _, rfl, Below.refl _ _⟩
          case round =>
            obtain ⟨q, hqM, rfl, hbv⟩ := hrel
            have HBV : Hid (Below w5.heap.size w5 wr) := hbv
            clear hbv
            by_cases hql : q < M
            · obtain ⟨nm, hnm⟩ : ∃ nm, nms[q]? = some nm := ⟨_, List.getElem?_eq_getElem (by rw [← HM.out]; exact hql)⟩
              obtain ⟨g, gc, hg, _, _, hgl, hgc⟩ := own_at HN5.out (by omega)
              cases hg
              obtain ⟨ga, gac, hga, _, _, hgal, hgac⟩ := own_at HV15.out (by omega)
              obtain ⟨gb, gbc, hgb, _, _, hgbl, hgbc⟩ := own_at HV25.out (by omega)
              cases hga
              cases hgb
              have e1 : (nms.map (lkOf L))[q]? = some (lkOf L nm) := by rw [List.getElem?_map, hnm]; rfl
              have e2 : (nms.map (lkOf L'))[q]? = some (lkOf L' nm) := by rw [List.getElem?_map, hnm]; rfl
              have hLk := HLK.out nm
              have hFI := HFIT.out nm
              have hOT := HOTH.out nm
              have hEQ := HEQ.out nm
              have y00 : wr.cell? ⟨g, q, none⟩ = some (.string ⟨nm.toArray⟩) := (HBV.out.cell (p := ⟨g, q, none⟩) hgl).trans (hgc q _ (by rw [List.getElem?_map, hnm]; rfl))
              have u0 : wr.cell? ⟨ga, q * 4, none⟩ = some (.int .i64 (lkOf L nm).val) := (HBV.out.cell (p := ⟨ga, q * 4, none⟩) hgal).trans (hgac (q * 4) _ (flatL_at 0 e1 (by decide)))
              have v0 : wr.cell? ⟨gb, q * 4, none⟩ = some (.int .i64 (lkOf L' nm).val) := (HBV.out.cell (p := ⟨gb, q * 4, none⟩) hgbl).trans (hgbc (q * 4) _ (flatL_at 0 e2 (by decide)))
              have u1 : wr.cell? ⟨ga, q * 4 + 1, none⟩ = some (.int .i64 (lkOf L nm).held) := (HBV.out.cell (p := ⟨ga, q * 4 + 1, none⟩) hgal).trans (hgac (q * 4 + 1) _ (flatL_at 1 e1 (by decide)))
              have v1 : wr.cell? ⟨gb, q * 4 + 1, none⟩ = some (.int .i64 (lkOf L' nm).held) := (HBV.out.cell (p := ⟨gb, q * 4 + 1, none⟩) hgbl).trans (hgbc (q * 4 + 1) _ (flatL_at 1 e2 (by decide)))
              have u2 : wr.cell? ⟨ga, q * 4 + 2, none⟩ = some (.int .i64 (lkOf L nm).lim) := (HBV.out.cell (p := ⟨ga, q * 4 + 2, none⟩) hgal).trans (hgac (q * 4 + 2) _ (flatL_at 2 e1 (by decide)))
              have v2 : wr.cell? ⟨gb, q * 4 + 2, none⟩ = some (.int .i64 (lkOf L' nm).lim) := (HBV.out.cell (p := ⟨gb, q * 4 + 2, none⟩) hgbl).trans (hgbc (q * 4 + 2) _ (flatL_at 2 e2 (by decide)))
              have u3 : wr.cell? ⟨ga, q * 4 + 3, none⟩ = some (.bool (lkOf L nm).is) := (HBV.out.cell (p := ⟨ga, q * 4 + 3, none⟩) hgal).trans (hgac (q * 4 + 3) _ (flatL_at 3 e1 (by decide)))
              have v3 : wr.cell? ⟨gb, q * 4 + 3, none⟩ = some (.bool (lkOf L' nm).is) := (HBV.out.cell (p := ⟨gb, q * 4 + 3, none⟩) hgbl).trans (hgbc (q * 4 + 3) _ (flatL_at 3 e2 (by decide)))
              clear e1 e2 hgc hgac hgbc
              generalize lkOf L nm = a at *
              generalize lkOf L' nm = c at *
              have HFI : Hid _ := hFI
              have HOT : Hid _ := hOT
              have HEQ2 : Hid _ := hEQ
              clear hFI hOT hEQ
              obtain ⟨pa, hpa⟩ : ∃ b, b = wr.heap.size := ⟨_, rfl⟩
              obtain ⟨pb, hpb⟩ : ∃ b, b = wr.heap.size + 1 := ⟨_, rfl⟩
              obtain ⟨V, hV⟩ : ∃ V, V = (wr.alloc (.cells #[.int .i64 a.val, .int .i64 a.held, .int .i64 a.lim, .bool a.is] 45)).alloc (.cells #[.int .i64 c.val, .int .i64 c.held, .int .i64 c.lim, .bool c.is] 45) := ⟨_, rfl⟩
              have hbV : Below wr.heap.size wr V := by rw [hV]; exact ((Below.refl _ _).alloc (Nat.le_refl _) _).alloc (by simp) _
              have BPA : Hid (Blk V pa #[.int .i64 a.val, .int .i64 a.held, .int .i64 a.lim, .bool a.is] 45) := show Blk V pa #[.int .i64 a.val, .int .i64 a.held, .int .i64 a.lim, .bool a.is] 45 from by rw [hV, hpa]; exact blk_alloc (heap_alloc_new wr _) _
              have BPB : Hid (Blk V pb #[.int .i64 c.val, .int .i64 c.held, .int .i64 c.lim, .bool c.is] 45) := show Blk V pb #[.int .i64 c.val, .int .i64 c.held, .int .i64 c.lim, .bool c.is] 45 from by rw [hV, hpb]; have h := heap_alloc_new (wr.alloc (.cells #[.int .i64 a.val, .int .i64 a.held, .int .i64 a.lim, .bool a.is] 45)) (.cells #[.int .i64 c.val, .int .i64 c.held, .int .i64 c.lim, .bool c.is] 45); simp only [World.size_alloc] at h; exact h
              have hX5 : Blk wr xb #[.int .i64 ok, .string ⟨on.toArray⟩, .int .i64 oa, .int .i64 ob_] 31 := BX5.out.below HBV.out BX5.out.lt
              have BXX : Hid (Blk V xb #[.int .i64 ok, .string ⟨on.toArray⟩, .int .i64 oa, .int .i64 ob_] 31) := hX5.below hbV hX5.lt
              have y0 : V.cell? ⟨g, q, none⟩ = some (.string ⟨nm.toArray⟩) := cell_below hbV y00
              have HVV : Hid (Below w5.heap.size w5 V) := HBV.out.trans (hbV.mono HBV.out.size)
              obtain ⟨hL1, hL2, hL3, hL4⟩ := hLk
              have n1 : ¬ c.val < 0 := by omega
              have n2 : ¬ c.held < 0 := by omega
              have n3 : IntKind.i64.wrap (c.val + c.held) = c.val + c.held := wr_ (by omega) (by omega)
              have n4 : ¬ c.lim < c.val + c.held := by omega
              have t0 : (wr.alloc (.cells #[.int .i64 a.val, .int .i64 a.held, .int .i64 a.lim, .bool a.is] 45)).cell? ⟨gb, q * 4, none⟩ = some (.int .i64 c.val) := cell_below ((Below.refl _ _).alloc (Nat.le_refl _) _) v0
              have t1 : (wr.alloc (.cells #[.int .i64 a.val, .int .i64 a.held, .int .i64 a.lim, .bool a.is] 45)).cell? ⟨gb, q * 4 + 1, none⟩ = some (.int .i64 c.held) := cell_below ((Below.refl _ _).alloc (Nat.le_refl _) _) v1
              have t2 : (wr.alloc (.cells #[.int .i64 a.val, .int .i64 a.held, .int .i64 a.lim, .bool a.is] 45)).cell? ⟨gb, q * 4 + 2, none⟩ = some (.int .i64 c.lim) := cell_below ((Below.refl _ _).alloc (Nat.le_refl _) _) v2
              have t3 : (wr.alloc (.cells #[.int .i64 a.val, .int .i64 a.held, .int .i64 a.lim, .bool a.is] 45)).cell? ⟨gb, q * 4 + 3, none⟩ = some (.bool c.is) := cell_below ((Below.refl _ _).alloc (Nat.le_refl _) _) v3
              clear hnm hgl hgal hgbl hL1 hL2 hL3 hL4 hX5 hbV
              go_upto_region 20 with fail
              rw [← hV, ← hpb, ← hpa]
              clear hV hpa hpb y00 u0 v0 t0 u1 v1 t1 u2 v2 t2 u3 v3 t3
              by_cases hno : nm = on
              · replace hno := hno.symm
                subst hno
                go_wp2_with fail
                rename_i K hK
                try rw [show ∀ a : Act, a.put none undef = a from fun _ => rfl]
                refine wp_region_mix (fun wq => Blk wq pb #[.int .i64 c.val, .int .i64 c.held, .int .i64 c.lim, .bool c.is] 45 ∧ Blk wq pa #[.int .i64 a.val, .int .i64 a.held, .int .i64 a.lim, .bool a.is] 45 ∧ Blk wq xb #[.int .i64 ok, .string ⟨on.toArray⟩, .int .i64 oa, .int .i64 ob_] 31 ∧ wq.cell? ⟨g, q, none⟩ = some (.string ⟨on.toArray⟩)) (fun i => i == 99) 99 (by kernel_rfl) rfl (by kernel_rfl) (by kernel_rfl) (by kernel_rfl) ?_
                refine withFrP (N := 134) rfl ?_
                intro f0 F0 hff
                have ee14 : f0 14 = Value.pointer (some ⟨pb, 0, none⟩) := hff 14
                have ee13 : f0 13 = Value.pointer (some ⟨pa, 0, none⟩) := hff 13
                have ee5 : f0 5 = Value.slice (some ⟨g, 0, none⟩) M nc := hff 5
                have ee12 : f0 12 = Value.int .i64 (q : Nat) := hff 12
                have ee7 : f0 7 = Value.pointer (some ⟨xb, 0, none⟩) := hff 7
                clear hff
                have HCC : (fun wq => Blk wq pb #[.int .i64 c.val, .int .i64 c.held, .int .i64 c.lim, .bool c.is] 45 ∧ Blk wq pa #[.int .i64 a.val, .int .i64 a.held, .int .i64 a.lim, .bool a.is] 45 ∧ Blk wq xb #[.int .i64 ok, .string ⟨on.toArray⟩, .int .i64 oa, .int .i64 ob_] 31 ∧ wq.cell? ⟨g, q, none⟩ = some (.string ⟨on.toArray⟩)) (({ V with drawn := V.drawn + 1 } : World)) := ⟨BPB.out, BPA.out, BXX.out, y0⟩
                refine lyp F0 rfl HCC rfl (by omega) (wanted_none rfl) (v := Value.pointer (some ⟨pb, 0, none⟩)) (fun wr hwr => by simp only [execOp, (F0.eval 14 (by omega)).trans (show _ = Value.pointer (some ⟨pb, 0, none⟩) from by simp [upd, ee14, ee13, ee5, ee12, ee7])]; simp [go_sem]) fun F1 => ?_
                refine lyp F1 rfl HCC rfl (by omega) (wanted_none rfl) (v := Value.int .i64 c.val) (fun wr hwr => by simp only [execOp, (F1.eval 83 (by omega)).trans (show _ = Value.pointer (some ⟨pb, 0, none⟩) from by simp [upd, ee14, ee13, ee5, ee12, ee7])]; simp [go_sem, show wr.cell? ⟨pb, 0, none⟩ = some (.int .i64 c.val) from hwr.1.cell 0]) fun F2 => ?_
                refine lyp F2 rfl HCC rfl (by omega) (wanted_none rfl) (v := Value.bool false) (fun wr hwr => by simp only [execOp, (F2.eval 84 (by omega)).trans (show _ = Value.int .i64 c.val from by simp [upd, ee14, ee13, ee5, ee12, ee7])]; simp [go_sem, Act.eval, n1]) fun F3 => ?_
                refine lyp F3 rfl HCC rfl (by omega) (wanted_none rfl) (v := Value.bool false) (fun wr hwr => by simp only [execOp, (F3.eval 85 (by omega)).trans (show _ = Value.bool false from by simp [upd, ee14, ee13, ee5, ee12, ee7])]; first | rfl | simp [go_sem]) fun F4 => ?_
                refine lyp F4 rfl HCC rfl (by omega) (want_yes F4 rfl (e := 86) rfl (by omega) (show _ = Value.bool false from by simp [upd, ee14, ee13, ee5, ee12, ee7])) (v := Value.pointer (some ⟨pb, 1, none⟩)) (fun wr hwr => by simp only [execOp, (F4.eval 14 (by omega)).trans (show _ = Value.pointer (some ⟨pb, 0, none⟩) from by simp [upd, ee14, ee13, ee5, ee12, ee7])]; simp [go_sem]) fun F5 => ?_
                refine lyp F5 rfl HCC rfl (by omega) (want_yes F5 rfl (e := 86) rfl (by omega) (show _ = Value.bool false from by simp [upd, ee14, ee13, ee5, ee12, ee7])) (v := Value.int .i64 c.held) (fun wr hwr => by simp only [execOp, (F5.eval 87 (by omega)).trans (show _ = Value.pointer (some ⟨pb, 1, none⟩) from by simp [upd, ee14, ee13, ee5, ee12, ee7])]; simp [go_sem, show wr.cell? ⟨pb, 1, none⟩ = some (.int .i64 c.held) from hwr.1.cell 1]) fun F6 => ?_
                refine lyp F6 rfl HCC rfl (by omega) (want_yes F6 rfl (e := 86) rfl (by omega) (show _ = Value.bool false from by simp [upd, ee14, ee13, ee5, ee12, ee7])) (v := Value.bool false) (fun wr hwr => by simp only [execOp, (F6.eval 88 (by omega)).trans (show _ = Value.int .i64 c.held from by simp [upd, ee14, ee13, ee5, ee12, ee7])]; simp [go_sem, Act.eval, n2]) fun F7 => ?_
                refine lyp F7 rfl HCC rfl (by omega) (wanted_none rfl) (v := Value.bool false) (fun wr hwr => by simp only [execOp, (F7.eval 86 (by omega)).trans (show _ = Value.bool false from by simp [upd, ee14, ee13, ee5, ee12, ee7]), (F7.eval 89 (by omega)).trans (show _ = Value.bool false from by simp [upd, ee14, ee13, ee5, ee12, ee7])]; simp [go_sem, Act.eval]) fun F8 => ?_
                refine lyp F8 rfl HCC rfl (by omega) (wanted_none rfl) (v := Value.bool false) (fun wr hwr => by simp only [execOp, (F8.eval 90 (by omega)).trans (show _ = Value.bool false from by simp [upd, ee14, ee13, ee5, ee12, ee7])]; first | rfl | simp [go_sem]) fun F9 => ?_
                refine lyp F9 rfl HCC rfl (by omega) (want_yes F9 rfl (e := 91) rfl (by omega) (show _ = Value.bool false from by simp [upd, ee14, ee13, ee5, ee12, ee7])) (v := Value.pointer (some ⟨pb, 0, none⟩)) (fun wr hwr => by simp only [execOp, (F9.eval 14 (by omega)).trans (show _ = Value.pointer (some ⟨pb, 0, none⟩) from by simp [upd, ee14, ee13, ee5, ee12, ee7])]; simp [go_sem]) fun F10 => ?_
                refine lyp F10 rfl HCC rfl (by omega) (want_yes F10 rfl (e := 91) rfl (by omega) (show _ = Value.bool false from by simp [upd, ee14, ee13, ee5, ee12, ee7])) (v := Value.int .i64 c.val) (fun wr hwr => by simp only [execOp, (F10.eval 92 (by omega)).trans (show _ = Value.pointer (some ⟨pb, 0, none⟩) from by simp [upd, ee14, ee13, ee5, ee12, ee7])]; simp [go_sem, show wr.cell? ⟨pb, 0, none⟩ = some (.int .i64 c.val) from hwr.1.cell 0]) fun F11 => ?_
                refine lyp F11 rfl HCC rfl (by omega) (want_yes F11 rfl (e := 91) rfl (by omega) (show _ = Value.bool false from by simp [upd, ee14, ee13, ee5, ee12, ee7])) (v := Value.pointer (some ⟨pb, 1, none⟩)) (fun wr hwr => by simp only [execOp, (F11.eval 14 (by omega)).trans (show _ = Value.pointer (some ⟨pb, 0, none⟩) from by simp [upd, ee14, ee13, ee5, ee12, ee7])]; simp [go_sem]) fun F12 => ?_
                refine lyp F12 rfl HCC rfl (by omega) (want_yes F12 rfl (e := 91) rfl (by omega) (show _ = Value.bool false from by simp [upd, ee14, ee13, ee5, ee12, ee7])) (v := Value.int .i64 c.held) (fun wr hwr => by simp only [execOp, (F12.eval 94 (by omega)).trans (show _ = Value.pointer (some ⟨pb, 1, none⟩) from by simp [upd, ee14, ee13, ee5, ee12, ee7])]; simp [go_sem, show wr.cell? ⟨pb, 1, none⟩ = some (.int .i64 c.held) from hwr.1.cell 1]) fun F13 => ?_
                refine lyp F13 rfl HCC rfl (by omega) (want_yes F13 rfl (e := 91) rfl (by omega) (show _ = Value.bool false from by simp [upd, ee14, ee13, ee5, ee12, ee7])) (v := Value.int .i64 (c.val + c.held)) (fun wr hwr => by simp only [execOp, (F13.eval 93 (by omega)).trans (show _ = Value.int .i64 c.val from by simp [upd, ee14, ee13, ee5, ee12, ee7]), (F13.eval 95 (by omega)).trans (show _ = Value.int .i64 c.held from by simp [upd, ee14, ee13, ee5, ee12, ee7])]; simp [go_sem, Act.eval, n3]) fun F14 => ?_
                refine lyp F14 rfl HCC rfl (by omega) (want_yes F14 rfl (e := 91) rfl (by omega) (show _ = Value.bool false from by simp [upd, ee14, ee13, ee5, ee12, ee7])) (v := Value.pointer (some ⟨pb, 2, none⟩)) (fun wr hwr => by simp only [execOp, (F14.eval 14 (by omega)).trans (show _ = Value.pointer (some ⟨pb, 0, none⟩) from by simp [upd, ee14, ee13, ee5, ee12, ee7])]; simp [go_sem]) fun F15 => ?_
                refine lyp F15 rfl HCC rfl (by omega) (want_yes F15 rfl (e := 91) rfl (by omega) (show _ = Value.bool false from by simp [upd, ee14, ee13, ee5, ee12, ee7])) (v := Value.int .i64 c.lim) (fun wr hwr => by simp only [execOp, (F15.eval 97 (by omega)).trans (show _ = Value.pointer (some ⟨pb, 2, none⟩) from by simp [upd, ee14, ee13, ee5, ee12, ee7])]; simp [go_sem, show wr.cell? ⟨pb, 2, none⟩ = some (.int .i64 c.lim) from hwr.1.cell 2]) fun F16 => ?_
                refine lyp F16 rfl HCC rfl (by omega) (want_yes F16 rfl (e := 91) rfl (by omega) (show _ = Value.bool false from by simp [upd, ee14, ee13, ee5, ee12, ee7])) (v := Value.bool false) (fun wr hwr => by simp only [execOp, (F16.eval 96 (by omega)).trans (show _ = Value.int .i64 (c.val + c.held) from by simp [upd, ee14, ee13, ee5, ee12, ee7]), (F16.eval 98 (by omega)).trans (show _ = Value.int .i64 c.lim from by simp [upd, ee14, ee13, ee5, ee12, ee7])]; simp [go_sem, Act.eval, n4]) fun F17 => ?_
                refine lyp F17 rfl HCC rfl (by omega) (wanted_none rfl) (v := Value.bool false) (fun wr hwr => by simp only [execOp, (F17.eval 91 (by omega)).trans (show _ = Value.bool false from by simp [upd, ee14, ee13, ee5, ee12, ee7]), (F17.eval 99 (by omega)).trans (show _ = Value.bool false from by simp [upd, ee14, ee13, ee5, ee12, ee7])]; simp [go_sem, Act.eval]) fun F18 => ?_
                refine lyp F18 rfl HCC rfl (by omega) (wanted_none rfl) (v := Value.bool false) (fun wr hwr => by simp only [execOp, (F18.eval 100 (by omega)).trans (show _ = Value.bool false from by simp [upd, ee14, ee13, ee5, ee12, ee7])]; first | rfl | simp [go_sem]) fun F19 => ?_
                refine lyp F19 rfl HCC rfl (by omega) (want_yes F19 rfl (e := 101) rfl (by omega) (show _ = Value.bool false from by simp [upd, ee14, ee13, ee5, ee12, ee7])) (v := Value.slice (some ⟨g, 0, none⟩) M nc) (fun wr hwr => by simp only [execOp, (F19.eval 5 (by omega)).trans (show _ = Value.slice (some ⟨g, 0, none⟩) M nc from by simp [upd, ee14, ee13, ee5, ee12, ee7])]; first | rfl | simp [go_sem]) fun F20 => ?_
                refine lyp F20 rfl HCC rfl (by omega) (want_yes F20 rfl (e := 101) rfl (by omega) (show _ = Value.bool false from by simp [upd, ee14, ee13, ee5, ee12, ee7])) (v := Value.int .i64 (q : Nat)) (fun wr hwr => by simp only [execOp, (F20.eval 12 (by omega)).trans (show _ = Value.int .i64 (q : Nat) from by simp [upd, ee14, ee13, ee5, ee12, ee7])]; first | rfl | simp [go_sem]) fun F21 => ?_
                refine lyp F21 rfl HCC rfl (by omega) (want_yes F21 rfl (e := 101) rfl (by omega) (show _ = Value.bool false from by simp [upd, ee14, ee13, ee5, ee12, ee7])) (v := Value.pointer (some ⟨g, q, none⟩)) (fun wr hwr => by simp only [execOp, (F21.eval 102 (by omega)).trans (show _ = Value.slice (some ⟨g, 0, none⟩) M nc from by simp [upd, ee14, ee13, ee5, ee12, ee7]), (F21.eval 103 (by omega)).trans (show _ = Value.int .i64 (q : Nat) from by simp [upd, ee14, ee13, ee5, ee12, ee7])]; simp only [Sem.run_bind, Sem.run_pure, Result.andThen_ok, idx_run 39 9 1 Try.underlying39 (by kernel_rfl) wr g 0 M nc q (by omega), Nat.zero_add, Nat.mul_one]; try rfl) fun F22 => ?_
                refine lyp F22 rfl HCC rfl (by omega) (want_yes F22 rfl (e := 101) rfl (by omega) (show _ = Value.bool false from by simp [upd, ee14, ee13, ee5, ee12, ee7])) (v := Value.string ⟨on.toArray⟩) (fun wr hwr => by simp only [execOp, (F22.eval 104 (by omega)).trans (show _ = Value.pointer (some ⟨g, q, none⟩) from by simp [upd, ee14, ee13, ee5, ee12, ee7])]; simp [go_sem, hwr.2.2.2]) fun F23 => ?_
                refine lyp F23 rfl HCC rfl (by omega) (want_yes F23 rfl (e := 101) rfl (by omega) (show _ = Value.bool false from by simp [upd, ee14, ee13, ee5, ee12, ee7])) (v := Value.pointer (some ⟨xb, 1, none⟩)) (fun wr hwr => by simp only [execOp, (F23.eval 7 (by omega)).trans (show _ = Value.pointer (some ⟨xb, 0, none⟩) from by simp [upd, ee14, ee13, ee5, ee12, ee7])]; simp [go_sem]) fun F24 => ?_
                refine lyp F24 rfl HCC rfl (by omega) (want_yes F24 rfl (e := 101) rfl (by omega) (show _ = Value.bool false from by simp [upd, ee14, ee13, ee5, ee12, ee7])) (v := Value.string ⟨on.toArray⟩) (fun wr hwr => by simp only [execOp, (F24.eval 106 (by omega)).trans (show _ = Value.pointer (some ⟨xb, 1, none⟩) from by simp [upd, ee14, ee13, ee5, ee12, ee7])]; simp [go_sem, show wr.cell? ⟨xb, 1, none⟩ = some (.string ⟨on.toArray⟩) from hwr.2.2.1.cell 1]) fun F25 => ?_
                refine lyp F25 rfl HCC rfl (by omega) (want_yes F25 rfl (e := 101) rfl (by omega) (show _ = Value.bool false from by simp [upd, ee14, ee13, ee5, ee12, ee7])) (v := Value.bool false) (fun wr hwr => by simp only [execOp, (F25.eval 105 (by omega)).trans (show _ = Value.string ⟨on.toArray⟩ from by simp [upd, ee14, ee13, ee5, ee12, ee7]), (F25.eval 107 (by omega)).trans (show _ = Value.string ⟨on.toArray⟩ from by simp [upd, ee14, ee13, ee5, ee12, ee7])]; simp [go_sem, Act.eval]) fun F26 => ?_
                refine lyp F26 rfl HCC rfl (by omega) (want_yes F26 rfl (e := 101) rfl (by omega) (show _ = Value.bool false from by simp [upd, ee14, ee13, ee5, ee12, ee7])) (v := Value.bool false) (fun wr hwr => by simp only [execOp, (F26.eval 108 (by omega)).trans (show _ = Value.bool false from by simp [upd, ee14, ee13, ee5, ee12, ee7])]; first | rfl | simp [go_sem]) fun F27 => ?_
                refine lnp F27 rfl HCC rfl (by omega) (want_no F27 rfl (e := 109) rfl (by omega) (show _ = Value.bool false from by simp [upd, ee14, ee13, ee5, ee12, ee7]) (by decide)) fun F28 => ?_
                refine lnp F28 rfl HCC rfl (by omega) (want_no F28 rfl (e := 109) rfl (by omega) (show _ = Value.bool false from by simp [upd, ee14, ee13, ee5, ee12, ee7]) (by decide)) fun F29 => ?_
                refine lnp F29 rfl HCC rfl (by omega) (want_no F29 rfl (e := 109) rfl (by omega) (show _ = Value.bool false from by simp [upd, ee14, ee13, ee5, ee12, ee7]) (by decide)) fun F30 => ?_
                refine lyp F30 rfl HCC rfl (by omega) (want_yes F30 rfl (e := 101) rfl (by omega) (show _ = Value.bool false from by simp [upd, ee14, ee13, ee5, ee12, ee7])) (v := Value.bool false) (fun wr hwr => by simp only [execOp, (F30.eval 109 (by omega)).trans (show _ = Value.bool false from by simp [upd, ee14, ee13, ee5, ee12, ee7])]; simp [go_sem, Act.eval]) fun F31 => ?_
                refine lyp F31 rfl HCC rfl (by omega) (wanted_none rfl) (v := Value.bool false) (fun wr hwr => by simp only [execOp, (F31.eval 101 (by omega)).trans (show _ = Value.bool false from by simp [upd, ee14, ee13, ee5, ee12, ee7]), (F31.eval 113 (by omega)).trans (show _ = Value.bool false from by simp [upd, ee14, ee13, ee5, ee12, ee7])]; simp [go_sem, Act.eval]) fun F32 => ?_
                refine ⟨fun _ => HCC, ?_⟩
                refine hK _ _ ?_
                clear F0 F1 F2 F3 F4 F5 F6 F7 F8 F9 F10 F11 F12 F13 F14 F15 F16 F17 F18 F19 F20 F21 F22 F23 F24 F25 F26 F27 F28 F29 F30 F31 F32 ee14 ee13 ee5 ee12 ee7 HCC
                simp only [Act.put, List.setIfInBounds_toArray, List.set_cons_succ, List.set_cons_zero]
                obtain ⟨U, hU⟩ : ∃ U, U = ({ V with drawn := V.drawn + 1 } : World) := ⟨_, rfl⟩
                have hPA : Blk U pa #[.int .i64 a.val, .int .i64 a.held, .int .i64 a.lim, .bool a.is] 45 := by rw [hU]; exact BPA.out
                have hPB : Blk U pb #[.int .i64 c.val, .int .i64 c.held, .int .i64 c.lim, .bool c.is] 45 := by rw [hU]; exact BPB.out
                have hXX : Blk U xb #[.int .i64 ok, .string ⟨on.toArray⟩, .int .i64 oa, .int .i64 ob_] 31 := by rw [hU]; exact BXX.out
                have hy0 : U.cell? ⟨g, q, none⟩ = some (.string ⟨on.toArray⟩) := by rw [hU]; exact y0
                have HUU : Hid (Below w5.heap.size w5 U) := show Below w5.heap.size w5 U from by rw [hU]; exact Below.drew HVV.out
                rw [← hU]
                clear BPA BPB BXX y0 HVV hU
                have BPA : Hid (Blk U pa #[.int .i64 a.val, .int .i64 a.held, .int .i64 a.lim, .bool a.is] 45) := hPA
                have BPB : Hid (Blk U pb #[.int .i64 c.val, .int .i64 c.held, .int .i64 c.lim, .bool c.is] 45) := hPB
                have BXX : Hid (Blk U xb #[.int .i64 ok, .string ⟨on.toArray⟩, .int .i64 oa, .int .i64 ob_] 31) := hXX
                have y0 := hy0
                clear hPA hPB hXX hy0
                go_wp2_with fail
                rename_i K hK
                try rw [show ∀ a : Act, a.put none undef = a from fun _ => rfl]
                refine wp_region_mix (fun wq => Blk wq pb #[.int .i64 c.val, .int .i64 c.held, .int .i64 c.lim, .bool c.is] 45 ∧ Blk wq pa #[.int .i64 a.val, .int .i64 a.held, .int .i64 a.lim, .bool a.is] 45 ∧ Blk wq xb #[.int .i64 ok, .string ⟨on.toArray⟩, .int .i64 oa, .int .i64 ob_] 31 ∧ wq.cell? ⟨g, q, none⟩ = some (.string ⟨on.toArray⟩)) (fun i => i == 99) 99 (by kernel_rfl) rfl (by kernel_rfl) (by kernel_rfl) (by kernel_rfl) ?_
                refine withFrP (N := 134) rfl ?_
                intro f0 F0 hff
                have ee14 : f0 14 = Value.pointer (some ⟨pb, 0, none⟩) := hff 14
                have ee13 : f0 13 = Value.pointer (some ⟨pa, 0, none⟩) := hff 13
                have ee5 : f0 5 = Value.slice (some ⟨g, 0, none⟩) M nc := hff 5
                have ee12 : f0 12 = Value.int .i64 (q : Nat) := hff 12
                have ee7 : f0 7 = Value.pointer (some ⟨xb, 0, none⟩) := hff 7
                have ee10 : f0 10 = Value.int .i64 R.1.2 := hff 10
                have ee9 : f0 9 = Value.int .i64 0 := hff 9
                clear hff
                have HCC : (fun wq => Blk wq pb #[.int .i64 c.val, .int .i64 c.held, .int .i64 c.lim, .bool c.is] 45 ∧ Blk wq pa #[.int .i64 a.val, .int .i64 a.held, .int .i64 a.lim, .bool a.is] 45 ∧ Blk wq xb #[.int .i64 ok, .string ⟨on.toArray⟩, .int .i64 oa, .int .i64 ob_] 31 ∧ wq.cell? ⟨g, q, none⟩ = some (.string ⟨on.toArray⟩)) (({ U with drawn := U.drawn + 1 } : World)) := ⟨BPB.out, BPA.out, BXX.out, y0⟩
                refine lyp F0 rfl HCC rfl (by omega) (wanted_none rfl) (v := Value.slice (some ⟨g, 0, none⟩) M nc) (fun wr hwr => by simp only [execOp, (F0.eval 5 (by omega)).trans (show _ = Value.slice (some ⟨g, 0, none⟩) M nc from by simp [upd, ee14, ee13, ee5, ee12, ee7, ee10, ee9])]; first | rfl | simp [go_sem]) fun F1 => ?_
                refine lyp F1 rfl HCC rfl (by omega) (wanted_none rfl) (v := Value.int .i64 (q : Nat)) (fun wr hwr => by simp only [execOp, (F1.eval 12 (by omega)).trans (show _ = Value.int .i64 (q : Nat) from by simp [upd, ee14, ee13, ee5, ee12, ee7, ee10, ee9])]; first | rfl | simp [go_sem]) fun F2 => ?_
                refine lyp F2 rfl HCC rfl (by omega) (wanted_none rfl) (v := Value.pointer (some ⟨g, q, none⟩)) (fun wr hwr => by simp only [execOp, (F2.eval 115 (by omega)).trans (show _ = Value.slice (some ⟨g, 0, none⟩) M nc from by simp [upd, ee14, ee13, ee5, ee12, ee7, ee10, ee9]), (F2.eval 116 (by omega)).trans (show _ = Value.int .i64 (q : Nat) from by simp [upd, ee14, ee13, ee5, ee12, ee7, ee10, ee9])]; simp only [Sem.run_bind, Sem.run_pure, Result.andThen_ok, idx_run 39 9 1 Try.underlying39 (by kernel_rfl) wr g 0 M nc q (by omega), Nat.zero_add, Nat.mul_one]; try rfl) fun F3 => ?_
                refine lyp F3 rfl HCC rfl (by omega) (wanted_none rfl) (v := Value.string ⟨on.toArray⟩) (fun wr hwr => by simp only [execOp, (F3.eval 117 (by omega)).trans (show _ = Value.pointer (some ⟨g, q, none⟩) from by simp [upd, ee14, ee13, ee5, ee12, ee7, ee10, ee9])]; simp [go_sem, hwr.2.2.2]) fun F4 => ?_
                refine lyp F4 rfl HCC rfl (by omega) (wanted_none rfl) (v := Value.pointer (some ⟨xb, 1, none⟩)) (fun wr hwr => by simp only [execOp, (F4.eval 7 (by omega)).trans (show _ = Value.pointer (some ⟨xb, 0, none⟩) from by simp [upd, ee14, ee13, ee5, ee12, ee7, ee10, ee9])]; simp [go_sem]) fun F5 => ?_
                refine lyp F5 rfl HCC rfl (by omega) (wanted_none rfl) (v := Value.string ⟨on.toArray⟩) (fun wr hwr => by simp only [execOp, (F5.eval 119 (by omega)).trans (show _ = Value.pointer (some ⟨xb, 1, none⟩) from by simp [upd, ee14, ee13, ee5, ee12, ee7, ee10, ee9])]; simp [go_sem, show wr.cell? ⟨xb, 1, none⟩ = some (.string ⟨on.toArray⟩) from hwr.2.2.1.cell 1]) fun F6 => ?_
                refine lyp F6 rfl HCC rfl (by omega) (wanted_none rfl) (v := Value.bool true) (fun wr hwr => by simp only [execOp, (F6.eval 118 (by omega)).trans (show _ = Value.string ⟨on.toArray⟩ from by simp [upd, ee14, ee13, ee5, ee12, ee7, ee10, ee9]), (F6.eval 120 (by omega)).trans (show _ = Value.string ⟨on.toArray⟩ from by simp [upd, ee14, ee13, ee5, ee12, ee7, ee10, ee9])]; simp [go_sem, Act.eval]) fun F7 => ?_
                refine lyp F7 rfl HCC rfl (by omega) (wanted_none rfl) (v := Value.bool true) (fun wr hwr => by simp only [execOp, (F7.eval 121 (by omega)).trans (show _ = Value.bool true from by simp [upd, ee14, ee13, ee5, ee12, ee7, ee10, ee9])]; first | rfl | simp [go_sem]) fun F8 => ?_
                refine lyp F8 rfl HCC rfl (by omega) (want_yes F8 rfl (e := 122) rfl (by omega) (show _ = Value.bool true from by simp [upd, ee14, ee13, ee5, ee12, ee7, ee10, ee9])) (v := Value.int .i64 R.1.2) (fun wr hwr => by simp only [execOp, (F8.eval 10 (by omega)).trans (show _ = Value.int .i64 R.1.2 from by simp [upd, ee14, ee13, ee5, ee12, ee7, ee10, ee9])]; first | rfl | simp [go_sem]) fun F9 => ?_
                refine lyp F9 rfl HCC rfl (by omega) (want_yes F9 rfl (e := 122) rfl (by omega) (show _ = Value.bool true from by simp [upd, ee14, ee13, ee5, ee12, ee7, ee10, ee9])) (v := Value.bool false) (fun wr hwr => by simp only [execOp, (F9.eval 123 (by omega)).trans (show _ = Value.int .i64 R.1.2 from by simp [upd, ee14, ee13, ee5, ee12, ee7, ee10, ee9])]; simp [go_sem, Act.eval, her]) fun F10 => ?_
                refine lyp F10 rfl HCC rfl (by omega) (wanted_none rfl) (v := Value.bool false) (fun wr hwr => by simp only [execOp, (F10.eval 122 (by omega)).trans (show _ = Value.bool true from by simp [upd, ee14, ee13, ee5, ee12, ee7, ee10, ee9]), (F10.eval 124 (by omega)).trans (show _ = Value.bool false from by simp [upd, ee14, ee13, ee5, ee12, ee7, ee10, ee9])]; simp [go_sem, Act.eval]) fun F11 => ?_
                refine lyp F11 rfl HCC rfl (by omega) (wanted_none rfl) (v := Value.bool false) (fun wr hwr => by simp only [execOp, (F11.eval 125 (by omega)).trans (show _ = Value.bool false from by simp [upd, ee14, ee13, ee5, ee12, ee7, ee10, ee9])]; first | rfl | simp [go_sem]) fun F12 => ?_
                refine lnp F12 rfl HCC rfl (by omega) (want_no F12 rfl (e := 126) rfl (by omega) (show _ = Value.bool false from by simp [upd, ee14, ee13, ee5, ee12, ee7, ee10, ee9]) (by decide)) fun F13 => ?_
                refine lnp F13 rfl HCC rfl (by omega) (want_no F13 rfl (e := 126) rfl (by omega) (show _ = Value.bool false from by simp [upd, ee14, ee13, ee5, ee12, ee7, ee10, ee9]) (by decide)) fun F14 => ?_
                refine lnp F14 rfl HCC rfl (by omega) (want_no F14 rfl (e := 126) rfl (by omega) (show _ = Value.bool false from by simp [upd, ee14, ee13, ee5, ee12, ee7, ee10, ee9]) (by decide)) fun F15 => ?_
                refine lnp F15 rfl HCC rfl (by omega) (want_no F15 rfl (e := 126) rfl (by omega) (show _ = Value.bool false from by simp [upd, ee14, ee13, ee5, ee12, ee7, ee10, ee9]) (by decide)) fun F16 => ?_
                refine lnp F16 rfl HCC rfl (by omega) (want_no F16 rfl (e := 126) rfl (by omega) (show _ = Value.bool false from by simp [upd, ee14, ee13, ee5, ee12, ee7, ee10, ee9]) (by decide)) fun F17 => ?_
                refine lnp F17 rfl HCC rfl (by omega) (want_no F17 rfl (e := 126) rfl (by omega) (show _ = Value.bool false from by simp [upd, ee14, ee13, ee5, ee12, ee7, ee10, ee9]) (by decide)) fun F18 => ?_
                refine lyp F18 rfl HCC rfl (by omega) (wanted_none rfl) (v := Value.bool false) (fun wr hwr => by simp only [execOp, (F18.eval 126 (by omega)).trans (show _ = Value.bool false from by simp [upd, ee14, ee13, ee5, ee12, ee7, ee10, ee9])]; simp [go_sem, Act.eval]) fun F19 => ?_
                refine ⟨fun _ => HCC, ?_⟩
                refine hK _ _ ?_
                clear F0 F1 F2 F3 F4 F5 F6 F7 F8 F9 F10 F11 F12 F13 F14 F15 F16 F17 F18 F19 ee14 ee13 ee5 ee12 ee7 ee10 ee9 HCC
                simp only [Act.put, List.setIfInBounds_toArray, List.set_cons_succ, List.set_cons_zero]
                have HF : Hid (Below w5.heap.size w5 ({ U with drawn := U.drawn + 1 } : World)) := Below.drew HUU.out
                go_wp2_with fail
                go_roundw
                case rel => exact ⟨q + 1, by omega, by go_num, HF.out⟩
                case measure => simp [intOf]; omega
              · have hne : (nm == on) = false := by simpa using hno
                have hac := (HOT.out hno).symm
                subst hac
                clear hno
                go_wp2_with fail
                rename_i K hK
                try rw [show ∀ a : Act, a.put none undef = a from fun _ => rfl]
                refine wp_region_mix (fun wq => Blk wq pb #[.int .i64 c.val, .int .i64 c.held, .int .i64 c.lim, .bool c.is] 45 ∧ Blk wq pa #[.int .i64 c.val, .int .i64 c.held, .int .i64 c.lim, .bool c.is] 45 ∧ Blk wq xb #[.int .i64 ok, .string ⟨on.toArray⟩, .int .i64 oa, .int .i64 ob_] 31 ∧ wq.cell? ⟨g, q, none⟩ = some (.string ⟨nm.toArray⟩)) (fun i => i == 99) 99 (by kernel_rfl) rfl (by kernel_rfl) (by kernel_rfl) (by kernel_rfl) ?_
                refine withFrP (N := 134) rfl ?_
                intro f0 F0 hff
                have ee14 : f0 14 = Value.pointer (some ⟨pb, 0, none⟩) := hff 14
                have ee13 : f0 13 = Value.pointer (some ⟨pa, 0, none⟩) := hff 13
                have ee5 : f0 5 = Value.slice (some ⟨g, 0, none⟩) M nc := hff 5
                have ee12 : f0 12 = Value.int .i64 (q : Nat) := hff 12
                have ee7 : f0 7 = Value.pointer (some ⟨xb, 0, none⟩) := hff 7
                clear hff
                have HCC : (fun wq => Blk wq pb #[.int .i64 c.val, .int .i64 c.held, .int .i64 c.lim, .bool c.is] 45 ∧ Blk wq pa #[.int .i64 c.val, .int .i64 c.held, .int .i64 c.lim, .bool c.is] 45 ∧ Blk wq xb #[.int .i64 ok, .string ⟨on.toArray⟩, .int .i64 oa, .int .i64 ob_] 31 ∧ wq.cell? ⟨g, q, none⟩ = some (.string ⟨nm.toArray⟩)) (({ V with drawn := V.drawn + 1 } : World)) := ⟨BPB.out, BPA.out, BXX.out, y0⟩
                refine lyp F0 rfl HCC rfl (by omega) (wanted_none rfl) (v := Value.pointer (some ⟨pb, 0, none⟩)) (fun wr hwr => by simp only [execOp, (F0.eval 14 (by omega)).trans (show _ = Value.pointer (some ⟨pb, 0, none⟩) from by simp [upd, ee14, ee13, ee5, ee12, ee7])]; simp [go_sem]) fun F1 => ?_
                refine lyp F1 rfl HCC rfl (by omega) (wanted_none rfl) (v := Value.int .i64 c.val) (fun wr hwr => by simp only [execOp, (F1.eval 83 (by omega)).trans (show _ = Value.pointer (some ⟨pb, 0, none⟩) from by simp [upd, ee14, ee13, ee5, ee12, ee7])]; simp [go_sem, show wr.cell? ⟨pb, 0, none⟩ = some (.int .i64 c.val) from hwr.1.cell 0]) fun F2 => ?_
                refine lyp F2 rfl HCC rfl (by omega) (wanted_none rfl) (v := Value.bool false) (fun wr hwr => by simp only [execOp, (F2.eval 84 (by omega)).trans (show _ = Value.int .i64 c.val from by simp [upd, ee14, ee13, ee5, ee12, ee7])]; simp [go_sem, Act.eval, n1]) fun F3 => ?_
                refine lyp F3 rfl HCC rfl (by omega) (wanted_none rfl) (v := Value.bool false) (fun wr hwr => by simp only [execOp, (F3.eval 85 (by omega)).trans (show _ = Value.bool false from by simp [upd, ee14, ee13, ee5, ee12, ee7])]; first | rfl | simp [go_sem]) fun F4 => ?_
                refine lyp F4 rfl HCC rfl (by omega) (want_yes F4 rfl (e := 86) rfl (by omega) (show _ = Value.bool false from by simp [upd, ee14, ee13, ee5, ee12, ee7])) (v := Value.pointer (some ⟨pb, 1, none⟩)) (fun wr hwr => by simp only [execOp, (F4.eval 14 (by omega)).trans (show _ = Value.pointer (some ⟨pb, 0, none⟩) from by simp [upd, ee14, ee13, ee5, ee12, ee7])]; simp [go_sem]) fun F5 => ?_
                refine lyp F5 rfl HCC rfl (by omega) (want_yes F5 rfl (e := 86) rfl (by omega) (show _ = Value.bool false from by simp [upd, ee14, ee13, ee5, ee12, ee7])) (v := Value.int .i64 c.held) (fun wr hwr => by simp only [execOp, (F5.eval 87 (by omega)).trans (show _ = Value.pointer (some ⟨pb, 1, none⟩) from by simp [upd, ee14, ee13, ee5, ee12, ee7])]; simp [go_sem, show wr.cell? ⟨pb, 1, none⟩ = some (.int .i64 c.held) from hwr.1.cell 1]) fun F6 => ?_
                refine lyp F6 rfl HCC rfl (by omega) (want_yes F6 rfl (e := 86) rfl (by omega) (show _ = Value.bool false from by simp [upd, ee14, ee13, ee5, ee12, ee7])) (v := Value.bool false) (fun wr hwr => by simp only [execOp, (F6.eval 88 (by omega)).trans (show _ = Value.int .i64 c.held from by simp [upd, ee14, ee13, ee5, ee12, ee7])]; simp [go_sem, Act.eval, n2]) fun F7 => ?_
                refine lyp F7 rfl HCC rfl (by omega) (wanted_none rfl) (v := Value.bool false) (fun wr hwr => by simp only [execOp, (F7.eval 86 (by omega)).trans (show _ = Value.bool false from by simp [upd, ee14, ee13, ee5, ee12, ee7]), (F7.eval 89 (by omega)).trans (show _ = Value.bool false from by simp [upd, ee14, ee13, ee5, ee12, ee7])]; simp [go_sem, Act.eval]) fun F8 => ?_
                refine lyp F8 rfl HCC rfl (by omega) (wanted_none rfl) (v := Value.bool false) (fun wr hwr => by simp only [execOp, (F8.eval 90 (by omega)).trans (show _ = Value.bool false from by simp [upd, ee14, ee13, ee5, ee12, ee7])]; first | rfl | simp [go_sem]) fun F9 => ?_
                refine lyp F9 rfl HCC rfl (by omega) (want_yes F9 rfl (e := 91) rfl (by omega) (show _ = Value.bool false from by simp [upd, ee14, ee13, ee5, ee12, ee7])) (v := Value.pointer (some ⟨pb, 0, none⟩)) (fun wr hwr => by simp only [execOp, (F9.eval 14 (by omega)).trans (show _ = Value.pointer (some ⟨pb, 0, none⟩) from by simp [upd, ee14, ee13, ee5, ee12, ee7])]; simp [go_sem]) fun F10 => ?_
                refine lyp F10 rfl HCC rfl (by omega) (want_yes F10 rfl (e := 91) rfl (by omega) (show _ = Value.bool false from by simp [upd, ee14, ee13, ee5, ee12, ee7])) (v := Value.int .i64 c.val) (fun wr hwr => by simp only [execOp, (F10.eval 92 (by omega)).trans (show _ = Value.pointer (some ⟨pb, 0, none⟩) from by simp [upd, ee14, ee13, ee5, ee12, ee7])]; simp [go_sem, show wr.cell? ⟨pb, 0, none⟩ = some (.int .i64 c.val) from hwr.1.cell 0]) fun F11 => ?_
                refine lyp F11 rfl HCC rfl (by omega) (want_yes F11 rfl (e := 91) rfl (by omega) (show _ = Value.bool false from by simp [upd, ee14, ee13, ee5, ee12, ee7])) (v := Value.pointer (some ⟨pb, 1, none⟩)) (fun wr hwr => by simp only [execOp, (F11.eval 14 (by omega)).trans (show _ = Value.pointer (some ⟨pb, 0, none⟩) from by simp [upd, ee14, ee13, ee5, ee12, ee7])]; simp [go_sem]) fun F12 => ?_
                refine lyp F12 rfl HCC rfl (by omega) (want_yes F12 rfl (e := 91) rfl (by omega) (show _ = Value.bool false from by simp [upd, ee14, ee13, ee5, ee12, ee7])) (v := Value.int .i64 c.held) (fun wr hwr => by simp only [execOp, (F12.eval 94 (by omega)).trans (show _ = Value.pointer (some ⟨pb, 1, none⟩) from by simp [upd, ee14, ee13, ee5, ee12, ee7])]; simp [go_sem, show wr.cell? ⟨pb, 1, none⟩ = some (.int .i64 c.held) from hwr.1.cell 1]) fun F13 => ?_
                refine lyp F13 rfl HCC rfl (by omega) (want_yes F13 rfl (e := 91) rfl (by omega) (show _ = Value.bool false from by simp [upd, ee14, ee13, ee5, ee12, ee7])) (v := Value.int .i64 (c.val + c.held)) (fun wr hwr => by simp only [execOp, (F13.eval 93 (by omega)).trans (show _ = Value.int .i64 c.val from by simp [upd, ee14, ee13, ee5, ee12, ee7]), (F13.eval 95 (by omega)).trans (show _ = Value.int .i64 c.held from by simp [upd, ee14, ee13, ee5, ee12, ee7])]; simp [go_sem, Act.eval, n3]) fun F14 => ?_
                refine lyp F14 rfl HCC rfl (by omega) (want_yes F14 rfl (e := 91) rfl (by omega) (show _ = Value.bool false from by simp [upd, ee14, ee13, ee5, ee12, ee7])) (v := Value.pointer (some ⟨pb, 2, none⟩)) (fun wr hwr => by simp only [execOp, (F14.eval 14 (by omega)).trans (show _ = Value.pointer (some ⟨pb, 0, none⟩) from by simp [upd, ee14, ee13, ee5, ee12, ee7])]; simp [go_sem]) fun F15 => ?_
                refine lyp F15 rfl HCC rfl (by omega) (want_yes F15 rfl (e := 91) rfl (by omega) (show _ = Value.bool false from by simp [upd, ee14, ee13, ee5, ee12, ee7])) (v := Value.int .i64 c.lim) (fun wr hwr => by simp only [execOp, (F15.eval 97 (by omega)).trans (show _ = Value.pointer (some ⟨pb, 2, none⟩) from by simp [upd, ee14, ee13, ee5, ee12, ee7])]; simp [go_sem, show wr.cell? ⟨pb, 2, none⟩ = some (.int .i64 c.lim) from hwr.1.cell 2]) fun F16 => ?_
                refine lyp F16 rfl HCC rfl (by omega) (want_yes F16 rfl (e := 91) rfl (by omega) (show _ = Value.bool false from by simp [upd, ee14, ee13, ee5, ee12, ee7])) (v := Value.bool false) (fun wr hwr => by simp only [execOp, (F16.eval 96 (by omega)).trans (show _ = Value.int .i64 (c.val + c.held) from by simp [upd, ee14, ee13, ee5, ee12, ee7]), (F16.eval 98 (by omega)).trans (show _ = Value.int .i64 c.lim from by simp [upd, ee14, ee13, ee5, ee12, ee7])]; simp [go_sem, Act.eval, n4]) fun F17 => ?_
                refine lyp F17 rfl HCC rfl (by omega) (wanted_none rfl) (v := Value.bool false) (fun wr hwr => by simp only [execOp, (F17.eval 91 (by omega)).trans (show _ = Value.bool false from by simp [upd, ee14, ee13, ee5, ee12, ee7]), (F17.eval 99 (by omega)).trans (show _ = Value.bool false from by simp [upd, ee14, ee13, ee5, ee12, ee7])]; simp [go_sem, Act.eval]) fun F18 => ?_
                refine lyp F18 rfl HCC rfl (by omega) (wanted_none rfl) (v := Value.bool false) (fun wr hwr => by simp only [execOp, (F18.eval 100 (by omega)).trans (show _ = Value.bool false from by simp [upd, ee14, ee13, ee5, ee12, ee7])]; first | rfl | simp [go_sem]) fun F19 => ?_
                refine lyp F19 rfl HCC rfl (by omega) (want_yes F19 rfl (e := 101) rfl (by omega) (show _ = Value.bool false from by simp [upd, ee14, ee13, ee5, ee12, ee7])) (v := Value.slice (some ⟨g, 0, none⟩) M nc) (fun wr hwr => by simp only [execOp, (F19.eval 5 (by omega)).trans (show _ = Value.slice (some ⟨g, 0, none⟩) M nc from by simp [upd, ee14, ee13, ee5, ee12, ee7])]; first | rfl | simp [go_sem]) fun F20 => ?_
                refine lyp F20 rfl HCC rfl (by omega) (want_yes F20 rfl (e := 101) rfl (by omega) (show _ = Value.bool false from by simp [upd, ee14, ee13, ee5, ee12, ee7])) (v := Value.int .i64 (q : Nat)) (fun wr hwr => by simp only [execOp, (F20.eval 12 (by omega)).trans (show _ = Value.int .i64 (q : Nat) from by simp [upd, ee14, ee13, ee5, ee12, ee7])]; first | rfl | simp [go_sem]) fun F21 => ?_
                refine lyp F21 rfl HCC rfl (by omega) (want_yes F21 rfl (e := 101) rfl (by omega) (show _ = Value.bool false from by simp [upd, ee14, ee13, ee5, ee12, ee7])) (v := Value.pointer (some ⟨g, q, none⟩)) (fun wr hwr => by simp only [execOp, (F21.eval 102 (by omega)).trans (show _ = Value.slice (some ⟨g, 0, none⟩) M nc from by simp [upd, ee14, ee13, ee5, ee12, ee7]), (F21.eval 103 (by omega)).trans (show _ = Value.int .i64 (q : Nat) from by simp [upd, ee14, ee13, ee5, ee12, ee7])]; simp only [Sem.run_bind, Sem.run_pure, Result.andThen_ok, idx_run 39 9 1 Try.underlying39 (by kernel_rfl) wr g 0 M nc q (by omega), Nat.zero_add, Nat.mul_one]; try rfl) fun F22 => ?_
                refine lyp F22 rfl HCC rfl (by omega) (want_yes F22 rfl (e := 101) rfl (by omega) (show _ = Value.bool false from by simp [upd, ee14, ee13, ee5, ee12, ee7])) (v := Value.string ⟨nm.toArray⟩) (fun wr hwr => by simp only [execOp, (F22.eval 104 (by omega)).trans (show _ = Value.pointer (some ⟨g, q, none⟩) from by simp [upd, ee14, ee13, ee5, ee12, ee7])]; simp [go_sem, hwr.2.2.2]) fun F23 => ?_
                refine lyp F23 rfl HCC rfl (by omega) (want_yes F23 rfl (e := 101) rfl (by omega) (show _ = Value.bool false from by simp [upd, ee14, ee13, ee5, ee12, ee7])) (v := Value.pointer (some ⟨xb, 1, none⟩)) (fun wr hwr => by simp only [execOp, (F23.eval 7 (by omega)).trans (show _ = Value.pointer (some ⟨xb, 0, none⟩) from by simp [upd, ee14, ee13, ee5, ee12, ee7])]; simp [go_sem]) fun F24 => ?_
                refine lyp F24 rfl HCC rfl (by omega) (want_yes F24 rfl (e := 101) rfl (by omega) (show _ = Value.bool false from by simp [upd, ee14, ee13, ee5, ee12, ee7])) (v := Value.string ⟨on.toArray⟩) (fun wr hwr => by simp only [execOp, (F24.eval 106 (by omega)).trans (show _ = Value.pointer (some ⟨xb, 1, none⟩) from by simp [upd, ee14, ee13, ee5, ee12, ee7])]; simp [go_sem, show wr.cell? ⟨xb, 1, none⟩ = some (.string ⟨on.toArray⟩) from hwr.2.2.1.cell 1]) fun F25 => ?_
                refine lyp F25 rfl HCC rfl (by omega) (want_yes F25 rfl (e := 101) rfl (by omega) (show _ = Value.bool false from by simp [upd, ee14, ee13, ee5, ee12, ee7])) (v := Value.bool true) (fun wr hwr => by simp only [execOp, (F25.eval 105 (by omega)).trans (show _ = Value.string ⟨nm.toArray⟩ from by simp [upd, ee14, ee13, ee5, ee12, ee7]), (F25.eval 107 (by omega)).trans (show _ = Value.string ⟨on.toArray⟩ from by simp [upd, ee14, ee13, ee5, ee12, ee7])]; simp [go_sem, Act.eval, hne]) fun F26 => ?_
                refine lyp F26 rfl HCC rfl (by omega) (want_yes F26 rfl (e := 101) rfl (by omega) (show _ = Value.bool false from by simp [upd, ee14, ee13, ee5, ee12, ee7])) (v := Value.bool true) (fun wr hwr => by simp only [execOp, (F26.eval 108 (by omega)).trans (show _ = Value.bool true from by simp [upd, ee14, ee13, ee5, ee12, ee7])]; first | rfl | simp [go_sem]) fun F27 => ?_
                refine lyp F27 rfl HCC rfl (by omega) (want_yes F27 rfl (e := 109) rfl (by omega) (show _ = Value.bool true from by simp [upd, ee14, ee13, ee5, ee12, ee7])) (v := Value.agg #[.int .i64 c.val, .int .i64 c.held, .int .i64 c.lim, .bool c.is]) (fun wr hwr => by simp only [execOp, (F27.eval 13 (by omega)).trans (show _ = Value.pointer (some ⟨pa, 0, none⟩) from by simp [upd, ee14, ee13, ee5, ee12, ee7])]; simp [go_sem, show wr.cell? ⟨pa, 0, none⟩ = some (.int .i64 c.val) from hwr.2.1.cell 0, show wr.cell? ⟨pa, 1, none⟩ = some (.int .i64 c.held) from hwr.2.1.cell 1, show wr.cell? ⟨pa, 2, none⟩ = some (.int .i64 c.lim) from hwr.2.1.cell 2, show wr.cell? ⟨pa, 3, none⟩ = some (.bool c.is) from hwr.2.1.cell 3]) fun F28 => ?_
                refine lyp F28 rfl HCC rfl (by omega) (want_yes F28 rfl (e := 109) rfl (by omega) (show _ = Value.bool true from by simp [upd, ee14, ee13, ee5, ee12, ee7])) (v := Value.agg #[.int .i64 c.val, .int .i64 c.held, .int .i64 c.lim, .bool c.is]) (fun wr hwr => by simp only [execOp, (F28.eval 14 (by omega)).trans (show _ = Value.pointer (some ⟨pb, 0, none⟩) from by simp [upd, ee14, ee13, ee5, ee12, ee7])]; simp [go_sem, show wr.cell? ⟨pb, 0, none⟩ = some (.int .i64 c.val) from hwr.1.cell 0, show wr.cell? ⟨pb, 1, none⟩ = some (.int .i64 c.held) from hwr.1.cell 1, show wr.cell? ⟨pb, 2, none⟩ = some (.int .i64 c.lim) from hwr.1.cell 2, show wr.cell? ⟨pb, 3, none⟩ = some (.bool c.is) from hwr.1.cell 3]) fun F29 => ?_
                refine lyp F29 rfl HCC rfl (by omega) (want_yes F29 rfl (e := 109) rfl (by omega) (show _ = Value.bool true from by simp [upd, ee14, ee13, ee5, ee12, ee7])) (v := Value.bool false) (fun wr hwr => by simp only [execOp, (F29.eval 110 (by omega)).trans (show _ = Value.agg #[.int .i64 c.val, .int .i64 c.held, .int .i64 c.lim, .bool c.is] from by simp [upd, ee14, ee13, ee5, ee12, ee7]), (F29.eval 111 (by omega)).trans (show _ = Value.agg #[.int .i64 c.val, .int .i64 c.held, .int .i64 c.lim, .bool c.is] from by simp [upd, ee14, ee13, ee5, ee12, ee7])]; simp [go_sem]) fun F30 => ?_
                refine lyp F30 rfl HCC rfl (by omega) (want_yes F30 rfl (e := 101) rfl (by omega) (show _ = Value.bool false from by simp [upd, ee14, ee13, ee5, ee12, ee7])) (v := Value.bool false) (fun wr hwr => by simp only [execOp, (F30.eval 109 (by omega)).trans (show _ = Value.bool true from by simp [upd, ee14, ee13, ee5, ee12, ee7]), (F30.eval 112 (by omega)).trans (show _ = Value.bool false from by simp [upd, ee14, ee13, ee5, ee12, ee7])]; simp [go_sem, Act.eval]) fun F31 => ?_
                refine lyp F31 rfl HCC rfl (by omega) (wanted_none rfl) (v := Value.bool false) (fun wr hwr => by simp only [execOp, (F31.eval 101 (by omega)).trans (show _ = Value.bool false from by simp [upd, ee14, ee13, ee5, ee12, ee7]), (F31.eval 113 (by omega)).trans (show _ = Value.bool false from by simp [upd, ee14, ee13, ee5, ee12, ee7])]; simp [go_sem, Act.eval]) fun F32 => ?_
                refine ⟨fun _ => HCC, ?_⟩
                refine hK _ _ ?_
                clear F0 F1 F2 F3 F4 F5 F6 F7 F8 F9 F10 F11 F12 F13 F14 F15 F16 F17 F18 F19 F20 F21 F22 F23 F24 F25 F26 F27 F28 F29 F30 F31 F32 ee14 ee13 ee5 ee12 ee7 HCC
                simp only [Act.put, List.setIfInBounds_toArray, List.set_cons_succ, List.set_cons_zero]
                obtain ⟨U, hU⟩ : ∃ U, U = ({ V with drawn := V.drawn + 1 } : World) := ⟨_, rfl⟩
                have hPA : Blk U pa #[.int .i64 c.val, .int .i64 c.held, .int .i64 c.lim, .bool c.is] 45 := by rw [hU]; exact BPA.out
                have hPB : Blk U pb #[.int .i64 c.val, .int .i64 c.held, .int .i64 c.lim, .bool c.is] 45 := by rw [hU]; exact BPB.out
                have hXX : Blk U xb #[.int .i64 ok, .string ⟨on.toArray⟩, .int .i64 oa, .int .i64 ob_] 31 := by rw [hU]; exact BXX.out
                have hy0 : U.cell? ⟨g, q, none⟩ = some (.string ⟨nm.toArray⟩) := by rw [hU]; exact y0
                have HUU : Hid (Below w5.heap.size w5 U) := show Below w5.heap.size w5 U from by rw [hU]; exact Below.drew HVV.out
                rw [← hU]
                clear BPA BPB BXX y0 HVV hU
                have BPA : Hid (Blk U pa #[.int .i64 c.val, .int .i64 c.held, .int .i64 c.lim, .bool c.is] 45) := hPA
                have BPB : Hid (Blk U pb #[.int .i64 c.val, .int .i64 c.held, .int .i64 c.lim, .bool c.is] 45) := hPB
                have BXX : Hid (Blk U xb #[.int .i64 ok, .string ⟨on.toArray⟩, .int .i64 oa, .int .i64 ob_] 31) := hXX
                have y0 := hy0
                clear hPA hPB hXX hy0
                go_wp2_with fail
                rename_i K hK
                try rw [show ∀ a : Act, a.put none undef = a from fun _ => rfl]
                refine wp_region_mix (fun wq => Blk wq pb #[.int .i64 c.val, .int .i64 c.held, .int .i64 c.lim, .bool c.is] 45 ∧ Blk wq pa #[.int .i64 c.val, .int .i64 c.held, .int .i64 c.lim, .bool c.is] 45 ∧ Blk wq xb #[.int .i64 ok, .string ⟨on.toArray⟩, .int .i64 oa, .int .i64 ob_] 31 ∧ wq.cell? ⟨g, q, none⟩ = some (.string ⟨nm.toArray⟩)) (fun i => i == 99) 99 (by kernel_rfl) rfl (by kernel_rfl) (by kernel_rfl) (by kernel_rfl) ?_
                refine withFrP (N := 134) rfl ?_
                intro f0 F0 hff
                have ee14 : f0 14 = Value.pointer (some ⟨pb, 0, none⟩) := hff 14
                have ee13 : f0 13 = Value.pointer (some ⟨pa, 0, none⟩) := hff 13
                have ee5 : f0 5 = Value.slice (some ⟨g, 0, none⟩) M nc := hff 5
                have ee12 : f0 12 = Value.int .i64 (q : Nat) := hff 12
                have ee7 : f0 7 = Value.pointer (some ⟨xb, 0, none⟩) := hff 7
                have ee10 : f0 10 = Value.int .i64 R.1.2 := hff 10
                have ee9 : f0 9 = Value.int .i64 0 := hff 9
                clear hff
                have HCC : (fun wq => Blk wq pb #[.int .i64 c.val, .int .i64 c.held, .int .i64 c.lim, .bool c.is] 45 ∧ Blk wq pa #[.int .i64 c.val, .int .i64 c.held, .int .i64 c.lim, .bool c.is] 45 ∧ Blk wq xb #[.int .i64 ok, .string ⟨on.toArray⟩, .int .i64 oa, .int .i64 ob_] 31 ∧ wq.cell? ⟨g, q, none⟩ = some (.string ⟨nm.toArray⟩)) (({ U with drawn := U.drawn + 1 } : World)) := ⟨BPB.out, BPA.out, BXX.out, y0⟩
                refine lyp F0 rfl HCC rfl (by omega) (wanted_none rfl) (v := Value.slice (some ⟨g, 0, none⟩) M nc) (fun wr hwr => by simp only [execOp, (F0.eval 5 (by omega)).trans (show _ = Value.slice (some ⟨g, 0, none⟩) M nc from by simp [upd, ee14, ee13, ee5, ee12, ee7, ee10, ee9])]; first | rfl | simp [go_sem]) fun F1 => ?_
                refine lyp F1 rfl HCC rfl (by omega) (wanted_none rfl) (v := Value.int .i64 (q : Nat)) (fun wr hwr => by simp only [execOp, (F1.eval 12 (by omega)).trans (show _ = Value.int .i64 (q : Nat) from by simp [upd, ee14, ee13, ee5, ee12, ee7, ee10, ee9])]; first | rfl | simp [go_sem]) fun F2 => ?_
                refine lyp F2 rfl HCC rfl (by omega) (wanted_none rfl) (v := Value.pointer (some ⟨g, q, none⟩)) (fun wr hwr => by simp only [execOp, (F2.eval 115 (by omega)).trans (show _ = Value.slice (some ⟨g, 0, none⟩) M nc from by simp [upd, ee14, ee13, ee5, ee12, ee7, ee10, ee9]), (F2.eval 116 (by omega)).trans (show _ = Value.int .i64 (q : Nat) from by simp [upd, ee14, ee13, ee5, ee12, ee7, ee10, ee9])]; simp only [Sem.run_bind, Sem.run_pure, Result.andThen_ok, idx_run 39 9 1 Try.underlying39 (by kernel_rfl) wr g 0 M nc q (by omega), Nat.zero_add, Nat.mul_one]; try rfl) fun F3 => ?_
                refine lyp F3 rfl HCC rfl (by omega) (wanted_none rfl) (v := Value.string ⟨nm.toArray⟩) (fun wr hwr => by simp only [execOp, (F3.eval 117 (by omega)).trans (show _ = Value.pointer (some ⟨g, q, none⟩) from by simp [upd, ee14, ee13, ee5, ee12, ee7, ee10, ee9])]; simp [go_sem, hwr.2.2.2]) fun F4 => ?_
                refine lyp F4 rfl HCC rfl (by omega) (wanted_none rfl) (v := Value.pointer (some ⟨xb, 1, none⟩)) (fun wr hwr => by simp only [execOp, (F4.eval 7 (by omega)).trans (show _ = Value.pointer (some ⟨xb, 0, none⟩) from by simp [upd, ee14, ee13, ee5, ee12, ee7, ee10, ee9])]; simp [go_sem]) fun F5 => ?_
                refine lyp F5 rfl HCC rfl (by omega) (wanted_none rfl) (v := Value.string ⟨on.toArray⟩) (fun wr hwr => by simp only [execOp, (F5.eval 119 (by omega)).trans (show _ = Value.pointer (some ⟨xb, 1, none⟩) from by simp [upd, ee14, ee13, ee5, ee12, ee7, ee10, ee9])]; simp [go_sem, show wr.cell? ⟨xb, 1, none⟩ = some (.string ⟨on.toArray⟩) from hwr.2.2.1.cell 1]) fun F6 => ?_
                refine lyp F6 rfl HCC rfl (by omega) (wanted_none rfl) (v := Value.bool false) (fun wr hwr => by simp only [execOp, (F6.eval 118 (by omega)).trans (show _ = Value.string ⟨nm.toArray⟩ from by simp [upd, ee14, ee13, ee5, ee12, ee7, ee10, ee9]), (F6.eval 120 (by omega)).trans (show _ = Value.string ⟨on.toArray⟩ from by simp [upd, ee14, ee13, ee5, ee12, ee7, ee10, ee9])]; simp [go_sem, Act.eval, hne]) fun F7 => ?_
                refine lyp F7 rfl HCC rfl (by omega) (wanted_none rfl) (v := Value.bool false) (fun wr hwr => by simp only [execOp, (F7.eval 121 (by omega)).trans (show _ = Value.bool false from by simp [upd, ee14, ee13, ee5, ee12, ee7, ee10, ee9])]; first | rfl | simp [go_sem]) fun F8 => ?_
                refine lnp F8 rfl HCC rfl (by omega) (want_no F8 rfl (e := 122) rfl (by omega) (show _ = Value.bool false from by simp [upd, ee14, ee13, ee5, ee12, ee7, ee10, ee9]) (by decide)) fun F9 => ?_
                refine lnp F9 rfl HCC rfl (by omega) (want_no F9 rfl (e := 122) rfl (by omega) (show _ = Value.bool false from by simp [upd, ee14, ee13, ee5, ee12, ee7, ee10, ee9]) (by decide)) fun F10 => ?_
                refine lyp F10 rfl HCC rfl (by omega) (wanted_none rfl) (v := Value.bool false) (fun wr hwr => by simp only [execOp, (F10.eval 122 (by omega)).trans (show _ = Value.bool false from by simp [upd, ee14, ee13, ee5, ee12, ee7, ee10, ee9])]; simp [go_sem, Act.eval]) fun F11 => ?_
                refine lyp F11 rfl HCC rfl (by omega) (wanted_none rfl) (v := Value.bool false) (fun wr hwr => by simp only [execOp, (F11.eval 125 (by omega)).trans (show _ = Value.bool false from by simp [upd, ee14, ee13, ee5, ee12, ee7, ee10, ee9])]; first | rfl | simp [go_sem]) fun F12 => ?_
                refine lnp F12 rfl HCC rfl (by omega) (want_no F12 rfl (e := 126) rfl (by omega) (show _ = Value.bool false from by simp [upd, ee14, ee13, ee5, ee12, ee7, ee10, ee9]) (by decide)) fun F13 => ?_
                refine lnp F13 rfl HCC rfl (by omega) (want_no F13 rfl (e := 126) rfl (by omega) (show _ = Value.bool false from by simp [upd, ee14, ee13, ee5, ee12, ee7, ee10, ee9]) (by decide)) fun F14 => ?_
                refine lnp F14 rfl HCC rfl (by omega) (want_no F14 rfl (e := 126) rfl (by omega) (show _ = Value.bool false from by simp [upd, ee14, ee13, ee5, ee12, ee7, ee10, ee9]) (by decide)) fun F15 => ?_
                refine lnp F15 rfl HCC rfl (by omega) (want_no F15 rfl (e := 126) rfl (by omega) (show _ = Value.bool false from by simp [upd, ee14, ee13, ee5, ee12, ee7, ee10, ee9]) (by decide)) fun F16 => ?_
                refine lnp F16 rfl HCC rfl (by omega) (want_no F16 rfl (e := 126) rfl (by omega) (show _ = Value.bool false from by simp [upd, ee14, ee13, ee5, ee12, ee7, ee10, ee9]) (by decide)) fun F17 => ?_
                refine lnp F17 rfl HCC rfl (by omega) (want_no F17 rfl (e := 126) rfl (by omega) (show _ = Value.bool false from by simp [upd, ee14, ee13, ee5, ee12, ee7, ee10, ee9]) (by decide)) fun F18 => ?_
                refine lyp F18 rfl HCC rfl (by omega) (wanted_none rfl) (v := Value.bool false) (fun wr hwr => by simp only [execOp, (F18.eval 126 (by omega)).trans (show _ = Value.bool false from by simp [upd, ee14, ee13, ee5, ee12, ee7, ee10, ee9])]; simp [go_sem, Act.eval]) fun F19 => ?_
                refine ⟨fun _ => HCC, ?_⟩
                refine hK _ _ ?_
                clear F0 F1 F2 F3 F4 F5 F6 F7 F8 F9 F10 F11 F12 F13 F14 F15 F16 F17 F18 F19 ee14 ee13 ee5 ee12 ee7 ee10 ee9 HCC
                simp only [Act.put, List.setIfInBounds_toArray, List.set_cons_succ, List.set_cons_zero]
                have HF : Hid (Below w5.heap.size w5 ({ U with drawn := U.drawn + 1 } : World)) := Below.drew HUU.out
                go_wp2_with fail
                go_roundw
                case rel => exact ⟨q + 1, by omega, by go_num, HF.out⟩
                case measure => simp [intOf]; omega
            · obtain rfl : q = M := by omega
              have HFB : Hid (AX w ab mb L' wr) := HA5.out.more HBV.out
              have hNF := HN5.out
              have HNF : Hid (wr.ownsRow B0 9 1 (.slice no q nc) q (nms.map Sv)) := ownsRow_same hNF (fun g hg => HBV.out.block g (ownsRow_lt hNF hg).2)
              clear hNF
              go_wp2_with fail
              go_roundw
              case rel => exact ⟨j + 1, _, by omega, by omega, by go_num, HFB.out, HNF.out⟩
              case measure => simp [intOf]; omega
      · have HBF : Hid (Below w.heap.size w wr) := HA.out.bel
        by_cases hj4 : j < KN
        · have hj5 : ¬ j < 300 := by omega
          clear hlt
          go_wp2_with fail
          go_meet
          case rel => exact HBF.out
        · clear hlt
          go_wp2_with fail
          go_meet
          case rel => exact HBF.out
  case rest =>
    have HBF : Hid (Below w.heap.size w wc) := hcut
    clear hcut HA2 HN2
    go_wp2_with fail
    go_ret
    exact ⟨rfl, HBF.out⟩
end Go.Proofs.Ytgajmiibkakobaa
