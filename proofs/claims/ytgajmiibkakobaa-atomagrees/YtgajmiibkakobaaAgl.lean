import Derived.Test.YtgajmiibkakobaaTw
import Derived.Deep.Cut
import Derived.Deep.CutBlock
namespace Go.Proofs.Ytgajmiibkakobaa
open Go.RowKit Go.PlainAid Go.MapKept
set_option linter.unusedVariables false
set_option linter.unusedSimpArgs false
set_option maxRecDepth 100000 in
set_option maxHeartbeats 12800000 in
theorem agrees_law (ao : Option Addr) (KN cap : Nat) (os : List AA) (ot0 : Int) (w : World) (hl : os.length = KN)
    (hat : 0 < KN → ∃ b off, ao = some ⟨b, off, none⟩ ∧ ∀ i o, os[i]? = some o → RowAt w b (off + i * 5) o.row) (hok : ∀ o ∈ os, o.ok) (hcm : KN ≤ maxLen) (ho1 : -9223372036854775808 ≤ ot0) (ho2 : ot0 ≤ 9223372036854775807) :
    Calls Try.prog 5 #[.slice ao KN cap, .int .i64 ot0] w fun e w' => e = .returned (.bool true) ∧ Below w.heap.size w w' := by
  have HSP : Hid (∀ W, Below w.heap.size w W → _) := fun W hb => spoken_any ao KN cap os w W hb hl hat hcm
  unfold maxLen at hcm
  have HAT : Hid (0 < KN → ∃ b off, ao = some ⟨b, off, none⟩ ∧ ∀ i o, os[i]? = some o → RowAt w b (off + i * 5) o.row) := hat
  have HOK : Hid (∀ o ∈ os, o.ok) := hok
  have HLE : Hid (os.length = KN) := hl
  have HWI : Hid (∀ W, _) := fun W => within_1 ot0 1000 W ho1 ho2 (by decide) (by decide)
  clear hat hok hl ho1 ho2
  go_enter Try.func5, Try.ntmps5
  go_wp2_with fail
  refine Calls.mono (alive_any w) ?_
  rintro e9 w1 ⟨rfl, hb1⟩
  have HN : Hid _ := AX.new hb1
  clear hb1
  go_wp2_with fail
  refine Calls.mono HN.out ?_
  rintro e9 W1 ⟨ab, mb, rfl, hA⟩
  have HA1 : Hid (AX w ab mb [] W1) := hA
  clear hA HN
  go_wp2_with fail
  refine Calls.mono (HSP.out W1 HA1.out.bel) ?_
  rintro e9 W2 ⟨nv, nms, rfl, hn3, _, hrow, hb2⟩
  obtain ⟨M, hM⟩ : ∃ M, M = nms.length := ⟨_, rfl⟩
  rw [← hM] at hn3 hrow
  obtain ⟨no, nc, hnv, _⟩ := own_slice hrow
  subst hnv
  obtain ⟨B0, hB0⟩ : ∃ B0, B0 = W1.heap.size := ⟨_, rfl⟩
  rw [← hB0] at hrow
  have HA2 : Hid (AX w ab mb [] W2) := HA1.out.more hb2
  have HN2 : Hid (W2.ownsRow B0 9 1 (.slice no M nc) M (nms.map Sv)) := hrow
  have HM : Hid (M = nms.length) := hM
  clear hrow hb2 HA1 HSP hB0 hM
  go_wp2_with fail
  refine Calls.mono (HWI.out W2) ?_
  rintro e9 w9 ⟨oth, rfl, hot1, hot2, hw⟩
  replace hw := hw.symm
  subst hw
  clear HWI
  go_upto_block 0 with fail
  go_cut [8, 9, 10, 11, 12, 13, 14, 15, 16, 17] from 30 to 114 (fun _ _ _ _ _ _ _ _ _ _ wc => Below w.heap.size w wc)
  case first =>
    go_wp2_with fail
    go_loopw [8] (fun s8 wr => ∃ (j : Nat) (L : List (List UInt8 × Ct)), j ≤ KN ∧ j ≤ 60 ∧ s8 = .int .i64 j ∧ AX w ab mb L wr ∧ wr.ownsRow B0 9 1 (.slice no M nc) M (nms.map Sv)) (fun s8 _ => 60 - (intOf s8).toNat)
    case atStart => exact ⟨0, [], Nat.zero_le _, Nat.zero_le _, rfl, HA2.out, HN2.out⟩
    case round =>
      obtain ⟨j, L, hjK, hj3, rfl, hA, hNr⟩ := hrel
      have HA : Hid (AX w ab mb L wr) := hA
      have HNr : Hid (wr.ownsRow B0 9 1 (.slice no M nc) M (nms.map Sv)) := hNr
      clear hA hNr HA2 HN2
      by_cases hlt : j < KN ∧ j < 60
      · obtain ⟨b, off, hao, hrow⟩ := HAT.out (by omega)
        subst hao
        have hjo : j < os.length := by rw [HLE.out]; exact hlt.1
        have hr := hrow j os[j] (List.getElem?_eq_getElem hjo)
        have hr2 := hr.below HA.out.bel (hr.lt (by show 0 < 5; decide))
        have hbl : b < w.heap.size := hr.lt (by show 0 < 5; decide)
        have HBL : Hid (b < w.heap.size) := hbl
        have hok := HOK.out os[j] (List.getElem_mem hjo)
        generalize os[j] = o at *
        obtain ⟨⟨ok, on, oa, ob_⟩, oq⟩ := o
        obtain ⟨c0, c1, c2, c3, c4⟩ := hr2.act
        obtain ⟨⟨hq1, hnl, hq2, hq3⟩, hq4⟩ := hok
        clear hq1 hq2 hq3 hq4
        simp only at c0 c1 c2 c3 c4 hnl
        have HNL : Hid (on.length ≤ 140737488355328) := show on.length ≤ 140737488355328 from by omega
        have hlt1 := hlt.1
        have hlt2 := hlt.2
        clear hrow hr hlt hr2 hnl hjo hbl
        obtain ⟨xb, hxb⟩ : ∃ xb, xb = wr.heap.size := ⟨_, rfl⟩
        obtain ⟨X, hX⟩ : ∃ X, X = wr.alloc (.cells #[.int .i64 ok, .string ⟨on.toArray⟩, .int .i64 oa, .int .i64 ob_] 31) := ⟨_, rfl⟩
        have hbX : Below wr.heap.size wr X := by rw [hX]; exact (Below.refl _ _).alloc (Nat.le_refl _) _
        have BXB : Hid (Blk X xb #[.int .i64 ok, .string ⟨on.toArray⟩, .int .i64 oa, .int .i64 ob_] 31) := show Blk X xb #[.int .i64 ok, .string ⟨on.toArray⟩, .int .i64 oa, .int .i64 ob_] 31 from by rw [hX, hxb]; exact heap_alloc_new wr _
        have x4X : X.cell? ⟨b, off + j * 5 + 4, none⟩ = some (.int .i64 oq) := cell_below hbX c4
        have HAX : Hid (AX w ab mb L X) := HA.out.more hbX
        have HNX : Hid (X.ownsRow B0 9 1 (.slice no M nc) M (nms.map Sv)) := ownsRow_same HNr.out (fun g hg => hbX.block g (ownsRow_lt HNr.out hg).2)
        clear hbX
        go_upto_region 11 with fail
        rw [← hX, ← hxb]
        clear hX hxb c0 c1 c2 c3 c4
        go_wp2_with fail
        refine Calls.mono (TwoM.copy HAX.out) ?_
        rintro e9 w2 ⟨ab2, mb2, L2, rfl, hA2, hEQ, hb2⟩
        have HA2 : Hid (TwoM w ab mb L ab2 mb2 L2 w2) := hA2
        have HEQ : Hid (Eqv L L2) := hEQ
        have BX2 : Hid (Blk w2 xb #[.int .i64 ok, .string ⟨on.toArray⟩, .int .i64 oa, .int .i64 ob_] 31) := BXB.out.below hb2 BXB.out.lt
        have HN2 : Hid (w2.ownsRow B0 9 1 (.slice no M nc) M (nms.map Sv)) := ownsRow_same HNX.out (fun g hg => hb2.block g (ownsRow_lt HNX.out hg).2)
        have x4 : w2.cell? ⟨b, off + j * 5 + 4, none⟩ = some (.int .i64 oq) := cell_below hb2 x4X
        have HBD : Hid (Below w.heap.size w w2) := HA2.out.a.bel
        have HDO : Hid (∀ V, Below w2.heap.size w2 V → Calls Try.prog 12 #[.pointer (some ⟨ab, 0, none⟩), .agg #[.int .i64 ok, .string ⟨on.toArray⟩, .int .i64 oa, .int .i64 ob_], .int .i64 oq] V fun e w' => ∃ hb', e = .returned (.tuple #[.int .i64 (mapO ok oa ob_ oq on L).1.1, .int .i64 (mapO ok oa ob_ oq on L).1.2]) ∧ TwoM w ab mb (doL (mapO ok oa ob_ oq on L) on hb' L) ab2 mb2 L2 w' ∧ ∀ b C T, Blk V b C T → Blk w' b C T) := fun V hV => (HA2.out.more hV).do ok oa ob_ oq on HNL.out
        clear hA2 hEQ hb2 x4X HAX HNX BXB HA HNr
        obtain ⟨R, hR⟩ : ∃ R, R = mapO ok oa ob_ oq on L := ⟨_, rfl⟩
        rw [← hR] at HDO
        obtain ⟨yv, hyv⟩ : ∃ y, y = IntKind.i64.wrap (R.1.1 + oth) := ⟨_, rfl⟩
        obtain ⟨ze, hze⟩ : ∃ y, y = IntKind.i64.wrap (R.1.2 + oth) := ⟨_, rfl⟩
        have HYV : Hid (R.1.1 ≠ yv) := show R.1.1 ≠ yv from by rw [hyv]; exact wrap_ne _ _ hot1 hot2
        have HMY : Hid (¬ ok = 4 → mapO ok oa ob_ yv on L2 = R) := fun h => by rw [hR, ← HEQ.out.mapO ok oa ob_ yv on]; exact mapO_num h oa ob_ yv oq on L
        have HMZ : Hid (mapO ok oa ob_ R.1.1 on L2 = R) := show _ = _ from by rw [← HEQ.out.mapO ok oa ob_ R.1.1 on]; rw [hR]; exact mapO_again ok oa ob_ oq on L
        have HBZ : Hid (alB (mapO ok oa ob_ R.1.1 on L2) ze R.1.1 = false) := show _ = _ from by rw [HMZ.out]; exact alB_err (by rw [hze]; exact wrap_ne _ _ hot1 hot2)
        replace hyv := hyv.symm
        replace hze := hze.symm
        clear hR
        go_wp2_with fail
        rename_i K hK
        try rw [show ∀ a : Act, a.put none undef = a from fun _ => rfl]
        refine wp_region_mix (fun wq => Blk wq xb #[.int .i64 ok, .string ⟨on.toArray⟩, .int .i64 oa, .int .i64 ob_] 31 ∧ wq.cell? ⟨b, off + j * 5 + 4, none⟩ = some (.int .i64 oq)) (fun i => i == 7 || i == 99) 99 (by kernel_rfl) rfl (by kernel_rfl) (by kernel_rfl) (by kernel_rfl) ?_
        refine withFrP (N := 115) rfl ?_
        intro f0 F0 hff
        have ee6 : f0 6 = Value.pointer (some ⟨ab, 0, none⟩) := hff 6
        have ee9 : f0 9 = Value.pointer (some ⟨xb, 0, none⟩) := hff 9
        have ee0 : f0 0 = Value.slice (some ⟨b, off, none⟩) KN cap := hff 0
        have ee8 : f0 8 = Value.int .i64 (j : Nat) := hff 8
        clear hff
        have HCC : (fun wq => Blk wq xb #[.int .i64 ok, .string ⟨on.toArray⟩, .int .i64 oa, .int .i64 ob_] 31 ∧ wq.cell? ⟨b, off + j * 5 + 4, none⟩ = some (.int .i64 oq)) (({ w2 with drawn := w2.drawn + 1 } : World)) := ⟨BX2.out, x4⟩
        refine lyp F0 rfl HCC rfl (by omega) (wanted_none rfl) (v := Value.pointer (some ⟨ab, 0, none⟩)) (fun wr hwr => by simp only [execOp, (F0.eval 6 (by omega)).trans (show _ = Value.pointer (some ⟨ab, 0, none⟩) from by simp [upd, ee6, ee9, ee0, ee8])]; first | rfl | simp [go_sem]) fun F1 => ?_
        refine lyp F1 rfl HCC rfl (by omega) (wanted_none rfl) (v := Value.agg #[.int .i64 ok, .string ⟨on.toArray⟩, .int .i64 oa, .int .i64 ob_]) (fun wr hwr => by simp only [execOp, (F1.eval 9 (by omega)).trans (show _ = Value.pointer (some ⟨xb, 0, none⟩) from by simp [upd, ee6, ee9, ee0, ee8])]; simp [go_sem, show wr.cell? ⟨xb, 0, none⟩ = some (.int .i64 ok) from hwr.1.cell 0, show wr.cell? ⟨xb, 1, none⟩ = some (.string ⟨on.toArray⟩) from hwr.1.cell 1, show wr.cell? ⟨xb, 2, none⟩ = some (.int .i64 oa) from hwr.1.cell 2, show wr.cell? ⟨xb, 3, none⟩ = some (.int .i64 ob_) from hwr.1.cell 3]) fun F2 => ?_
        refine lyp F2 rfl HCC rfl (by omega) (wanted_none rfl) (v := Value.slice (some ⟨b, off, none⟩) KN cap) (fun wr hwr => by simp only [execOp, (F2.eval 0 (by omega)).trans (show _ = Value.slice (some ⟨b, off, none⟩) KN cap from by simp [upd, ee6, ee9, ee0, ee8])]; first | rfl | simp [go_sem]) fun F3 => ?_
        refine lyp F3 rfl HCC rfl (by omega) (wanted_none rfl) (v := Value.int .i64 (j : Nat)) (fun wr hwr => by simp only [execOp, (F3.eval 8 (by omega)).trans (show _ = Value.int .i64 (j : Nat) from by simp [upd, ee6, ee9, ee0, ee8])]; first | rfl | simp [go_sem]) fun F4 => ?_
        refine lyp F4 rfl HCC rfl (by omega) (wanted_none rfl) (v := Value.pointer (some ⟨b, off + j * 5, none⟩)) (fun wr hwr => by simp only [execOp, (F4.eval 52 (by omega)).trans (show _ = Value.slice (some ⟨b, off, none⟩) KN cap from by simp [upd, ee6, ee9, ee0, ee8]), (F4.eval 53 (by omega)).trans (show _ = Value.int .i64 (j : Nat) from by simp [upd, ee6, ee9, ee0, ee8])]; simp only [Sem.run_bind, Sem.run_pure, Result.andThen_ok, idx_run 22 33 5 Try.underlying22 (by kernel_rfl) wr b off KN cap j (by omega)]; try rfl) fun F5 => ?_
        refine lyp F5 rfl HCC rfl (by omega) (wanted_none rfl) (v := Value.pointer (some ⟨b, off + j * 5 + 4, none⟩)) (fun wr hwr => by simp only [execOp, (F5.eval 54 (by omega)).trans (show _ = Value.pointer (some ⟨b, off + j * 5, none⟩) from by simp [upd, ee6, ee9, ee0, ee8])]; simp [go_sem]) fun F6 => ?_
        refine lyp F6 rfl HCC rfl (by omega) (wanted_none rfl) (v := Value.int .i64 oq) (fun wr hwr => by simp only [execOp, (F6.eval 55 (by omega)).trans (show _ = Value.pointer (some ⟨b, off + j * 5 + 4, none⟩) from by simp [upd, ee6, ee9, ee0, ee8])]; simp [go_sem, hwr.2]) fun F7 => ?_
        refine lcp F7 rfl HCC rfl (by omega) (wanted_none rfl) (g := 12) (args := #[Value.pointer (some ⟨ab, 0, none⟩), Value.agg #[.int .i64 ok, .string ⟨on.toArray⟩, .int .i64 oa, .int .i64 ob_], Value.int .i64 oq]) (by simp only [execOp, resolve, invoke, List.map_toArray, List.map_cons, List.map_nil, (F7.eval 50 (by omega)).trans (show _ = Value.pointer (some ⟨ab, 0, none⟩) from by simp [upd, ee6, ee9, ee0, ee8]), (F7.eval 51 (by omega)).trans (show _ = Value.agg #[.int .i64 ok, .string ⟨on.toArray⟩, .int .i64 oa, .int .i64 ob_] from by simp [upd, ee6, ee9, ee0, ee8]), (F7.eval 56 (by omega)).trans (show _ = Value.int .i64 oq from by simp [upd, ee6, ee9, ee0, ee8])]; simp [go_sem, Act.eval]) (HDO.out (({ w2 with drawn := w2.drawn + 1 } : World)) (Below.drew (Below.refl _ _))) ?_
        rintro e9 w3 ⟨hb', rfl, hA3, hk3⟩
        refine ⟨_, rfl, fun F8 => ?_⟩
        have HC2 : (fun wq => Blk wq xb #[.int .i64 ok, .string ⟨on.toArray⟩, .int .i64 oa, .int .i64 ob_] 31 ∧ wq.cell? ⟨b, off + j * 5 + 4, none⟩ = some (.int .i64 oq)) w3 := ⟨hk3 _ _ _ HCC.1, (World.cell?_of_block (w := (({ w2 with drawn := w2.drawn + 1 } : World))) (hA3.a.bel.block b HBL.out |>.trans (HBD.out.block b HBL.out).symm)).trans HCC.2⟩
        refine lyp F8 rfl HC2 rfl (by omega) (wanted_none rfl) (v := Value.tuple #[.int .i64 R.1.1, .int .i64 R.1.2]) (fun wr hwr => by simp only [execOp, (F8.eval 57 (by omega)).trans (show _ = Value.tuple #[.int .i64 R.1.1, .int .i64 R.1.2] from by simp [upd, ee6, ee9, ee0, ee8])]; first | rfl | simp [go_sem]) fun F9 => ?_
        refine lyp F9 rfl HC2 rfl (by omega) (wanted_none rfl) (v := Value.int .i64 R.1.1) (fun wr hwr => by simp only [execOp, (F9.eval 49 (by omega)).trans (show _ = Value.tuple #[.int .i64 R.1.1, .int .i64 R.1.2] from by simp [upd, ee6, ee9, ee0, ee8])]; simp [go_sem]) fun F10 => ?_
        refine lyp F10 rfl HC2 rfl (by omega) (wanted_none rfl) (v := Value.int .i64 R.1.2) (fun wr hwr => by simp only [execOp, (F10.eval 49 (by omega)).trans (show _ = Value.tuple #[.int .i64 R.1.1, .int .i64 R.1.2] from by simp [upd, ee6, ee9, ee0, ee8])]; simp [go_sem]) fun F11 => ?_
        refine lyp F11 rfl HC2 rfl (by omega) (wanted_none rfl) (v := Value.int .i64 R.1.1) (fun wr hwr => by simp only [execOp, (F11.eval 58 (by omega)).trans (show _ = Value.int .i64 R.1.1 from by simp [upd, ee6, ee9, ee0, ee8])]; first | rfl | simp [go_sem]) fun F12 => ?_
        refine lyp F12 rfl HC2 rfl (by omega) (wanted_none rfl) (v := Value.int .i64 R.1.2) (fun wr hwr => by simp only [execOp, (F12.eval 59 (by omega)).trans (show _ = Value.int .i64 R.1.2 from by simp [upd, ee6, ee9, ee0, ee8])]; first | rfl | simp [go_sem]) fun F13 => ?_
        refine ⟨fun _ => HC2, ?_⟩
        refine hK _ _ ?_
        clear F0 F1 F2 F3 F4 F5 F6 F7 F8 F9 F10 F11 F12 F13 ee6 ee9 ee0 ee8 HCC HC2
        simp only [Act.put, List.setIfInBounds_toArray, List.set_cons_succ, List.set_cons_zero]
        have HA3 : Hid (TwoM w ab mb (doL R on hb' L) ab2 mb2 L2 w3) := hA3
        have hD0 : ∀ b C T, Blk w2 b C T → Blk w3 b C T := fun b C T h => hk3 b C T h
        have BXw3 : Hid (Blk w3 xb #[.int .i64 ok, .string ⟨on.toArray⟩, .int .i64 oa, .int .i64 ob_] 31) := hD0 _ _ _ BX2.out
        have HNw3 : Hid (w3.ownsRow B0 9 1 (.slice no M nc) M (nms.map Sv)) := own_keep HN2.out hD0
        obtain ⟨L', hL'⟩ : ∃ L', L' = doL R on hb' L := ⟨_, rfl⟩
        rw [← hL'] at HA3
        have HL' : Hid (L' = doL R on hb' L) := hL'
        clear hA3 hk3 hD0 hL' x4 HA2 BX2 HN2 HDO
        obtain ⟨xe, hxe⟩ : ∃ b, b = w3.heap.size := ⟨_, rfl⟩
        obtain ⟨V3, hV3⟩ : ∃ V, V = w3.alloc (.cells #[.int .i64 0, .int .i64 0, .int .i64 0, .int .i64 ok, .string ⟨on.toArray⟩, .int .i64 oa, .int .i64 ob_, .int .i64 R.1.2, .int .i64 R.1.1] 51) := ⟨_, rfl⟩
        have hbV3 : Below w3.heap.size w3 V3 := by rw [hV3]; exact (Below.refl _ _).alloc (Nat.le_refl _) _
        have BEV3 : Hid (Blk V3 xe #[.int .i64 0, .int .i64 0, .int .i64 0, .int .i64 ok, .string ⟨on.toArray⟩, .int .i64 oa, .int .i64 ob_, .int .i64 R.1.2, .int .i64 R.1.1] 51) := show Blk V3 xe #[.int .i64 0, .int .i64 0, .int .i64 0, .int .i64 ok, .string ⟨on.toArray⟩, .int .i64 oa, .int .i64 ob_, .int .i64 R.1.2, .int .i64 R.1.1] 51 from by rw [hV3, hxe]; exact heap_alloc_new w3 _
        have HAV3 : Hid (TwoM w ab mb L' ab2 mb2 L2 V3) := HA3.out.more hbV3
        have BXV3 : Hid (Blk V3 xb #[.int .i64 ok, .string ⟨on.toArray⟩, .int .i64 oa, .int .i64 ob_] 31) := BXw3.out.below hbV3 BXw3.out.lt
        have HNV3 : Hid (V3.ownsRow B0 9 1 (.slice no M nc) M (nms.map Sv)) := ownsRow_same HNw3.out (fun g hg => hbV3.block g (ownsRow_lt HNw3.out hg).2)
        have k0 : w3.cell? ⟨xb, 0, none⟩ = some (.int .i64 ok) := BXw3.out.cell 0
        have k1 : w3.cell? ⟨xb, 1, none⟩ = some (.string ⟨on.toArray⟩) := BXw3.out.cell 1
        have k2 : w3.cell? ⟨xb, 2, none⟩ = some (.int .i64 oa) := BXw3.out.cell 2
        have k3 : w3.cell? ⟨xb, 3, none⟩ = some (.int .i64 ob_) := BXw3.out.cell 3
        go_upto_region 16 with fail
        rw [← hV3, ← hxe]
        clear hV3 hxe hbV3 HA3 BXw3 HNw3 k0 k1 k2 k3
        have HLO1 : Hid _ := looked_any (.slice no M nc) nms V3 HAV3.out.b (by rw [← HM.out]; exact HNV3.out) (by rw [← HM.out]; exact hn3)
        rw [← HM.out] at HLO1
        go_wp2_with fail
        refine Calls.mono HLO1.out ?_
        rintro e9 w4 ⟨v1, rfl, hv1, hb4⟩
        obtain ⟨ao1, cap1, hv, _⟩ := own_slice hv1
        subst hv
        have HWw4 : Hid (w4.ownsRow V3.heap.size 45 4 (.slice ao1 M cap1) M (flatL (nms.map (lkOf L2)))) := hv1
        have HAw4 : Hid (TwoM w ab mb L' ab2 mb2 L2 w4) := HAV3.out.more hb4
        have BXw4 : Hid (Blk w4 xb #[.int .i64 ok, .string ⟨on.toArray⟩, .int .i64 oa, .int .i64 ob_] 31) := BXV3.out.below hb4 BXV3.out.lt
        have HNw4 : Hid (w4.ownsRow B0 9 1 (.slice no M nc) M (nms.map Sv)) := ownsRow_same HNV3.out (fun g hg => hb4.block g (ownsRow_lt HNV3.out hg).2)
        have BEw4 : Hid (Blk w4 xe #[.int .i64 0, .int .i64 0, .int .i64 0, .int .i64 ok, .string ⟨on.toArray⟩, .int .i64 oa, .int .i64 ob_, .int .i64 R.1.2, .int .i64 R.1.1] 51) := BEV3.out.below hb4 BEV3.out.lt
        clear hv1 hb4 HAV3 BXV3 HNV3 BEV3 HLO1
        obtain ⟨ye, hye⟩ : ∃ b, b = w4.heap.size := ⟨_, rfl⟩
        obtain ⟨V5, hV5⟩ : ∃ V, V = w4.alloc (.cells #[.int .i64 0, .int .i64 0, .int .i64 0, .int .i64 ok, .string ⟨on.toArray⟩, .int .i64 oa, .int .i64 ob_, .int .i64 R.1.2, .int .i64 R.1.1] 51) := ⟨_, rfl⟩
        have hbV5 : Below w4.heap.size w4 V5 := by rw [hV5]; exact (Below.refl _ _).alloc (Nat.le_refl _) _
        have BYV5 : Hid (Blk V5 ye #[.int .i64 0, .int .i64 0, .int .i64 0, .int .i64 ok, .string ⟨on.toArray⟩, .int .i64 oa, .int .i64 ob_, .int .i64 R.1.2, .int .i64 R.1.1] 51) := show Blk V5 ye #[.int .i64 0, .int .i64 0, .int .i64 0, .int .i64 ok, .string ⟨on.toArray⟩, .int .i64 oa, .int .i64 ob_, .int .i64 R.1.2, .int .i64 R.1.1] 51 from by rw [hV5, hye]; exact heap_alloc_new w4 _
        have HAV5 : Hid (TwoM w ab mb L' ab2 mb2 L2 V5) := HAw4.out.more hbV5
        have HLye : Hid (w4.heap.size ≤ ye) := show w4.heap.size ≤ ye from by omega
        have BXV5 : Hid (Blk V5 xb #[.int .i64 ok, .string ⟨on.toArray⟩, .int .i64 oa, .int .i64 ob_] 31) := BXw4.out.below hbV5 BXw4.out.lt
        have HNV5 : Hid (V5.ownsRow B0 9 1 (.slice no M nc) M (nms.map Sv)) := ownsRow_same HNw4.out (fun g hg => hbV5.block g (ownsRow_lt HNw4.out hg).2)
        have BEV5 : Hid (Blk V5 xe #[.int .i64 0, .int .i64 0, .int .i64 0, .int .i64 ok, .string ⟨on.toArray⟩, .int .i64 oa, .int .i64 ob_, .int .i64 R.1.2, .int .i64 R.1.1] 51) := BEw4.out.below hbV5 BEw4.out.lt
        have HWV5 : Hid (V5.ownsRow V3.heap.size 45 4 (.slice ao1 M cap1) M (flatL (nms.map (lkOf L2)))) := ownsRow_same HWw4.out (fun g hg => hbV5.block g (ownsRow_lt HWw4.out hg).2)
        have m0 : w4.cell? ⟨xe, 0, none⟩ = some (.int .i64 0) := BEw4.out.cell 0
        have m1 : w4.cell? ⟨xe, 1, none⟩ = some (.int .i64 0) := BEw4.out.cell 1
        have m2 : w4.cell? ⟨xe, 2, none⟩ = some (.int .i64 0) := BEw4.out.cell 2
        have m3 : w4.cell? ⟨xe, 3, none⟩ = some (.int .i64 ok) := BEw4.out.cell 3
        have m4 : w4.cell? ⟨xe, 4, none⟩ = some (.string ⟨on.toArray⟩) := BEw4.out.cell 4
        have m5 : w4.cell? ⟨xe, 5, none⟩ = some (.int .i64 oa) := BEw4.out.cell 5
        have m6 : w4.cell? ⟨xe, 6, none⟩ = some (.int .i64 ob_) := BEw4.out.cell 6
        have m7 : w4.cell? ⟨xe, 7, none⟩ = some (.int .i64 R.1.2) := BEw4.out.cell 7
        have m8 : w4.cell? ⟨xe, 8, none⟩ = some (.int .i64 R.1.1) := BEw4.out.cell 8
        go_upto_region 18 with fail
        rw [← hV5, ← hye]
        clear hV5 hye m0 m1 m2 m3 m4 m5 m6 m7 m8
        obtain ⟨V6, hV6⟩ : ∃ V, V = V5.setCell ⟨ye, 8, none⟩ (.int .i64 yv) := ⟨_, rfl⟩
        have hcV6 : Chg (fun k => k = ye) V5 V6 := by rw [hV6]; exact setCell_chg _ _ _ _
        have hbV6 : Below w4.heap.size w4 V6 := hbV5.trans (hcV6.below hbV5.size (fun k e => by rw [e]; exact HLye.out))
        have BYV6 : Hid (Blk V6 ye #[.int .i64 0, .int .i64 0, .int .i64 0, .int .i64 ok, .string ⟨on.toArray⟩, .int .i64 oa, .int .i64 ob_, .int .i64 R.1.2, .int .i64 yv] 51) := show Blk V6 ye #[.int .i64 0, .int .i64 0, .int .i64 0, .int .i64 ok, .string ⟨on.toArray⟩, .int .i64 oa, .int .i64 ob_, .int .i64 R.1.2, .int .i64 yv] 51 from by rw [hV6]; exact BYV5.out.set 8 _
        have HAV6 : Hid (TwoM w ab mb L' ab2 mb2 L2 V6) := HAw4.out.more hbV6
        have BXV6 : Hid (Blk V6 xb #[.int .i64 ok, .string ⟨on.toArray⟩, .int .i64 oa, .int .i64 ob_] 31) := BXw4.out.below hbV6 BXw4.out.lt
        have HNV6 : Hid (V6.ownsRow B0 9 1 (.slice no M nc) M (nms.map Sv)) := ownsRow_same HNw4.out (fun g hg => hbV6.block g (ownsRow_lt HNw4.out hg).2)
        have BEV6 : Hid (Blk V6 xe #[.int .i64 0, .int .i64 0, .int .i64 0, .int .i64 ok, .string ⟨on.toArray⟩, .int .i64 oa, .int .i64 ob_, .int .i64 R.1.2, .int .i64 R.1.1] 51) := BEw4.out.below hbV6 BEw4.out.lt
        have HWV6 : Hid (V6.ownsRow V3.heap.size 45 4 (.slice ao1 M cap1) M (flatL (nms.map (lkOf L2)))) := ownsRow_same HWw4.out (fun g hg => hbV6.block g (ownsRow_lt HWw4.out hg).2)
        have s8 : V5.cell? ⟨ye, 8, none⟩ = some (.int .i64 R.1.1) := BYV5.out.cell 8
        have sf8 : V5.frozen? ⟨ye, 8, none⟩ = false := BYV5.out.frozen 8
        go_upto_region 19 with fail
        rw [← hV6]
        clear hV6 hcV6 hbV6 s8 sf8 HAV5 BYV5 BXV5 HNV5 BEV5 HWV5 HAw4 BXw4 HNw4 BEw4 HWw4 hbV5 HLye
        obtain ⟨zz, hzz⟩ : ∃ b, b = V6.heap.size := ⟨_, rfl⟩
        obtain ⟨V7, hV7⟩ : ∃ V, V = V6.alloc (.cells #[.int .i64 0, .int .i64 0, .int .i64 0, .int .i64 ok, .string ⟨on.toArray⟩, .int .i64 oa, .int .i64 ob_, .int .i64 R.1.2, .int .i64 R.1.1] 51) := ⟨_, rfl⟩
        have hbV7 : Below V6.heap.size V6 V7 := by rw [hV7]; exact (Below.refl _ _).alloc (Nat.le_refl _) _
        have BZV7 : Hid (Blk V7 zz #[.int .i64 0, .int .i64 0, .int .i64 0, .int .i64 ok, .string ⟨on.toArray⟩, .int .i64 oa, .int .i64 ob_, .int .i64 R.1.2, .int .i64 R.1.1] 51) := show Blk V7 zz #[.int .i64 0, .int .i64 0, .int .i64 0, .int .i64 ok, .string ⟨on.toArray⟩, .int .i64 oa, .int .i64 ob_, .int .i64 R.1.2, .int .i64 R.1.1] 51 from by rw [hV7, hzz]; exact heap_alloc_new V6 _
        have HAV7 : Hid (TwoM w ab mb L' ab2 mb2 L2 V7) := HAV6.out.more hbV7
        have HLzz : Hid (V6.heap.size ≤ zz) := show V6.heap.size ≤ zz from by omega
        have BXV7 : Hid (Blk V7 xb #[.int .i64 ok, .string ⟨on.toArray⟩, .int .i64 oa, .int .i64 ob_] 31) := BXV6.out.below hbV7 BXV6.out.lt
        have HNV7 : Hid (V7.ownsRow B0 9 1 (.slice no M nc) M (nms.map Sv)) := ownsRow_same HNV6.out (fun g hg => hbV7.block g (ownsRow_lt HNV6.out hg).2)
        have BEV7 : Hid (Blk V7 xe #[.int .i64 0, .int .i64 0, .int .i64 0, .int .i64 ok, .string ⟨on.toArray⟩, .int .i64 oa, .int .i64 ob_, .int .i64 R.1.2, .int .i64 R.1.1] 51) := BEV6.out.below hbV7 BEV6.out.lt
        have HWV7 : Hid (V7.ownsRow V3.heap.size 45 4 (.slice ao1 M cap1) M (flatL (nms.map (lkOf L2)))) := ownsRow_same HWV6.out (fun g hg => hbV7.block g (ownsRow_lt HWV6.out hg).2)
        have BYV7 : Hid (Blk V7 ye #[.int .i64 0, .int .i64 0, .int .i64 0, .int .i64 ok, .string ⟨on.toArray⟩, .int .i64 oa, .int .i64 ob_, .int .i64 R.1.2, .int .i64 yv] 51) := BYV6.out.below hbV7 BYV6.out.lt
        have m0 : V6.cell? ⟨xe, 0, none⟩ = some (.int .i64 0) := BEV6.out.cell 0
        have m1 : V6.cell? ⟨xe, 1, none⟩ = some (.int .i64 0) := BEV6.out.cell 1
        have m2 : V6.cell? ⟨xe, 2, none⟩ = some (.int .i64 0) := BEV6.out.cell 2
        have m3 : V6.cell? ⟨xe, 3, none⟩ = some (.int .i64 ok) := BEV6.out.cell 3
        have m4 : V6.cell? ⟨xe, 4, none⟩ = some (.string ⟨on.toArray⟩) := BEV6.out.cell 4
        have m5 : V6.cell? ⟨xe, 5, none⟩ = some (.int .i64 oa) := BEV6.out.cell 5
        have m6 : V6.cell? ⟨xe, 6, none⟩ = some (.int .i64 ob_) := BEV6.out.cell 6
        have m7 : V6.cell? ⟨xe, 7, none⟩ = some (.int .i64 R.1.2) := BEV6.out.cell 7
        have m8 : V6.cell? ⟨xe, 8, none⟩ = some (.int .i64 R.1.1) := BEV6.out.cell 8
        go_upto_region 20 with fail
        rw [← hV7, ← hzz]
        clear hV7 hzz m0 m1 m2 m3 m4 m5 m6 m7 m8
        obtain ⟨V8, hV8⟩ : ∃ V, V = V7.setCell ⟨zz, 7, none⟩ (.int .i64 ze) := ⟨_, rfl⟩
        have hcV8 : Chg (fun k => k = zz) V7 V8 := by rw [hV8]; exact setCell_chg _ _ _ _
        have hbV8 : Below V6.heap.size V6 V8 := hbV7.trans (hcV8.below hbV7.size (fun k e => by rw [e]; exact HLzz.out))
        have BZV8 : Hid (Blk V8 zz #[.int .i64 0, .int .i64 0, .int .i64 0, .int .i64 ok, .string ⟨on.toArray⟩, .int .i64 oa, .int .i64 ob_, .int .i64 ze, .int .i64 R.1.1] 51) := show Blk V8 zz #[.int .i64 0, .int .i64 0, .int .i64 0, .int .i64 ok, .string ⟨on.toArray⟩, .int .i64 oa, .int .i64 ob_, .int .i64 ze, .int .i64 R.1.1] 51 from by rw [hV8]; exact BZV7.out.set 7 _
        have HAV8 : Hid (TwoM w ab mb L' ab2 mb2 L2 V8) := HAV6.out.more hbV8
        have BXV8 : Hid (Blk V8 xb #[.int .i64 ok, .string ⟨on.toArray⟩, .int .i64 oa, .int .i64 ob_] 31) := BXV6.out.below hbV8 BXV6.out.lt
        have HNV8 : Hid (V8.ownsRow B0 9 1 (.slice no M nc) M (nms.map Sv)) := ownsRow_same HNV6.out (fun g hg => hbV8.block g (ownsRow_lt HNV6.out hg).2)
        have BEV8 : Hid (Blk V8 xe #[.int .i64 0, .int .i64 0, .int .i64 0, .int .i64 ok, .string ⟨on.toArray⟩, .int .i64 oa, .int .i64 ob_, .int .i64 R.1.2, .int .i64 R.1.1] 51) := BEV6.out.below hbV8 BEV6.out.lt
        have HWV8 : Hid (V8.ownsRow V3.heap.size 45 4 (.slice ao1 M cap1) M (flatL (nms.map (lkOf L2)))) := ownsRow_same HWV6.out (fun g hg => hbV8.block g (ownsRow_lt HWV6.out hg).2)
        have BYV8 : Hid (Blk V8 ye #[.int .i64 0, .int .i64 0, .int .i64 0, .int .i64 ok, .string ⟨on.toArray⟩, .int .i64 oa, .int .i64 ob_, .int .i64 R.1.2, .int .i64 yv] 51) := BYV6.out.below hbV8 BYV6.out.lt
        have s7 : V7.cell? ⟨zz, 7, none⟩ = some (.int .i64 R.1.2) := BZV7.out.cell 7
        have sf7 : V7.frozen? ⟨zz, 7, none⟩ = false := BZV7.out.frozen 7
        go_upto_region 21 with fail
        rw [← hV8]
        clear hV8 hcV8 hbV8 s7 sf7 HAV7 BZV7 BXV7 HNV7 BEV7 HWV7 BYV7 HAV6 BXV6 HNV6 BEV6 HWV6 BYV6 hbV7 HLzz
        by_cases hk4 : ok = 4
        · have hk2 : (ok == 4) = true := by simpa using hk4
          subst hk4
          have o0 : V8.cell? ⟨xb, 0, none⟩ = some (.int .i64 4) := BXV8.out.cell 0
          have t0 : V8.cell? ⟨zz, 0, none⟩ = some (.int .i64 0) := BZV8.out.cell 0
          have t1 : V8.cell? ⟨zz, 1, none⟩ = some (.int .i64 0) := BZV8.out.cell 1
          have t2 : V8.cell? ⟨zz, 2, none⟩ = some (.int .i64 0) := BZV8.out.cell 2
          have t3 : V8.cell? ⟨zz, 3, none⟩ = some (.int .i64 4) := BZV8.out.cell 3
          have t4 : V8.cell? ⟨zz, 4, none⟩ = some (.string ⟨on.toArray⟩) := BZV8.out.cell 4
          have t5 : V8.cell? ⟨zz, 5, none⟩ = some (.int .i64 oa) := BZV8.out.cell 5
          have t6 : V8.cell? ⟨zz, 6, none⟩ = some (.int .i64 ob_) := BZV8.out.cell 6
          have t7 : V8.cell? ⟨zz, 7, none⟩ = some (.int .i64 ze) := BZV8.out.cell 7
          have t8 : V8.cell? ⟨zz, 8, none⟩ = some (.int .i64 R.1.1) := BZV8.out.cell 8
          have HCA : Hid _ := HAV8.out.al_no 0 0 0 4 oa ob_ ze R.1.1 on HNL.out HBZ.out
          go_wp2_with fail
          refine Calls.mono HCA.out ?_
          rintro e9 w9 ⟨rfl, hA, hk⟩
          have HAw9 : Hid (TwoM w ab mb L' ab2 mb2 L2 w9) := hA
          have BXw9 : Hid (Blk w9 xb #[.int .i64 4, .string ⟨on.toArray⟩, .int .i64 oa, .int .i64 ob_] 31) := hk _ _ _ BXV8.out
          have HNw9 : Hid (w9.ownsRow B0 9 1 (.slice no M nc) M (nms.map Sv)) := own_keep HNV8.out hk
          have BEw9 : Hid (Blk w9 xe #[.int .i64 0, .int .i64 0, .int .i64 0, .int .i64 4, .string ⟨on.toArray⟩, .int .i64 oa, .int .i64 ob_, .int .i64 R.1.2, .int .i64 R.1.1] 51) := hk _ _ _ BEV8.out
          have HWw9 : Hid (w9.ownsRow V3.heap.size 45 4 (.slice ao1 M cap1) M (flatL (nms.map (lkOf L2)))) := own_keep HWV8.out hk
          have BYw9 : Hid (Blk w9 ye #[.int .i64 0, .int .i64 0, .int .i64 0, .int .i64 4, .string ⟨on.toArray⟩, .int .i64 oa, .int .i64 ob_, .int .i64 R.1.2, .int .i64 yv] 51) := hk _ _ _ BYV8.out
          have BZw9 : Hid (Blk w9 zz #[.int .i64 0, .int .i64 0, .int .i64 0, .int .i64 4, .string ⟨on.toArray⟩, .int .i64 oa, .int .i64 ob_, .int .i64 ze, .int .i64 R.1.1] 51) := hk _ _ _ BZV8.out
          clear hA hk HCA HAV8 BXV8 HNV8 BEV8 HWV8 BYV8 BZV8 t0 t1 t2 t3 t4 t5 t6 t7 t8
          have HLO2 : Hid _ := looked_any (.slice no M nc) nms w9 HAw9.out.b (by rw [← HM.out]; exact HNw9.out) (by rw [← HM.out]; exact hn3)
          rw [← HM.out] at HLO2
          go_wp2_with fail
          refine Calls.mono HLO2.out ?_
          rintro e9 w10 ⟨v2, rfl, hv2, hb10⟩
          obtain ⟨ao2, cap2, hv, _⟩ := own_slice hv2
          subst hv
          have HAw10 : Hid (TwoM w ab mb L' ab2 mb2 L2 w10) := HAw9.out.more hb10
          have BXw10 : Hid (Blk w10 xb #[.int .i64 4, .string ⟨on.toArray⟩, .int .i64 oa, .int .i64 ob_] 31) := BXw9.out.below hb10 BXw9.out.lt
          have HNw10 : Hid (w10.ownsRow B0 9 1 (.slice no M nc) M (nms.map Sv)) := ownsRow_same HNw9.out (fun g hg => hb10.block g (ownsRow_lt HNw9.out hg).2)
          have BEw10 : Hid (Blk w10 xe #[.int .i64 0, .int .i64 0, .int .i64 0, .int .i64 4, .string ⟨on.toArray⟩, .int .i64 oa, .int .i64 ob_, .int .i64 R.1.2, .int .i64 R.1.1] 51) := BEw9.out.below hb10 BEw9.out.lt
          have HWw10 : Hid (w10.ownsRow V3.heap.size 45 4 (.slice ao1 M cap1) M (flatL (nms.map (lkOf L2)))) := ownsRow_same HWw9.out (fun g hg => hb10.block g (ownsRow_lt HWw9.out hg).2)
          have BYw10 : Hid (Blk w10 ye #[.int .i64 0, .int .i64 0, .int .i64 0, .int .i64 4, .string ⟨on.toArray⟩, .int .i64 oa, .int .i64 ob_, .int .i64 R.1.2, .int .i64 yv] 51) := BYw9.out.below hb10 BYw9.out.lt
          have BZw10 : Hid (Blk w10 zz #[.int .i64 0, .int .i64 0, .int .i64 0, .int .i64 4, .string ⟨on.toArray⟩, .int .i64 oa, .int .i64 ob_, .int .i64 ze, .int .i64 R.1.1] 51) := BZw9.out.below hb10 BZw9.out.lt
          have HSM : Hid _ := same_yes (.slice ao2 M cap2) (.slice ao1 M cap1) (nms.map (lkOf L2)) w10 (by rw [List.length_map, ← HM.out]; exact hv2) (by rw [List.length_map, ← HM.out]; exact HWw10.out) (by rw [List.length_map, ← HM.out]; exact hn3)
          clear hv2 hb10 HLO2 HAw9 BXw9 HNw9 BEw9 HWw9 BYw9 BZw9
          go_wp2_with fail
          refine Calls.mono HSM.out ?_
          rintro e9 w11 ⟨rfl, hb11⟩
          have HAw11 : Hid (TwoM w ab mb L' ab2 mb2 L2 w11) := HAw10.out.more hb11
          have BXw11 : Hid (Blk w11 xb #[.int .i64 4, .string ⟨on.toArray⟩, .int .i64 oa, .int .i64 ob_] 31) := BXw10.out.below hb11 BXw10.out.lt
          have HNw11 : Hid (w11.ownsRow B0 9 1 (.slice no M nc) M (nms.map Sv)) := ownsRow_same HNw10.out (fun g hg => hb11.block g (ownsRow_lt HNw10.out hg).2)
          have BEw11 : Hid (Blk w11 xe #[.int .i64 0, .int .i64 0, .int .i64 0, .int .i64 4, .string ⟨on.toArray⟩, .int .i64 oa, .int .i64 ob_, .int .i64 R.1.2, .int .i64 R.1.1] 51) := BEw10.out.below hb11 BEw10.out.lt
          have HWw11 : Hid (w11.ownsRow V3.heap.size 45 4 (.slice ao1 M cap1) M (flatL (nms.map (lkOf L2)))) := ownsRow_same HWw10.out (fun g hg => hb11.block g (ownsRow_lt HWw10.out hg).2)
          have BYw11 : Hid (Blk w11 ye #[.int .i64 0, .int .i64 0, .int .i64 0, .int .i64 4, .string ⟨on.toArray⟩, .int .i64 oa, .int .i64 ob_, .int .i64 R.1.2, .int .i64 yv] 51) := BYw10.out.below hb11 BYw10.out.lt
          have BZw11 : Hid (Blk w11 zz #[.int .i64 0, .int .i64 0, .int .i64 0, .int .i64 4, .string ⟨on.toArray⟩, .int .i64 oa, .int .i64 ob_, .int .i64 ze, .int .i64 R.1.1] 51) := BZw10.out.below hb11 BZw10.out.lt
          clear hb11 HSM HAw10 BXw10 HNw10 BEw10 HWw10 BYw10 BZw10
          have t0 : w11.cell? ⟨xe, 0, none⟩ = some (.int .i64 0) := BEw11.out.cell 0
          have t1 : w11.cell? ⟨xe, 1, none⟩ = some (.int .i64 0) := BEw11.out.cell 1
          have t2 : w11.cell? ⟨xe, 2, none⟩ = some (.int .i64 0) := BEw11.out.cell 2
          have t3 : w11.cell? ⟨xe, 3, none⟩ = some (.int .i64 4) := BEw11.out.cell 3
          have t4 : w11.cell? ⟨xe, 4, none⟩ = some (.string ⟨on.toArray⟩) := BEw11.out.cell 4
          have t5 : w11.cell? ⟨xe, 5, none⟩ = some (.int .i64 oa) := BEw11.out.cell 5
          have t6 : w11.cell? ⟨xe, 6, none⟩ = some (.int .i64 ob_) := BEw11.out.cell 6
          have t7 : w11.cell? ⟨xe, 7, none⟩ = some (.int .i64 R.1.2) := BEw11.out.cell 7
          have t8 : w11.cell? ⟨xe, 8, none⟩ = some (.int .i64 R.1.1) := BEw11.out.cell 8
          have HCA : Hid _ := HAw11.out.al 0 0 0 4 oa ob_ R.1.2 R.1.1 on HNL.out
          go_wp2_with fail
          refine Calls.mono HCA.out ?_
          rintro e9 w12 ⟨hb2, rfl, hA, hk⟩
          rw [HMZ.out, alB_own]
          rw [HMZ.out] at hA
          obtain ⟨L3, hL3⟩ : ∃ L3, L3 = alL R R.1.2 R.1.1 on hb2 L2 := ⟨_, rfl⟩
          rw [← hL3] at hA
          have HE3 : Hid (Eqv L' L3) := show Eqv L' L3 from by rw [HL'.out, hL3]; exact alL_eqv HEQ.out R on hb' hb2
          clear hL3
          have HAw12 : Hid (TwoM w ab mb L' ab2 mb2 L3 w12) := hA
          have BXw12 : Hid (Blk w12 xb #[.int .i64 4, .string ⟨on.toArray⟩, .int .i64 oa, .int .i64 ob_] 31) := hk _ _ _ BXw11.out
          have HNw12 : Hid (w12.ownsRow B0 9 1 (.slice no M nc) M (nms.map Sv)) := own_keep HNw11.out hk
          have BEw12 : Hid (Blk w12 xe #[.int .i64 0, .int .i64 0, .int .i64 0, .int .i64 4, .string ⟨on.toArray⟩, .int .i64 oa, .int .i64 ob_, .int .i64 R.1.2, .int .i64 R.1.1] 51) := hk _ _ _ BEw11.out
          have HWw12 : Hid (w12.ownsRow V3.heap.size 45 4 (.slice ao1 M cap1) M (flatL (nms.map (lkOf L2)))) := own_keep HWw11.out hk
          have BYw12 : Hid (Blk w12 ye #[.int .i64 0, .int .i64 0, .int .i64 0, .int .i64 4, .string ⟨on.toArray⟩, .int .i64 oa, .int .i64 ob_, .int .i64 R.1.2, .int .i64 yv] 51) := hk _ _ _ BYw11.out
          have BZw12 : Hid (Blk w12 zz #[.int .i64 0, .int .i64 0, .int .i64 0, .int .i64 4, .string ⟨on.toArray⟩, .int .i64 oa, .int .i64 ob_, .int .i64 ze, .int .i64 R.1.1] 51) := hk _ _ _ BZw11.out
          clear hA hk HCA HAw11 BXw11 HNw11 BEw11 HWw11 BYw11 BZw11 t0 t1 t2 t3 t4 t5 t6 t7 t8
          have HLK : Hid (nms.map (lkOf L3) = nms.map (lkOf L')) := show _ = _ from List.map_congr_left (fun n _ => (HE3.out.lk n).symm)
          have HLO3 : Hid _ := looked_any (.slice no M nc) nms w12 HAw12.out.b (by rw [← HM.out]; exact HNw12.out) (by rw [← HM.out]; exact hn3)
          rw [← HM.out] at HLO3
          rw [HLK.out] at HLO3
          by_cases h1 : R.1.2 = 1
          · have q1 : (R.1.2 == 1) = true := by simpa using h1
            have q2 : R.1.2 = 1 := h1
            rw [q1]
            simp only [Bool.not_true, Bool.not_false]
            clear h1
            go_wp2_with fail
            refine Calls.mono HLO3.out ?_
            rintro e9 w13 ⟨v3, rfl, hv3, hb13⟩
            obtain ⟨ao3, cap3, hv, _⟩ := own_slice hv3
            subst hv
            have HA13 : Hid (TwoM w ab mb L' ab2 mb2 L3 w13) := HAw12.out.more hb13
            have HN13 : Hid (w13.ownsRow B0 9 1 (.slice no M nc) M (nms.map Sv)) := ownsRow_same HNw12.out (fun g hg => hb13.block g (ownsRow_lt HNw12.out hg).2)
            have HLO4 : Hid _ := looked_any (.slice no M nc) nms w13 HA13.out.a.am (by rw [← HM.out]; exact HN13.out) (by rw [← HM.out]; exact hn3)
            rw [← HM.out] at HLO4
            have HV3 : Hid (w13.ownsRow w12.heap.size 45 4 (.slice ao3 M cap3) M (flatL (nms.map (lkOf L')))) := hv3
            clear hv3 hb13 HLO3
            go_wp2_with fail
            refine Calls.mono HLO4.out ?_
            rintro e9 w14 ⟨v4, rfl, hv4, hb14⟩
            obtain ⟨ao4, cap4, hv, _⟩ := own_slice hv4
            subst hv
            have HA14 : Hid (TwoM w ab mb L' ab2 mb2 L3 w14) := HA13.out.more hb14
            have HN14 : Hid (w14.ownsRow B0 9 1 (.slice no M nc) M (nms.map Sv)) := ownsRow_same HN13.out (fun g hg => hb14.block g (ownsRow_lt HN13.out hg).2)
            have HSM2 : Hid _ := same_yes (.slice ao3 M cap3) (.slice ao4 M cap4) (nms.map (lkOf L')) w14 (by rw [List.length_map, ← HM.out]; exact ownsRow_same HV3.out (fun g hg => hb14.block g (ownsRow_lt HV3.out hg).2)) (by rw [List.length_map, ← HM.out]; exact hv4) (by rw [List.length_map, ← HM.out]; exact hn3)
            clear hv4 hb14 HLO4
            go_wp2_with fail
            refine Calls.mono HSM2.out ?_
            rintro e9 w15 ⟨rfl, hb15⟩
            have HFA : Hid (AX w ab mb L' w15) := (HA14.out.more hb15).a
            have HFN : Hid (w15.ownsRow B0 9 1 (.slice no M nc) M (nms.map Sv)) := ownsRow_same HN14.out (fun g hg => hb15.block g (ownsRow_lt HN14.out hg).2)
            clear hb15 HSM2 HA13 HA14 HN13 HN14 HV3
            go_wp2_with fail
            go_roundw
            case rel => exact ⟨j + 1, L', by omega, by omega, by go_num, HFA.out, HFN.out⟩
            case measure => simp [intOf]; omega
          · have q1 : (R.1.2 == 1) = false := by simpa using h1
            have q2 : ¬ R.1.2 = 1 := h1
            have q3 : (R.1.2 != 1) = true := by simpa using h1
            rw [q1]
            simp only [Bool.not_true, Bool.not_false]
            clear h1
            go_wp2_with fail
            refine Calls.mono HLO3.out ?_
            rintro e9 w13 ⟨v3, rfl, hv3, hb13⟩
            obtain ⟨ao3, cap3, hv, _⟩ := own_slice hv3
            subst hv
            have HA13 : Hid (TwoM w ab mb L' ab2 mb2 L3 w13) := HAw12.out.more hb13
            have HN13 : Hid (w13.ownsRow B0 9 1 (.slice no M nc) M (nms.map Sv)) := ownsRow_same HNw12.out (fun g hg => hb13.block g (ownsRow_lt HNw12.out hg).2)
            have HLO4 : Hid _ := looked_any (.slice no M nc) nms w13 HA13.out.a.am (by rw [← HM.out]; exact HN13.out) (by rw [← HM.out]; exact hn3)
            rw [← HM.out] at HLO4
            have HV3 : Hid (w13.ownsRow w12.heap.size 45 4 (.slice ao3 M cap3) M (flatL (nms.map (lkOf L')))) := hv3
            clear hv3 hb13 HLO3
            go_wp2_with fail
            refine Calls.mono HLO4.out ?_
            rintro e9 w14 ⟨v4, rfl, hv4, hb14⟩
            obtain ⟨ao4, cap4, hv, _⟩ := own_slice hv4
            subst hv
            have HA14 : Hid (TwoM w ab mb L' ab2 mb2 L3 w14) := HA13.out.more hb14
            have HN14 : Hid (w14.ownsRow B0 9 1 (.slice no M nc) M (nms.map Sv)) := ownsRow_same HN13.out (fun g hg => hb14.block g (ownsRow_lt HN13.out hg).2)
            have HSM2 : Hid _ := same_yes (.slice ao3 M cap3) (.slice ao4 M cap4) (nms.map (lkOf L')) w14 (by rw [List.length_map, ← HM.out]; exact ownsRow_same HV3.out (fun g hg => hb14.block g (ownsRow_lt HV3.out hg).2)) (by rw [List.length_map, ← HM.out]; exact hv4) (by rw [List.length_map, ← HM.out]; exact hn3)
            clear hv4 hb14 HLO4
            go_wp2_with fail
            refine Calls.mono HSM2.out ?_
            rintro e9 w15 ⟨rfl, hb15⟩
            have HFA : Hid (AX w ab mb L' w15) := (HA14.out.more hb15).a
            have HFN : Hid (w15.ownsRow B0 9 1 (.slice no M nc) M (nms.map Sv)) := ownsRow_same HN14.out (fun g hg => hb15.block g (ownsRow_lt HN14.out hg).2)
            clear hb15 HSM2 HA13 HA14 HN13 HN14 HV3
            go_wp2_with fail
            go_roundw
            case rel => exact ⟨j + 1, L', by omega, by omega, by go_num, HFA.out, HFN.out⟩
            case measure => simp [intOf]; omega
        · have hk2 : (ok == 4) = false := by simpa using hk4
          have HK4 : Hid (¬ ok = 4) := hk4
          have o0 : V8.cell? ⟨xb, 0, none⟩ = some (.int .i64 ok) := BXV8.out.cell 0
          have t0 : V8.cell? ⟨ye, 0, none⟩ = some (.int .i64 0) := BYV8.out.cell 0
          have t1 : V8.cell? ⟨ye, 1, none⟩ = some (.int .i64 0) := BYV8.out.cell 1
          have t2 : V8.cell? ⟨ye, 2, none⟩ = some (.int .i64 0) := BYV8.out.cell 2
          have t3 : V8.cell? ⟨ye, 3, none⟩ = some (.int .i64 ok) := BYV8.out.cell 3
          have t4 : V8.cell? ⟨ye, 4, none⟩ = some (.string ⟨on.toArray⟩) := BYV8.out.cell 4
          have t5 : V8.cell? ⟨ye, 5, none⟩ = some (.int .i64 oa) := BYV8.out.cell 5
          have t6 : V8.cell? ⟨ye, 6, none⟩ = some (.int .i64 ob_) := BYV8.out.cell 6
          have t7 : V8.cell? ⟨ye, 7, none⟩ = some (.int .i64 R.1.2) := BYV8.out.cell 7
          have t8 : V8.cell? ⟨ye, 8, none⟩ = some (.int .i64 yv) := BYV8.out.cell 8
          have HCA : Hid _ := HAV8.out.al_no 0 0 0 ok oa ob_ R.1.2 yv on HNL.out (by rw [HMY.out HK4.out]; exact alB_val HYV.out)
          go_wp2_with fail
          refine Calls.mono HCA.out ?_
          rintro e9 w8 ⟨rfl, hA, hk⟩
          have HAw8 : Hid (TwoM w ab mb L' ab2 mb2 L2 w8) := hA
          have BXw8 : Hid (Blk w8 xb #[.int .i64 ok, .string ⟨on.toArray⟩, .int .i64 oa, .int .i64 ob_] 31) := hk _ _ _ BXV8.out
          have HNw8 : Hid (w8.ownsRow B0 9 1 (.slice no M nc) M (nms.map Sv)) := own_keep HNV8.out hk
          have BEw8 : Hid (Blk w8 xe #[.int .i64 0, .int .i64 0, .int .i64 0, .int .i64 ok, .string ⟨on.toArray⟩, .int .i64 oa, .int .i64 ob_, .int .i64 R.1.2, .int .i64 R.1.1] 51) := hk _ _ _ BEV8.out
          have HWw8 : Hid (w8.ownsRow V3.heap.size 45 4 (.slice ao1 M cap1) M (flatL (nms.map (lkOf L2)))) := own_keep HWV8.out hk
          have BYw8 : Hid (Blk w8 ye #[.int .i64 0, .int .i64 0, .int .i64 0, .int .i64 ok, .string ⟨on.toArray⟩, .int .i64 oa, .int .i64 ob_, .int .i64 R.1.2, .int .i64 yv] 51) := hk _ _ _ BYV8.out
          have BZw8 : Hid (Blk w8 zz #[.int .i64 0, .int .i64 0, .int .i64 0, .int .i64 ok, .string ⟨on.toArray⟩, .int .i64 oa, .int .i64 ob_, .int .i64 ze, .int .i64 R.1.1] 51) := hk _ _ _ BZV8.out
          clear hA hk HCA HAV8 BXV8 HNV8 BEV8 HWV8 BYV8 BZV8 t0 t1 t2 t3 t4 t5 t6 t7 t8
          have t0 : w8.cell? ⟨zz, 0, none⟩ = some (.int .i64 0) := BZw8.out.cell 0
          have t1 : w8.cell? ⟨zz, 1, none⟩ = some (.int .i64 0) := BZw8.out.cell 1
          have t2 : w8.cell? ⟨zz, 2, none⟩ = some (.int .i64 0) := BZw8.out.cell 2
          have t3 : w8.cell? ⟨zz, 3, none⟩ = some (.int .i64 ok) := BZw8.out.cell 3
          have t4 : w8.cell? ⟨zz, 4, none⟩ = some (.string ⟨on.toArray⟩) := BZw8.out.cell 4
          have t5 : w8.cell? ⟨zz, 5, none⟩ = some (.int .i64 oa) := BZw8.out.cell 5
          have t6 : w8.cell? ⟨zz, 6, none⟩ = some (.int .i64 ob_) := BZw8.out.cell 6
          have t7 : w8.cell? ⟨zz, 7, none⟩ = some (.int .i64 ze) := BZw8.out.cell 7
          have t8 : w8.cell? ⟨zz, 8, none⟩ = some (.int .i64 R.1.1) := BZw8.out.cell 8
          have HCA : Hid _ := HAw8.out.al_no 0 0 0 ok oa ob_ ze R.1.1 on HNL.out HBZ.out
          go_wp2_with fail
          refine Calls.mono HCA.out ?_
          rintro e9 w9 ⟨rfl, hA, hk⟩
          have HAw9 : Hid (TwoM w ab mb L' ab2 mb2 L2 w9) := hA
          have BXw9 : Hid (Blk w9 xb #[.int .i64 ok, .string ⟨on.toArray⟩, .int .i64 oa, .int .i64 ob_] 31) := hk _ _ _ BXw8.out
          have HNw9 : Hid (w9.ownsRow B0 9 1 (.slice no M nc) M (nms.map Sv)) := own_keep HNw8.out hk
          have BEw9 : Hid (Blk w9 xe #[.int .i64 0, .int .i64 0, .int .i64 0, .int .i64 ok, .string ⟨on.toArray⟩, .int .i64 oa, .int .i64 ob_, .int .i64 R.1.2, .int .i64 R.1.1] 51) := hk _ _ _ BEw8.out
          have HWw9 : Hid (w9.ownsRow V3.heap.size 45 4 (.slice ao1 M cap1) M (flatL (nms.map (lkOf L2)))) := own_keep HWw8.out hk
          have BYw9 : Hid (Blk w9 ye #[.int .i64 0, .int .i64 0, .int .i64 0, .int .i64 ok, .string ⟨on.toArray⟩, .int .i64 oa, .int .i64 ob_, .int .i64 R.1.2, .int .i64 yv] 51) := hk _ _ _ BYw8.out
          have BZw9 : Hid (Blk w9 zz #[.int .i64 0, .int .i64 0, .int .i64 0, .int .i64 ok, .string ⟨on.toArray⟩, .int .i64 oa, .int .i64 ob_, .int .i64 ze, .int .i64 R.1.1] 51) := hk _ _ _ BZw8.out
          clear hA hk HCA HAw8 BXw8 HNw8 BEw8 HWw8 BYw8 BZw8 t0 t1 t2 t3 t4 t5 t6 t7 t8
          have HLO2 : Hid _ := looked_any (.slice no M nc) nms w9 HAw9.out.b (by rw [← HM.out]; exact HNw9.out) (by rw [← HM.out]; exact hn3)
          rw [← HM.out] at HLO2
          go_wp2_with fail
          refine Calls.mono HLO2.out ?_
          rintro e9 w10 ⟨v2, rfl, hv2, hb10⟩
          obtain ⟨ao2, cap2, hv, _⟩ := own_slice hv2
          subst hv
          have HAw10 : Hid (TwoM w ab mb L' ab2 mb2 L2 w10) := HAw9.out.more hb10
          have BXw10 : Hid (Blk w10 xb #[.int .i64 ok, .string ⟨on.toArray⟩, .int .i64 oa, .int .i64 ob_] 31) := BXw9.out.below hb10 BXw9.out.lt
          have HNw10 : Hid (w10.ownsRow B0 9 1 (.slice no M nc) M (nms.map Sv)) := ownsRow_same HNw9.out (fun g hg => hb10.block g (ownsRow_lt HNw9.out hg).2)
          have BEw10 : Hid (Blk w10 xe #[.int .i64 0, .int .i64 0, .int .i64 0, .int .i64 ok, .string ⟨on.toArray⟩, .int .i64 oa, .int .i64 ob_, .int .i64 R.1.2, .int .i64 R.1.1] 51) := BEw9.out.below hb10 BEw9.out.lt
          have HWw10 : Hid (w10.ownsRow V3.heap.size 45 4 (.slice ao1 M cap1) M (flatL (nms.map (lkOf L2)))) := ownsRow_same HWw9.out (fun g hg => hb10.block g (ownsRow_lt HWw9.out hg).2)
          have BYw10 : Hid (Blk w10 ye #[.int .i64 0, .int .i64 0, .int .i64 0, .int .i64 ok, .string ⟨on.toArray⟩, .int .i64 oa, .int .i64 ob_, .int .i64 R.1.2, .int .i64 yv] 51) := BYw9.out.below hb10 BYw9.out.lt
          have BZw10 : Hid (Blk w10 zz #[.int .i64 0, .int .i64 0, .int .i64 0, .int .i64 ok, .string ⟨on.toArray⟩, .int .i64 oa, .int .i64 ob_, .int .i64 ze, .int .i64 R.1.1] 51) := BZw9.out.below hb10 BZw9.out.lt
          have HSM : Hid _ := same_yes (.slice ao2 M cap2) (.slice ao1 M cap1) (nms.map (lkOf L2)) w10 (by rw [List.length_map, ← HM.out]; exact hv2) (by rw [List.length_map, ← HM.out]; exact HWw10.out) (by rw [List.length_map, ← HM.out]; exact hn3)
          clear hv2 hb10 HLO2 HAw9 BXw9 HNw9 BEw9 HWw9 BYw9 BZw9
          go_wp2_with fail
          refine Calls.mono HSM.out ?_
          rintro e9 w11 ⟨rfl, hb11⟩
          have HAw11 : Hid (TwoM w ab mb L' ab2 mb2 L2 w11) := HAw10.out.more hb11
          have BXw11 : Hid (Blk w11 xb #[.int .i64 ok, .string ⟨on.toArray⟩, .int .i64 oa, .int .i64 ob_] 31) := BXw10.out.below hb11 BXw10.out.lt
          have HNw11 : Hid (w11.ownsRow B0 9 1 (.slice no M nc) M (nms.map Sv)) := ownsRow_same HNw10.out (fun g hg => hb11.block g (ownsRow_lt HNw10.out hg).2)
          have BEw11 : Hid (Blk w11 xe #[.int .i64 0, .int .i64 0, .int .i64 0, .int .i64 ok, .string ⟨on.toArray⟩, .int .i64 oa, .int .i64 ob_, .int .i64 R.1.2, .int .i64 R.1.1] 51) := BEw10.out.below hb11 BEw10.out.lt
          have HWw11 : Hid (w11.ownsRow V3.heap.size 45 4 (.slice ao1 M cap1) M (flatL (nms.map (lkOf L2)))) := ownsRow_same HWw10.out (fun g hg => hb11.block g (ownsRow_lt HWw10.out hg).2)
          have BYw11 : Hid (Blk w11 ye #[.int .i64 0, .int .i64 0, .int .i64 0, .int .i64 ok, .string ⟨on.toArray⟩, .int .i64 oa, .int .i64 ob_, .int .i64 R.1.2, .int .i64 yv] 51) := BYw10.out.below hb11 BYw10.out.lt
          have BZw11 : Hid (Blk w11 zz #[.int .i64 0, .int .i64 0, .int .i64 0, .int .i64 ok, .string ⟨on.toArray⟩, .int .i64 oa, .int .i64 ob_, .int .i64 ze, .int .i64 R.1.1] 51) := BZw10.out.below hb11 BZw10.out.lt
          clear hb11 HSM HAw10 BXw10 HNw10 BEw10 HWw10 BYw10 BZw10
          have t0 : w11.cell? ⟨xe, 0, none⟩ = some (.int .i64 0) := BEw11.out.cell 0
          have t1 : w11.cell? ⟨xe, 1, none⟩ = some (.int .i64 0) := BEw11.out.cell 1
          have t2 : w11.cell? ⟨xe, 2, none⟩ = some (.int .i64 0) := BEw11.out.cell 2
          have t3 : w11.cell? ⟨xe, 3, none⟩ = some (.int .i64 ok) := BEw11.out.cell 3
          have t4 : w11.cell? ⟨xe, 4, none⟩ = some (.string ⟨on.toArray⟩) := BEw11.out.cell 4
          have t5 : w11.cell? ⟨xe, 5, none⟩ = some (.int .i64 oa) := BEw11.out.cell 5
          have t6 : w11.cell? ⟨xe, 6, none⟩ = some (.int .i64 ob_) := BEw11.out.cell 6
          have t7 : w11.cell? ⟨xe, 7, none⟩ = some (.int .i64 R.1.2) := BEw11.out.cell 7
          have t8 : w11.cell? ⟨xe, 8, none⟩ = some (.int .i64 R.1.1) := BEw11.out.cell 8
          have HCA : Hid _ := HAw11.out.al 0 0 0 ok oa ob_ R.1.2 R.1.1 on HNL.out
          go_wp2_with fail
          refine Calls.mono HCA.out ?_
          rintro e9 w12 ⟨hb2, rfl, hA, hk⟩
          rw [HMZ.out, alB_own]
          rw [HMZ.out] at hA
          obtain ⟨L3, hL3⟩ : ∃ L3, L3 = alL R R.1.2 R.1.1 on hb2 L2 := ⟨_, rfl⟩
          rw [← hL3] at hA
          have HE3 : Hid (Eqv L' L3) := show Eqv L' L3 from by rw [HL'.out, hL3]; exact alL_eqv HEQ.out R on hb' hb2
          clear hL3
          have HAw12 : Hid (TwoM w ab mb L' ab2 mb2 L3 w12) := hA
          have BXw12 : Hid (Blk w12 xb #[.int .i64 ok, .string ⟨on.toArray⟩, .int .i64 oa, .int .i64 ob_] 31) := hk _ _ _ BXw11.out
          have HNw12 : Hid (w12.ownsRow B0 9 1 (.slice no M nc) M (nms.map Sv)) := own_keep HNw11.out hk
          have BEw12 : Hid (Blk w12 xe #[.int .i64 0, .int .i64 0, .int .i64 0, .int .i64 ok, .string ⟨on.toArray⟩, .int .i64 oa, .int .i64 ob_, .int .i64 R.1.2, .int .i64 R.1.1] 51) := hk _ _ _ BEw11.out
          have HWw12 : Hid (w12.ownsRow V3.heap.size 45 4 (.slice ao1 M cap1) M (flatL (nms.map (lkOf L2)))) := own_keep HWw11.out hk
          have BYw12 : Hid (Blk w12 ye #[.int .i64 0, .int .i64 0, .int .i64 0, .int .i64 ok, .string ⟨on.toArray⟩, .int .i64 oa, .int .i64 ob_, .int .i64 R.1.2, .int .i64 yv] 51) := hk _ _ _ BYw11.out
          have BZw12 : Hid (Blk w12 zz #[.int .i64 0, .int .i64 0, .int .i64 0, .int .i64 ok, .string ⟨on.toArray⟩, .int .i64 oa, .int .i64 ob_, .int .i64 ze, .int .i64 R.1.1] 51) := hk _ _ _ BZw11.out
          clear hA hk HCA HAw11 BXw11 HNw11 BEw11 HWw11 BYw11 BZw11 t0 t1 t2 t3 t4 t5 t6 t7 t8
          have HLK : Hid (nms.map (lkOf L3) = nms.map (lkOf L')) := show _ = _ from List.map_congr_left (fun n _ => (HE3.out.lk n).symm)
          have HLO3 : Hid _ := looked_any (.slice no M nc) nms w12 HAw12.out.b (by rw [← HM.out]; exact HNw12.out) (by rw [← HM.out]; exact hn3)
          rw [← HM.out] at HLO3
          rw [HLK.out] at HLO3
          by_cases h1 : R.1.2 = 1
          · have q1 : (R.1.2 == 1) = true := by simpa using h1
            have q2 : R.1.2 = 1 := h1
            rw [q1]
            simp only [Bool.not_true, Bool.not_false]
            clear h1
            go_wp2_with fail
            refine Calls.mono HLO3.out ?_
            rintro e9 w13 ⟨v3, rfl, hv3, hb13⟩
            obtain ⟨ao3, cap3, hv, _⟩ := own_slice hv3
            subst hv
            have HA13 : Hid (TwoM w ab mb L' ab2 mb2 L3 w13) := HAw12.out.more hb13
            have HN13 : Hid (w13.ownsRow B0 9 1 (.slice no M nc) M (nms.map Sv)) := ownsRow_same HNw12.out (fun g hg => hb13.block g (ownsRow_lt HNw12.out hg).2)
            have HLO4 : Hid _ := looked_any (.slice no M nc) nms w13 HA13.out.a.am (by rw [← HM.out]; exact HN13.out) (by rw [← HM.out]; exact hn3)
            rw [← HM.out] at HLO4
            have HV3 : Hid (w13.ownsRow w12.heap.size 45 4 (.slice ao3 M cap3) M (flatL (nms.map (lkOf L')))) := hv3
            clear hv3 hb13 HLO3
            go_wp2_with fail
            refine Calls.mono HLO4.out ?_
            rintro e9 w14 ⟨v4, rfl, hv4, hb14⟩
            obtain ⟨ao4, cap4, hv, _⟩ := own_slice hv4
            subst hv
            have HA14 : Hid (TwoM w ab mb L' ab2 mb2 L3 w14) := HA13.out.more hb14
            have HN14 : Hid (w14.ownsRow B0 9 1 (.slice no M nc) M (nms.map Sv)) := ownsRow_same HN13.out (fun g hg => hb14.block g (ownsRow_lt HN13.out hg).2)
            have HSM2 : Hid _ := same_yes (.slice ao3 M cap3) (.slice ao4 M cap4) (nms.map (lkOf L')) w14 (by rw [List.length_map, ← HM.out]; exact ownsRow_same HV3.out (fun g hg => hb14.block g (ownsRow_lt HV3.out hg).2)) (by rw [List.length_map, ← HM.out]; exact hv4) (by rw [List.length_map, ← HM.out]; exact hn3)
            clear hv4 hb14 HLO4
            go_wp2_with fail
            refine Calls.mono HSM2.out ?_
            rintro e9 w15 ⟨rfl, hb15⟩
            have HFA : Hid (AX w ab mb L' w15) := (HA14.out.more hb15).a
            have HFN : Hid (w15.ownsRow B0 9 1 (.slice no M nc) M (nms.map Sv)) := ownsRow_same HN14.out (fun g hg => hb15.block g (ownsRow_lt HN14.out hg).2)
            clear hb15 HSM2 HA13 HA14 HN13 HN14 HV3
            go_wp2_with fail
            go_roundw
            case rel => exact ⟨j + 1, L', by omega, by omega, by go_num, HFA.out, HFN.out⟩
            case measure => simp [intOf]; omega
          · have q1 : (R.1.2 == 1) = false := by simpa using h1
            have q2 : ¬ R.1.2 = 1 := h1
            have q3 : (R.1.2 != 1) = true := by simpa using h1
            rw [q1]
            simp only [Bool.not_true, Bool.not_false]
            clear h1
            go_wp2_with fail
            refine Calls.mono HLO3.out ?_
            rintro e9 w13 ⟨v3, rfl, hv3, hb13⟩
            obtain ⟨ao3, cap3, hv, _⟩ := own_slice hv3
            subst hv
            have HA13 : Hid (TwoM w ab mb L' ab2 mb2 L3 w13) := HAw12.out.more hb13
            have HN13 : Hid (w13.ownsRow B0 9 1 (.slice no M nc) M (nms.map Sv)) := ownsRow_same HNw12.out (fun g hg => hb13.block g (ownsRow_lt HNw12.out hg).2)
            have HLO4 : Hid _ := looked_any (.slice no M nc) nms w13 HA13.out.a.am (by rw [← HM.out]; exact HN13.out) (by rw [← HM.out]; exact hn3)
            rw [← HM.out] at HLO4
            have HV3 : Hid (w13.ownsRow w12.heap.size 45 4 (.slice ao3 M cap3) M (flatL (nms.map (lkOf L')))) := hv3
            clear hv3 hb13 HLO3
            go_wp2_with fail
            refine Calls.mono HLO4.out ?_
            rintro e9 w14 ⟨v4, rfl, hv4, hb14⟩
            obtain ⟨ao4, cap4, hv, _⟩ := own_slice hv4
            subst hv
            have HA14 : Hid (TwoM w ab mb L' ab2 mb2 L3 w14) := HA13.out.more hb14
            have HN14 : Hid (w14.ownsRow B0 9 1 (.slice no M nc) M (nms.map Sv)) := ownsRow_same HN13.out (fun g hg => hb14.block g (ownsRow_lt HN13.out hg).2)
            have HSM2 : Hid _ := same_yes (.slice ao3 M cap3) (.slice ao4 M cap4) (nms.map (lkOf L')) w14 (by rw [List.length_map, ← HM.out]; exact ownsRow_same HV3.out (fun g hg => hb14.block g (ownsRow_lt HV3.out hg).2)) (by rw [List.length_map, ← HM.out]; exact hv4) (by rw [List.length_map, ← HM.out]; exact hn3)
            clear hv4 hb14 HLO4
            go_wp2_with fail
            refine Calls.mono HSM2.out ?_
            rintro e9 w15 ⟨rfl, hb15⟩
            have HFA : Hid (AX w ab mb L' w15) := (HA14.out.more hb15).a
            have HFN : Hid (w15.ownsRow B0 9 1 (.slice no M nc) M (nms.map Sv)) := ownsRow_same HN14.out (fun g hg => hb15.block g (ownsRow_lt HN14.out hg).2)
            clear hb15 HSM2 HA13 HA14 HN13 HN14 HV3
            go_wp2_with fail
            go_roundw
            case rel => exact ⟨j + 1, L', by omega, by omega, by go_num, HFA.out, HFN.out⟩
            case measure => simp [intOf]; omega
      · have HBF : Hid (Below w.heap.size w wr) := HA.out.bel
        by_cases hj4 : j < KN
        · have hj5 : ¬ j < 60 := by omega
          clear hlt
          go_wp2_with fail
          go_meet
          case rel => exact HBF.out
        · clear hlt
          go_wp2_with fail
          go_meet
          case rel => exact HBF.out
  case rest =>
    have HBF : Hid (Below w.heap.size w wc) := hcut
    clear hcut HA2 HN2
    go_wp2_with fail
    go_ret
    exact ⟨rfl, HBF.out⟩
end Go.Proofs.Ytgajmiibkakobaa
