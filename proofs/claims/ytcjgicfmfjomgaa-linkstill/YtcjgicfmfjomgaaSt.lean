import Derived.Test.YtcjgicfmfjomgaaSt0
import Derived.Test.YtcjgicfmfjomgaaArgsB
namespace Go.Proofs.Ytcjgicfmfjomgaa
open Go.RowKit Go.PlainAid Go.MapKept
set_option linter.unusedVariables false
set_option linter.unusedSimpArgs false
theorem lent_at {w : World} {L : Nat} {v : Value} {s : List UInt8} (h : w.ownsRow L 5 1 v (s.length + 3) ((s ++ [167, 182, 197]).map B)) : ∃ c g, v = .slice (some ⟨g, 0, none⟩) (s.length + 3) c ∧ s.length + 3 ≤ c ∧ ∀ j u, (s.map B)[j]? = some u → w.cell? ((⟨g, 0, none⟩ : Addr).add j) = some u := by
  obtain ⟨ao, c, rfl, hc, _, hr⟩ := own_read h
  obtain ⟨g, rfl, _, _, hcl⟩ := hr (by omega)
  refine ⟨c, g, rfl, hc, fun j u hu => ?_⟩
  rw [addr_add, Nat.zero_add]
  refine hcl j u ?_
  rw [List.map_append, List.getElem?_append_left (List.getElem?_eq_some_iff.1 hu).1]
  exact hu
theorem isz5 : (Try.prog.info? 5).map (·.size) = some 1 := by kernel_rfl
set_option maxRecDepth 100000 in
set_option maxHeartbeats 12800000 in
theorem still_law (x0 x1 x3 : Int) (h0 : -9223372036854775808 ≤ x0 ∧ x0 ≤ 9223372036854775807) (h1 : -9223372036854775808 ≤ x1 ∧ x1 ≤ 9223372036854775807) (h3 : -9223372036854775808 ≤ x3 ∧ x3 ≤ 9223372036854775807) (ao : Option Addr) (M cap : Nat) (os : List Dv) (W : World) (hl : os.length = M) (hMx : M ≤ 9223372036854775807)
    (hok : ∀ o ∈ os, By W o.v o.s ∧ o.s.length ≤ 1000000000000000) (hat : 0 < M → ∃ b off, ao = some ⟨b, off, none⟩ ∧ ∀ i o, os[i]? = some o → RowAt W b (off + i * 1) [o.v]) :
    Calls Try.prog 4 #[.int .i64 x0, .int .i64 x1, .slice ao M cap, .int .i64 x3] W fun e w' => e = .returned (.bool true) ∧ Below W.heap.size W w' := by
  have HA : Hid _ := alive_any W
  have HW0 : Hid (∀ w, Calls Try.prog 15 #[.int .i64 x0, .int .i64 1, .int .i64 16] w _) := fun w => within_16 x0 w h0
  have HW1 : Hid (∀ w, Calls Try.prog 15 #[.int .i64 x1, .int .i64 1, .int .i64 20] w _) := fun w => within_20 x1 w h1
  have HW3 : Hid (∀ w, Calls Try.prog 15 #[.int .i64 x3, .int .i64 1, .int .i64 60] w _) := fun w => within_60 x3 w h3
  have HOK : Hid (∀ o ∈ os, By W o.v o.s ∧ o.s.length ≤ 1000000000000000) := hok
  have HAT : Hid (0 < M → ∃ b off, ao = some ⟨b, off, none⟩ ∧ ∀ i o, os[i]? = some o → RowAt W b (off + i * 1) [o.v]) := hat
  have HL : Hid (os.length = M) := hl
  obtain ⟨wn, hwn⟩ : ∃ wn, wn = wi x0 16 := ⟨_, rfl⟩
  obtain ⟨n, hn⟩ : ∃ n, n = wi x1 20 := ⟨_, rfl⟩
  obtain ⟨tk, htk⟩ : ∃ tk, tk = wi x3 60 := ⟨_, rfl⟩
  have hw := wi_le x0 16 (by omega)
  have hn2 := wi_le x1 20 (by omega)
  have htk2 := wi_le x3 60 (by omega)
  rw [← hwn] at hw HW0
  rw [← hn] at hn2 HW1
  rw [← htk] at htk2 HW3
  clear hok hat hl hwn hn htk h0 h1 h3
  obtain ⟨hw1, hw2⟩ := hw
  obtain ⟨hn1, hn2⟩ := hn2
  obtain ⟨ht1, ht2⟩ := htk2
  go_enter Try.func4, Try.ntmps4
  go_wp2_with fail
  refine Calls.mono HA.out ?_
  rintro e w1 ⟨rfl, hb1⟩
  have HB1 : Hid (Below W.heap.size W w1) := hb1
  clear hb1 HA
  go_wp2_with fail
  refine Calls.mono (HW0.out _) ?_
  rintro e w1' ⟨rfl, hw1'⟩
  replace hw1' := hw1'.symm
  subst hw1'
  go_wp2_with fail
  refine Calls.mono (HW1.out _) ?_
  rintro e w1' ⟨rfl, hw1'⟩
  replace hw1' := hw1'.symm
  subst hw1'
  clear HW0 HW1
  go_wp2_with fail
  refine Calls.mono (new_any 3 5 wn n w1 (by omega) (by omega) (by omega) (by omega) (by omega)) ?_
  rintro e w2 ⟨rfl, hM2, hb2⟩
  obtain ⟨lb, hlb⟩ : ∃ lb, lb = w1.heap.size + 2 := ⟨_, rfl⟩
  obtain ⟨cb, hcb⟩ : ∃ cb, cb = w1.heap.size := ⟨_, rfl⟩
  obtain ⟨mb, hmb⟩ : ∃ mb, mb = w1.heap.size + 1 := ⟨_, rfl⟩
  have hlo : W.heap.size ≤ w1.heap.size := HB1.out.size
  rw [← hlb, ← hmb] at hM2
  rw [← hlb]
  have HM2 : Hid (LM W.heap.size lb cb mb (.slice none 0 0) (fresh 3 5 wn n) w2) := show LM _ _ _ _ _ _ _ from by rw [hcb]; exact hM2.low hlo
  have HB2 : Hid (Below W.heap.size W w2) := show Below _ _ _ from HB1.out.trans (hb2.mono HB1.out.size)
  clear hlb hcb hmb hlo hM2 hb2 HB1
  go_wp2_with fail
  go_loopw [14] (fun s14 wr => ∃ i : Nat, i ≤ 45 ∧ s14 = .int .i64 (i : Int) ∧ ∃ uv, LM W.heap.size lb cb mb uv (fresh 3 5 wn n) wr ∧ Below W.heap.size W wr) (fun s14 _ => 45 - (intOf s14).toNat)
  case atStart => exact ⟨0, by omega, rfl, _, HM2.out, HB2.out⟩
  case round =>
    obtain ⟨i, hi, rfl, uv, hM, hB⟩ := hrel
    have HM : Hid _ := hM
    have HB : Hid _ := hB
    clear hM hB HM2 HB2
    by_cases hlt : i < 45
    · go_wp2_with fail
      refine Calls.mono (tick_any _ HM.out (by simp [fresh])) ?_
      rintro e w3 ⟨rfl, hM3, hs3⟩
      have HM3 : Hid (LM W.heap.size lb cb mb uv (fresh 3 5 wn n) w3) := hM3
      have HB3 : Hid (Below W.heap.size W w3) := show Below _ _ _ from HB.out.trans (hs3.1.below HB.out.size (fun k hk => (HM.out.lt hk).1))
      clear hM3 hs3 HM HB
      go_wp2_with fail
      refine Calls.mono (out_any _ HM3.out (by simp [fresh]) (by simp [fresh]) (by simp [fresh]) (by simp [fresh]) (by simp [fresh, LV.all])) ?_
      rintro e w4 ⟨v, uv', l, rfl, hl, hSL, hM4, hs4, hdj⟩
      rw [show outTells (fresh 3 5 wn n) = [] from rfl] at hl
      obtain rfl : l = [] := List.map_eq_nil_iff.1 hl
      obtain ⟨vo, vc, hv, _⟩ := own_slice hSL.r
      subst hv
      have HM4 : Hid (LM W.heap.size lb cb mb uv' (fresh 3 5 wn n) w4) := hM4
      have HB4 : Hid (Below W.heap.size W w4) := show Below _ _ _ from HB3.out.trans (hs4.1.below HB3.out.size (fun k hk => (HM3.out.lt hk).1))
      clear hl hSL hM4 hs4 hdj HM3 HB3
      go_wp2_with fail
      go_roundw
      case rel => exact ⟨i + 1, by omega, by go_num, _, HM4.out, HB4.out⟩
      case measure => simp [intOf]; omega
    · go_wp2_with fail
      clear hi hlt
      go_loopw [16, 15, 17] (fun s16 s15 _ wr => ∃ vd, vd = s15 ∧ ∃ i : Nat, i ≤ M ∧ i ≤ wn ∧ s16 = .int .i64 (i : Int) ∧ ∃ KK Bx uv, KK.length ≤ i ∧ (∀ d ∈ KK, By W d.v d.s ∧ d.s.length ≤ 4000) ∧ SQ W lb cb mb wn n KK Bx uv vd wr) (fun s16 _ _ _ => wn - (intOf s16).toNat)
      case atStart => exact ⟨_, rfl, 0, by omega, by omega, rfl, [], [], _, by simp, (fun d hd => by cases hd), ⟨rfl, HM.out, (fun k e => by cases e), World.ownsRow_nil _ _ _ _, HB.out⟩⟩
      case round =>
        clear HM HB
        obtain ⟨vd, rfl, i, hi, hiw, rfl, KK, Bx, uv, hKl, hKo, hQ⟩ := hrel
        have HQ : Hid _ := hQ
        have HKO : Hid (∀ d ∈ KK, By W d.v d.s ∧ d.s.length ≤ 4000) := hKo
        clear hQ hKo
        by_cases hM : i < M
        · by_cases hiw2 : i < wn
          · obtain ⟨ab, aof, hao, hrow⟩ := HAT.out (by omega)
            obtain ⟨o, ho⟩ : ∃ o, os[i]? = some o := ⟨os[i]'(by rw [HL.out]; exact hM), List.getElem?_eq_getElem _⟩
            have hcW : W.cell? ⟨ab, aof + i, none⟩ = some o.v := by
              have := hrow i o ho 0 o.v rfl
              rwa [Nat.mul_one, Nat.add_zero] at this
            have habl : ab < W.heap.size := World.block_lt_of_cell? W _ hcW
            obtain ⟨hby, hol⟩ := HOK.out o (List.mem_of_getElem? ho)
            obtain ⟨oo, on, oc, hov, hon, _⟩ := id hby
            have cu : wr.cell? ⟨ab, aof + i, none⟩ = some (.slice oo on oc) := by
              rw [← hov]
              exact (HQ.out.bl.cell (p := ⟨ab, aof + i, none⟩) habl).trans hcW
            have honl : on ≤ 1000000000000000 := by omega
            have HBY : Hid (By W o.v o.s) := hby
            have HOV : Hid (o.v = .slice oo on oc) := hov
            have HON : Hid (o.s.length = on) := hon
            have HOA : Hid (∃ b off, ao = some ⟨b, off, none⟩) := ⟨ab, aof, hao⟩
            have HAB : Hid (ab < W.heap.size) := habl
            subst hao
            clear hrow ho hcW habl hby hol hov hon
            by_cases h4 : on ≤ 4000
            · have HCU : Hid (wr.cell? ⟨ab, aof + i, none⟩ = some (.slice oo on oc)) := cu
              have HCW : ∀ w2, Below wr.heap.size wr w2 → w2.cell? ⟨ab, aof + i, none⟩ = some (.slice oo on oc) := fun w2 hb => (hb.cell (p := ⟨ab, aof + i, none⟩) (Nat.lt_of_lt_of_le HAB.out HQ.out.bl.size)).trans HCU.out
              have HCS : ∀ w2 w3 x3, Below wr.heap.size wr w2 → LStp lb cb mb uv uv (stB wn n Bx) x3 w2 w3 → w3.cell? ⟨ab, aof + i, none⟩ = some (.slice oo on oc) := fun w2 w3 x3 hb hs => by
                refine (World.cell?_of_block (w := w2) (a := ⟨ab, aof + i, none⟩) (hs.1.block ab (Nat.lt_of_lt_of_le HAB.out (Nat.le_trans HQ.out.bl.size hb.size)) (fun hk => ?_))).trans (HCW w2 hb)
                have := (HQ.out.lm.lt hk).1
                have := HAB.out
                omega
              have HLD : Hid (Calls Try.prog 19 #[.slice oo on oc] wr.drew _) := lend_any (s := o.s) wr.drew (by rw [← HOV.out]; exact HBY.out.keep ⟨HQ.out.bl.os, HQ.out.bl.tape, HQ.out.bl.output, HQ.out.bl.size, HQ.out.bl.block⟩) (by rw [HON.out]; exact h4)
              go_wp2_with fail
              rename_i K hK
              try rw [show ∀ a : Act, a.put none undef = a from fun _ => rfl]
              refine wp_region_mix (fun wz => wz.cell? ⟨ab, aof + i, none⟩ = some (Value.slice oo on oc)) (fun i => i == 5 || i == 12 || i == 99) 99 (by kernel_rfl) rfl (by kernel_rfl) (by kernel_rfl) (by kernel_rfl) ?_
              refine withFrP (N := 183) rfl ?_
              intro f0 F0 hff
              have e12 : f0 12 = Value.pointer (some ⟨lb, 0, none⟩) := hff 12
              have e2 : f0 2 = Value.slice (some ⟨ab, aof, none⟩) M cap := hff 2
              have e16 : f0 16 = Value.int .i64 (i : Int) := hff 16
              clear hff
              have HCC : (fun wz => wz.cell? ⟨ab, aof + i, none⟩ = some (Value.slice oo on oc)) (({ wr with drawn := wr.drawn + 1 } : World)) := HCU.out
              refine lyp F0 rfl HCC rfl (by omega) (wanted_none rfl) (v := Value.pointer (some ⟨lb, 0, none⟩)) (fun wr hwr => by simp only [execOp, (F0.eval 12 (by omega)).trans (show _ = Value.pointer (some ⟨lb, 0, none⟩) from by simp [upd, e12, e2, e16])]; first | rfl | simp [go_sem]) fun Fr1 => ?_
              refine lyp Fr1 rfl HCC rfl (by omega) (wanted_none rfl) (v := Value.slice (some ⟨ab, aof, none⟩) M cap) (fun wr hwr => by simp only [execOp, (Fr1.eval 2 (by omega)).trans (show _ = Value.slice (some ⟨ab, aof, none⟩) M cap from by simp [upd, e12, e2, e16])]; first | rfl | simp [go_sem]) fun Fr2 => ?_
              refine lyp Fr2 rfl HCC rfl (by omega) (wanted_none rfl) (v := Value.int .i64 (i : Int)) (fun wr hwr => by simp only [execOp, (Fr2.eval 16 (by omega)).trans (show _ = Value.int .i64 (i : Int) from by simp [upd, e12, e2, e16])]; first | rfl | simp [go_sem]) fun Fr3 => ?_
              refine lyp Fr3 rfl HCC rfl (by omega) (wanted_none rfl) (v := Value.pointer (some ⟨ab, aof + i, none⟩)) (fun wr hwr => by simp only [execOp, (Fr3.eval 71 (by omega)).trans (show _ = Value.slice (some ⟨ab, aof, none⟩) M cap from by simp [upd, e12, e2, e16]), (Fr3.eval 72 (by omega)).trans (show _ = Value.int .i64 (i : Int) from by simp [upd, e12, e2, e16])]; simp only [Sem.run_bind, Sem.run_pure, Result.andThen_ok, idx_run 36 41 1 Try.underlying36 (by kernel_rfl) _ ab aof M cap i hM, Nat.mul_one]; try rfl) fun Fr4 => ?_
              refine lyp Fr4 rfl HCC rfl (by omega) (wanted_none rfl) (v := Value.slice oo on oc) (fun wr hwr => by simp only [execOp, (Fr4.eval 73 (by omega)).trans (show _ = Value.pointer (some ⟨ab, aof + i, none⟩) from by simp [upd, e12, e2, e16])]; simp [go_sem, hwr]) fun Fr5 => ?_
              refine lcp Fr5 rfl HCC rfl (by omega) (wanted_none rfl) (g := 19) (args := #[Value.slice oo on oc]) (by simp only [execOp, resolve, invoke, List.map_toArray, List.map_cons, List.map_nil, (Fr5.eval 74 (by omega)).trans (show _ = Value.slice oo on oc from by simp [upd, e12, e2, e16])]; simp [go_sem, Act.eval]) HLD.out ?_
              rintro e w2 ⟨v2, rfl, hr2, hb2⟩
              obtain ⟨c2, g2, hv2, hc2, hcl2⟩ := lent_at hr2
              subst hv2
              refine ⟨_, rfl, fun Fr6 => ?_⟩
              replace hb2 : Below wr.heap.size wr w2 := ⟨hb2.os, hb2.tape, hb2.output, hb2.size, hb2.block⟩
              have HC2 : (fun wz => wz.cell? ⟨ab, aof + i, none⟩ = some (Value.slice oo on oc)) w2 := HCW w2 hb2
              have HQ2 : Hid _ := HQ.out.more hb2
              have HSD : Hid _ := send_any (s := o.s) w2 HQ2.out.lm (by simp [stB, fresh]) (by simp [stB, fresh]; omega) (by simp [stB, fresh]; have := congrArg List.length HQ2.out.sm; simp at this; omega) (show By w2 (.slice (some ⟨g2, 0, none⟩) on c2) o.s from ⟨_, _, _, rfl, HON.out, (fun h => by cases h), fun ad e j u hu => by cases e; exact hcl2 j u hu⟩) (by rw [HON.out]; omega)
              refine lyp Fr6 rfl HC2 rfl (by omega) (wanted_none rfl) (v := Value.slice (some ⟨ab, aof, none⟩) M cap) (fun wr hwr => by simp only [execOp, (Fr6.eval 2 (by omega)).trans (show _ = Value.slice (some ⟨ab, aof, none⟩) M cap from by simp [upd, e12, e2, e16])]; first | rfl | simp [go_sem]) fun Fr7 => ?_
              refine lyp Fr7 rfl HC2 rfl (by omega) (wanted_none rfl) (v := Value.int .i64 (i : Int)) (fun wr hwr => by simp only [execOp, (Fr7.eval 16 (by omega)).trans (show _ = Value.int .i64 (i : Int) from by simp [upd, e12, e2, e16])]; first | rfl | simp [go_sem]) fun Fr8 => ?_
              refine lyp Fr8 rfl HC2 rfl (by omega) (wanted_none rfl) (v := Value.pointer (some ⟨ab, aof + i, none⟩)) (fun wr hwr => by simp only [execOp, (Fr8.eval 76 (by omega)).trans (show _ = Value.slice (some ⟨ab, aof, none⟩) M cap from by simp [upd, e12, e2, e16]), (Fr8.eval 77 (by omega)).trans (show _ = Value.int .i64 (i : Int) from by simp [upd, e12, e2, e16])]; simp only [Sem.run_bind, Sem.run_pure, Result.andThen_ok, idx_run 36 41 1 Try.underlying36 (by kernel_rfl) _ ab aof M cap i hM, Nat.mul_one]; try rfl) fun Fr9 => ?_
              refine lyp Fr9 rfl HC2 rfl (by omega) (wanted_none rfl) (v := Value.slice oo on oc) (fun wr hwr => by simp only [execOp, (Fr9.eval 78 (by omega)).trans (show _ = Value.pointer (some ⟨ab, aof + i, none⟩) from by simp [upd, e12, e2, e16])]; simp [go_sem, hwr]) fun Fr10 => ?_
              refine lyp Fr10 rfl HC2 rfl (by omega) (wanted_none rfl) (v := Value.int .i64 (on : Nat)) (fun wr hwr => by simp only [execOp, resolve, invoke, builtin, List.map_toArray, List.map_cons, List.map_nil, (Fr10.eval 79 (by omega)).trans (show _ = Value.slice oo on oc from by simp [upd, e12, e2, e16])]; simp [go_sem, Builtin.len_, Builtin.lenOf]) fun Fr11 => ?_
              refine lyp Fr11 rfl HC2 rfl (by omega) (wanted_none rfl) (v := Value.slice (some ⟨g2, 0, none⟩) on c2) (fun wr hwr => by simp only [execOp, Option.map, (Fr11.eval 75 (by omega)).trans (show _ = Value.slice (some ⟨g2, 0, none⟩) (o.s.length + 3) c2 from by simp [upd, e12, e2, e16]), (Fr11.eval 80 (by omega)).trans (show _ = Value.int .i64 (on : Nat) from by simp [upd, e12, e2, e16])]; simp only [Sem.run_bind, Sem.run_pure, Result.andThen_ok, slice_head 41 5 Try.underlying41 isz5 (some ⟨g2, 0, none⟩) (o.s.length + 3) c2 on (by have := HON.out; omega)]; try rfl) fun Fr12 => ?_
              refine lcp Fr12 rfl HC2 rfl (by omega) (wanted_none rfl) (g := 18) (args := #[Value.pointer (some ⟨lb, 0, none⟩), Value.slice (some ⟨g2, 0, none⟩) on c2]) (by simp only [execOp, resolve, invoke, List.map_toArray, List.map_cons, List.map_nil, (Fr12.eval 70 (by omega)).trans (show _ = Value.pointer (some ⟨lb, 0, none⟩) from by simp [upd, e12, e2, e16]), (Fr12.eval 81 (by omega)).trans (show _ = Value.slice (some ⟨g2, 0, none⟩) on c2 from by simp [upd, e12, e2, e16])]; simp [go_sem, Act.eval]) HSD.out ?_
              rintro e w3 ⟨rfl, x3, hx3, hM3, hs3⟩
              refine ⟨_, rfl, fun Fr13 => ?_⟩
              have HC3 : (fun wz => wz.cell? ⟨ab, aof + i, none⟩ = some (Value.slice oo on oc)) w3 := HCS w2 w3 x3 hb2 hs3
              refine lyp Fr13 rfl HC3 rfl (by omega) (wanted_none rfl) (v := Value.int .i64 (sendCode (stB wn n Bx) o.s)) (fun wr hwr => by simp only [execOp, (Fr13.eval 82 (by omega)).trans (show _ = Value.int .i64 (sendCode (stB wn n Bx) o.s) from by simp [upd, e12, e2, e16])]; first | rfl | simp [go_sem]) fun Fr14 => ?_
              refine ⟨fun _ => HC3, ?_⟩
              refine hK _ _ ?_
              clear F0 Fr1 Fr2 Fr3 Fr4 Fr5 Fr6 Fr7 Fr8 Fr9 Fr10 Fr11 Fr12 Fr13 Fr14 e12 e2 e16 HCC HC2 HC3
              simp only [Act.put, List.setIfInBounds_toArray, List.set_cons_succ, List.set_cons_zero]
              have e1 : sendCode (stB wn n Bx) o.s = 0 := by
                unfold sendCode
                have hbl := congrArg List.length HQ.out.sm
                simp only [List.length_map] at hbl
                rw [if_neg (by rw [HON.out]; omega), if_pos]
                have q1 : Bx.length + 0 < wn := by omega
                have q2 : (0 : Int) + ((0 : Nat) : Int) + (Bx.length : Int) ≠ 1099511627776 := by omega
                show (decide (Bx.length + 0 < wn) && decide ((0 : Int) + ((0 : Nat) : Int) + (Bx.length : Int) ≠ 1099511627776)) = true
                rw [decide_eq_true q1, decide_eq_true q2]
                rfl
              unfold SentTo at hx3
              rw [if_pos e1] at hx3
              obtain ⟨d3, rfl⟩ := hx3
              rw [e1]
              obtain ⟨v5, w5, hr5, hQ5⟩ := HQ2.out.send hM3 hs3 (by omega) ⟨_, _, _, HOV.out⟩
              have c3 : w3.cell? ⟨ab, aof + i, none⟩ = some (.slice oo on oc) := HCS w2 w3 _ hb2 hs3
              rw [HOV.out] at hr5
              have HHR : Hid (∀ ty, (Builtin.append_ #[36, 36] ty #[vd, .slice (some ⟨w3.heap.size, 0, none⟩) 1 1]).run Try.prog (w3.alloc (.cells #[.slice oo on oc] 41)) = .ok v5 w5) := hr5
              have HQ5 : Hid _ := hQ5
              have HKO5 : Hid (∀ d ∈ KK ++ [o], By W d.v d.s ∧ d.s.length ≤ 4000) := fun d hd => by
                rcases List.mem_append.1 hd with q | q
                · exact HKO.out d q
                · rw [List.mem_singleton.1 q]
                  exact ⟨HBY.out, by rw [HON.out]; exact h4⟩
              obtain ⟨vo, vc, hvd, _⟩ := own_slice HQ.out.r
              subst hvd
              clear hr5 hQ5 hM3 hs3 hb2 hr2 hc2 hcl2 HQ2 HSD HLD HCW HCS HCU e1 HQ HKO cu
              go_wp2_with (at_builtin; refine wpList_runs rfl _ _ 36 rfl rfl rfl HHR.out ?_)
              go_roundw
              case rel => exact ⟨_, rfl, i + 1, by omega, by omega, by go_num, KK ++ [o], _, uv, by simp; omega, HKO5.out, HQ5.out⟩
              case measure => simp [intOf]; omega
            · go_wp2_with fail
              go_roundw
              case rel => exact ⟨_, rfl, i + 1, by omega, by omega, by go_num, KK, Bx, uv, by omega, HKO.out, HQ.out⟩
              case measure => simp [intOf]; omega
          · go_wp2_with fail
            have hBl : Bx.length = KK.length := by simpa using congrArg List.length HQ.out.sm
            have hds : ∀ d ∈ Bx, d.s.length ≤ 1000000 := fun d hd => by
              have h1 : d.s ∈ KK.map Dv.s := by rw [← HQ.out.sm]; exact List.mem_map_of_mem hd
              obtain ⟨k, hk, e⟩ := List.mem_map.1 h1
              have := (HKO.out k hk).2
              rw [← e]
              omega
            have HDS : Hid (∀ d ∈ Bx, d.s.length ≤ 1000000) := hds
            have hKs : KK.length ≤ 16 := by omega
            refine Calls.mono (out_any wr HQ.out.lm (by simp [stB, fresh]) (by simp [stB, fresh]) (by simp [stB, fresh]) (by simp [stB, fresh]; omega) (by simp [stB, fresh, LV.all]; exact hds)) ?_
            rintro e w4 ⟨v, uv4, l, rfl, hl, hSL, hM4, hs4, hdj4⟩
            rw [stB_tells] at hl
            have hll : l.length = KK.length := by
              have := congrArg List.length hl
              rw [List.length_map, tell_len, List.length_map] at this
              omega
            rw [stB_out] at hM4 hs4
            have HU4 : Hid _ := HQ.out.su.step hM4 hs4
            obtain ⟨vo, vc, hv, _⟩ := own_slice hSL.r
            rw [hll] at hv
            subst hv
            obtain ⟨vdo, vdc, hvd, _⟩ := own_slice HU4.out.r
            have HBL : Hid (Bx.length = KK.length) := hBl
            obtain ⟨kn, hkn⟩ : ∃ kn, kn = KK.length := ⟨_, rfl⟩
            have HKN : Hid (kn = KK.length) := hkn
            rw [← hkn] at hvd hKs ⊢
            subst hvd
            clear hl hSL hM4 hs4 hdj4 hll hBl hkn HQ hds hKl hi hiw hM hiw2
            go_wp2_with fail
            go_loopw [19, 20, 21] (fun s19 _ _ wr => ∃ i : Nat, 1 ≤ i ∧ i ≤ tk + 1 ∧ s19 = .int .i64 (i : Int) ∧ ∃ a uv, (Bx.length = 0 → a = 0) ∧ (0 < Bx.length → a = (((i - 1) % n : Nat) : Int)) ∧ SU W lb cb mb (stU wn n a Bx) KK Bx uv (.slice vdo kn vdc) wr) (fun s19 _ _ _ => tk + 1 - (intOf s19).toNat)
            case atStart => exact ⟨1, by omega, by omega, rfl, 0, _, (fun _ => rfl), (fun _ => by simp), HU4.out⟩
            case round =>
              clear HU4
              obtain ⟨i, hi1, hi2, rfl, a, uv, ha0, ha1, hU⟩ := hrel
              have HU : Hid _ := hU
              have HTI : Hid _ := stU_tick wn n i Bx a hn1 hi1 ha0 ha1
              have hab : 0 ≤ a ∧ a ≤ 1000 := by
                by_cases h : Bx.length = 0
                · rw [ha0 h]; omega
                · rw [ha1 (by omega)]
                  have := Nat.mod_lt (i - 1) (show 0 < n by omega)
                  omega
              have HAB : Hid (0 ≤ a ∧ a ≤ 1000) := hab
              clear hU ha0 ha1 hab
              go_wp2_with fail
              refine Calls.mono (HW3.out _) ?_
              rintro e w5' ⟨rfl, hw5'⟩
              replace hw5' := hw5'.symm
              subst hw5'
              by_cases hit : i ≤ tk
              · go_wp2_with fail
                refine Calls.mono (tick_any _ HU.out.lm HAB.out) ?_
                rintro e w5 ⟨rfl, hM5, hs5⟩
                rw [HTI.out] at hM5 hs5
                have HU5 : Hid _ := HU.out.step hM5 hs5
                clear hM5 hs5 HU HAB HTI
                go_wp2_with fail
                refine Calls.mono (out_any _ HU5.out.lm (by simp [stD, fresh]) (by simp [stD, fresh]) (by have := HBL.out; simp [stD, fresh]; have := HKN.out; omega) (by simp [stD, fresh]) (by simp [stD, fresh, LV.all]; exact HDS.out)) ?_
                rintro e w6 ⟨v6, uv6, l6, rfl, hl6, hSL6, hM6, hs6, hdj6⟩
                rw [stD_tells] at hl6
                rw [stD_out _ _ _ _ _ (fun h => by rw [if_pos h])] at hM6 hs6
                have HU6 : Hid _ := HU5.out.step hM6 hs6
                clear hM6 hs6 hdj6 HU5
                have hrm : (i : Int).tmod (n : Int) = ((i % n : Nat) : Int) := by rw [Int.tmod_eq_emod_of_nonneg (by omega)]; simp
                have HKB : Hid (kn = Bx.length) := show _ = _ from by rw [HBL.out]; exact HKN.out
                by_cases hc : 0 < Bx.length ∧ i % n = 0
                · rw [decide_eq_true hc, if_pos rfl] at hl6
                  have hln : l6.length = kn := by
                    have := congrArg List.length hl6
                    rw [List.length_map, tell_len, List.length_map] at this
                    have h1 := HBL.out
                    have h2 := HKN.out
                    omega
                  have hk0 : 0 < kn := by have := HKB.out; omega
                  have hrm0 : (i : Int).tmod (n : Int) = 0 := by rw [hrm, hc.2]; rfl
                  obtain ⟨go, gc, hv6, _, _, hrd⟩ := own_read hSL6.r
                  obtain ⟨g, hgo, _, hg2, hcl⟩ := hrd (by rw [hln]; exact hk0)
                  rw [hln, hgo] at hv6
                  obtain ⟨wo, wc, hvw, _, _, hrdw⟩ := own_read HU6.out.r
                  obtain ⟨wg, hwo, _, hwg2, hclw⟩ := hrdw (by rw [← HKN.out]; exact hk0)
                  have evd := (Value.slice.inj hvw).1
                  rw [hwo] at evd
                  have HCL : Hid (∀ j u, (flatG l6)[j]? = some u → w6.cell? ⟨g, j, none⟩ = some u) := hcl
                  have HCLW : Hid (∀ j u, (KK.map Dv.v)[j]? = some u → w6.cell? ⟨wg, j, none⟩ = some u) := hclw
                  have HG : Hid (g < w6.heap.size ∧ wg < w6.heap.size) := ⟨hg2, hwg2⟩
                  have HL6 : Hid (l6.map Sgm.pr = tell 3 5 0 1 (Bx.map Dv.s)) := hl6
                  have HSL6 : Hid (SL _ _ l6 w6) := hSL6
                  have HLN : Hid (l6.length = kn) := hln
                  have HRE : Hid (((i + 1 - 1) % n : Nat) = i % n) := by simp [Hid]
                  subst hv6
                  clear hvw hrd hrdw hwo hgo hcl hclw hg2 hwg2 hl6 hSL6 hln hrm hc
                  subst evd
                  go_wp2_with fail
                  go_loopw [21] (fun s21 wr => ∃ k : Nat, k ≤ kn ∧ s21 = .int .i64 (k : Int) ∧ ∃ q, wr = w6.drewN q) (fun s21 _ => kn - (intOf s21).toNat)
                  case atStart => exact ⟨0, by omega, rfl, 0, rfl⟩
                  case round =>
                    obtain ⟨k, hk, rfl, q, rfl⟩ := hrel
                    by_cases hkl : k < kn
                    · obtain ⟨kd, hkd⟩ : ∃ kd, KK[k]? = some kd := ⟨KK[k]'(by rw [← HKN.out]; exact hkl), List.getElem?_eq_getElem _⟩
                      obtain ⟨sg, hsg⟩ : ∃ sg, l6[k]? = some sg := ⟨l6[k]'(by rw [HLN.out]; exact hkl), List.getElem?_eq_getElem _⟩
                      have hpr : sg.pr = (3, 5, 1 + (k : Int), 0, kd.s) := by
                        have h1 : (l6.map Sgm.pr)[k]? = some sg.pr := by rw [List.getElem?_map, hsg]; rfl
                        rw [HL6.out, HU6.out.sm, tell_at 3 5 0 1 (KK.map Dv.s) k kd.s (by rw [List.getElem?_map, hkd]; rfl)] at h1
                        exact (Option.some.inj h1).symm
                      simp only [Sgm.pr, Prod.mk.injEq] at hpr
                      obtain ⟨p1, p2, p3, p4, p5⟩ := hpr
                      rw [Int.add_comm] at p3
                      have hfl : ∀ f u, f < 5 → sg.row[f]? = some u → w6.cell? ⟨g, k * 5 + f, none⟩ = some u := fun f u hf hu => HCL.out _ _ (by rw [flatG, flat_at Sgm.row 5 (fun _ => rfl) l6 k f sg hsg hf]; exact hu)
                      have VF : ∀ wz, Below w6.heap.size w6 wz → wz.cell? ⟨g, k * 5, none⟩ = some (.int .i64 3) := fun wz hb => (hb.cell (p := ⟨g, k * 5, none⟩) HG.out.1).trans (hfl 0 _ (by omega) (by rw [← p1]; rfl))
                      have VT : ∀ wz, Below w6.heap.size w6 wz → wz.cell? ⟨g, k * 5 + 1, none⟩ = some (.int .i64 5) := fun wz hb => (hb.cell (p := ⟨g, k * 5 + 1, none⟩) HG.out.1).trans (hfl 1 _ (by omega) (by rw [← p2]; rfl))
                      have VQ : ∀ wz, Below w6.heap.size w6 wz → wz.cell? ⟨g, k * 5 + 2, none⟩ = some (.int .i64 ((k : Int) + 1)) := fun wz hb => (hb.cell (p := ⟨g, k * 5 + 2, none⟩) HG.out.1).trans (hfl 2 _ (by omega) (by rw [← p3]; rfl))
                      have VA : ∀ wz, Below w6.heap.size w6 wz → wz.cell? ⟨g, k * 5 + 3, none⟩ = some (.int .i64 0) := fun wz hb => (hb.cell (p := ⟨g, k * 5 + 3, none⟩) HG.out.1).trans (hfl 3 _ (by omega) (by rw [← p4]; rfl))
                      have VD : ∀ wz, Below w6.heap.size w6 wz → wz.cell? ⟨g, k * 5 + 4, none⟩ = some sg.d.v := fun wz hb => (hb.cell (p := ⟨g, k * 5 + 4, none⟩) HG.out.1).trans (hfl 4 _ (by omega) rfl)
                      have VK : ∀ wz, Below w6.heap.size w6 wz → wz.cell? ⟨wg, k, none⟩ = some kd.v := fun wz hb => (hb.cell (p := ⟨wg, k, none⟩) HG.out.2).trans (HCLW.out k _ (by rw [List.getElem?_map, hkd]; rfl))
                      have hby1 : By (w6.drewN q).drew sg.d.v kd.s := by
                        obtain ⟨do_, dc, e1, hc1, _, e3⟩ := own_read (HSL6.out.d sg (List.mem_of_getElem? hsg))
                        refine ⟨do_, _, dc, e1, by rw [← p5], ?_, ?_⟩
                        · intro e
                          have hz : ¬ 0 < sg.d.s.length := fun h => by
                            obtain ⟨x, e4, _⟩ := e3 h
                            rw [e] at e4
                            cases e4
                          rcases (HSL6.out.d sg (List.mem_of_getElem? hsg)).2 with ⟨a1, a2⟩ | ⟨y, cap, cur, a1, _⟩
                          · rw [e1] at a1
                            exact ⟨by omega, (Value.slice.inj a1).2.2⟩
                          · rw [e1, e] at a1
                            exact absurd (Value.slice.inj a1).1 (by simp)
                        · intro ad e j u hu
                          rw [← p5] at hu
                          have hpos : 0 < sg.d.s.length := by
                            have := (List.getElem?_eq_some_iff.1 hu).1
                            simp at this
                            omega
                          obtain ⟨x, e4, _, hx, hcl⟩ := e3 hpos
                          rw [e4] at e
                          cases e
                          rw [addr_add, Nat.zero_add]
                          exact hcl j u hu
                      have hby2 : By (w6.drewN q).drew kd.v kd.s := (HKO.out kd (List.mem_of_getElem? hkd)).1.keep (show Below _ _ _ from ⟨HU6.out.bl.os, HU6.out.bl.tape, HU6.out.bl.output, HU6.out.bl.size, HU6.out.bl.block⟩)
                      have HSM : Hid (Calls Try.prog 20 #[sg.d.v, kd.v] (w6.drewN q).drew fun e w' => e = .returned (.bool true) ∧ w' = (w6.drewN q).drew) := (same_any (w6.drewN q).drew hby1 hby2).mono (by rintro e w' ⟨rfl, rfl⟩; simp)
                      have HBW : Hid (Below w6.heap.size w6 (w6.drewN q).drew) := show Below _ _ _ from below_drewN (Below.refl _ _) (q + 1)
                      clear hby1 hby2 p1 p2 p3 p4 p5 hfl hkd hsg
                      go_wp2_with fail
                      rename_i K hK
                      try rw [show ∀ a : Act, a.put none undef = a from fun _ => rfl]
                      refine wp_region_mix (fun wz => Below w6.heap.size w6 wz) (fun i => i == 42 || i == 99) 99 (by kernel_rfl) rfl (by kernel_rfl) (by kernel_rfl) (by kernel_rfl) ?_
                      refine withFrP (N := 183) rfl ?_
                      intro f0 F0 hff
                      have e20 : f0 20 = Value.slice (some ⟨g, 0, none⟩) kn gc := hff 20
                      have e21 : f0 21 = Value.int .i64 (k : Int) := hff 21
                      have e15 : f0 15 = Value.slice (some ⟨wg, 0, none⟩) kn vdc := hff 15
                      clear hff
                      have HCC : (fun wz => Below w6.heap.size w6 wz) (({ (w6.drewN q) with drawn := (w6.drewN q).drawn + 1 } : World)) := HBW.out
                      refine lyp F0 rfl HCC rfl (by omega) (wanted_none rfl) (v := Value.slice (some ⟨g, 0, none⟩) kn gc) (fun wr hwr => by simp only [execOp, (F0.eval 20 (by omega)).trans (show _ = Value.slice (some ⟨g, 0, none⟩) kn gc from by simp [upd, e20, e21, e15])]; first | rfl | simp [go_sem]) fun Fr1 => ?_
                      refine lyp Fr1 rfl HCC rfl (by omega) (wanted_none rfl) (v := Value.int .i64 (k : Int)) (fun wr hwr => by simp only [execOp, (Fr1.eval 21 (by omega)).trans (show _ = Value.int .i64 (k : Int) from by simp [upd, e20, e21, e15])]; first | rfl | simp [go_sem]) fun Fr2 => ?_
                      refine lyp Fr2 rfl HCC rfl (by omega) (wanted_none rfl) (v := Value.pointer (some ⟨g, k * 5, none⟩)) (fun wr hwr => by simp only [execOp, (Fr2.eval 132 (by omega)).trans (show _ = Value.slice (some ⟨g, 0, none⟩) kn gc from by simp [upd, e20, e21, e15]), (Fr2.eval 133 (by omega)).trans (show _ = Value.int .i64 (k : Int) from by simp [upd, e20, e21, e15])]; simp only [Sem.run_bind, Sem.run_pure, Result.andThen_ok, idx_run 33 45 5 Try.underlying33 (by kernel_rfl) _ g 0 kn gc k hkl, Nat.zero_add, Nat.mul_one]; try rfl) fun Fr3 => ?_
                      refine lyp Fr3 rfl HCC rfl (by omega) (wanted_none rfl) (v := Value.pointer (some ⟨g, k * 5 + 2, none⟩)) (fun wr hwr => by simp only [execOp, (Fr3.eval 134 (by omega)).trans (show _ = Value.pointer (some ⟨g, k * 5, none⟩) from by simp [upd, e20, e21, e15])]; simp [go_sem]) fun Fr4 => ?_
                      refine lyp Fr4 rfl HCC rfl (by omega) (wanted_none rfl) (v := Value.int .i64 ((k : Int) + 1)) (fun wr hwr => by simp only [execOp, (Fr4.eval 135 (by omega)).trans (show _ = Value.pointer (some ⟨g, k * 5 + 2, none⟩) from by simp [upd, e20, e21, e15])]; simp [go_sem, VQ wr hwr]) fun Fr5 => ?_
                      refine lyp Fr5 rfl HCC rfl (by omega) (wanted_none rfl) (v := Value.int .i64 (k : Int)) (fun wr hwr => by simp only [execOp, (Fr5.eval 21 (by omega)).trans (show _ = Value.int .i64 (k : Int) from by simp [upd, e20, e21, e15])]; first | rfl | simp [go_sem]) fun Fr6 => ?_
                      refine lyp Fr6 rfl HCC rfl (by omega) (wanted_none rfl) (v := Value.int .i64 ((k : Int) + 1)) (fun wr hwr => by simp only [execOp, (Fr6.eval 137 (by omega)).trans (show _ = Value.int .i64 (k : Int) from by simp [upd, e20, e21, e15])]; simp [go_sem, Act.eval, show IntKind.i64.wrap ((k : Int) + 1) = (k : Int) + 1 from by rw [IntKind.wrap_i64]; omega]) fun Fr7 => ?_
                      refine lyp Fr7 rfl HCC rfl (by omega) (wanted_none rfl) (v := Value.bool false) (fun wr hwr => by simp only [execOp, (Fr7.eval 136 (by omega)).trans (show _ = Value.int .i64 ((k : Int) + 1) from by simp [upd, e20, e21, e15]), (Fr7.eval 138 (by omega)).trans (show _ = Value.int .i64 ((k : Int) + 1) from by simp [upd, e20, e21, e15])]; simp [go_sem, Act.eval]) fun Fr8 => ?_
                      refine lyp Fr8 rfl HCC rfl (by omega) (wanted_none rfl) (v := Value.bool false) (fun wr hwr => by simp only [execOp, (Fr8.eval 139 (by omega)).trans (show _ = Value.bool false from by simp [upd, e20, e21, e15])]; first | rfl | simp [go_sem]) fun Fr9 => ?_
                      refine lyp Fr9 rfl HCC rfl (by omega) (want_yes Fr9 rfl (e := 140) rfl (by omega) (show _ = Value.bool false from by simp [upd, e20, e21, e15])) (v := Value.slice (some ⟨g, 0, none⟩) kn gc) (fun wr hwr => by simp only [execOp, (Fr9.eval 20 (by omega)).trans (show _ = Value.slice (some ⟨g, 0, none⟩) kn gc from by simp [upd, e20, e21, e15])]; first | rfl | simp [go_sem]) fun Fr10 => ?_
                      refine lyp Fr10 rfl HCC rfl (by omega) (want_yes Fr10 rfl (e := 140) rfl (by omega) (show _ = Value.bool false from by simp [upd, e20, e21, e15])) (v := Value.int .i64 (k : Int)) (fun wr hwr => by simp only [execOp, (Fr10.eval 21 (by omega)).trans (show _ = Value.int .i64 (k : Int) from by simp [upd, e20, e21, e15])]; first | rfl | simp [go_sem]) fun Fr11 => ?_
                      refine lyp Fr11 rfl HCC rfl (by omega) (want_yes Fr11 rfl (e := 140) rfl (by omega) (show _ = Value.bool false from by simp [upd, e20, e21, e15])) (v := Value.pointer (some ⟨g, k * 5, none⟩)) (fun wr hwr => by simp only [execOp, (Fr11.eval 141 (by omega)).trans (show _ = Value.slice (some ⟨g, 0, none⟩) kn gc from by simp [upd, e20, e21, e15]), (Fr11.eval 142 (by omega)).trans (show _ = Value.int .i64 (k : Int) from by simp [upd, e20, e21, e15])]; simp only [Sem.run_bind, Sem.run_pure, Result.andThen_ok, idx_run 33 45 5 Try.underlying33 (by kernel_rfl) _ g 0 kn gc k hkl, Nat.zero_add, Nat.mul_one]; try rfl) fun Fr12 => ?_
                      refine lyp Fr12 rfl HCC rfl (by omega) (want_yes Fr12 rfl (e := 140) rfl (by omega) (show _ = Value.bool false from by simp [upd, e20, e21, e15])) (v := Value.pointer (some ⟨g, k * 5 + 3, none⟩)) (fun wr hwr => by simp only [execOp, (Fr12.eval 143 (by omega)).trans (show _ = Value.pointer (some ⟨g, k * 5, none⟩) from by simp [upd, e20, e21, e15])]; simp [go_sem]) fun Fr13 => ?_
                      refine lyp Fr13 rfl HCC rfl (by omega) (want_yes Fr13 rfl (e := 140) rfl (by omega) (show _ = Value.bool false from by simp [upd, e20, e21, e15])) (v := Value.int .i64 0) (fun wr hwr => by simp only [execOp, (Fr13.eval 144 (by omega)).trans (show _ = Value.pointer (some ⟨g, k * 5 + 3, none⟩) from by simp [upd, e20, e21, e15])]; simp [go_sem, VA wr hwr]) fun Fr14 => ?_
                      refine lyp Fr14 rfl HCC rfl (by omega) (want_yes Fr14 rfl (e := 140) rfl (by omega) (show _ = Value.bool false from by simp [upd, e20, e21, e15])) (v := Value.bool false) (fun wr hwr => by simp only [execOp, (Fr14.eval 145 (by omega)).trans (show _ = Value.int .i64 0 from by simp [upd, e20, e21, e15])]; simp [go_sem, Act.eval]) fun Fr15 => ?_
                      refine lyp Fr15 rfl HCC rfl (by omega) (wanted_none rfl) (v := Value.bool false) (fun wr hwr => by simp only [execOp, (Fr15.eval 140 (by omega)).trans (show _ = Value.bool false from by simp [upd, e20, e21, e15]), (Fr15.eval 146 (by omega)).trans (show _ = Value.bool false from by simp [upd, e20, e21, e15])]; simp [go_sem, Act.eval]) fun Fr16 => ?_
                      refine lyp Fr16 rfl HCC rfl (by omega) (wanted_none rfl) (v := Value.bool false) (fun wr hwr => by simp only [execOp, (Fr16.eval 147 (by omega)).trans (show _ = Value.bool false from by simp [upd, e20, e21, e15])]; first | rfl | simp [go_sem]) fun Fr17 => ?_
                      refine lyp Fr17 rfl HCC rfl (by omega) (want_yes Fr17 rfl (e := 148) rfl (by omega) (show _ = Value.bool false from by simp [upd, e20, e21, e15])) (v := Value.slice (some ⟨g, 0, none⟩) kn gc) (fun wr hwr => by simp only [execOp, (Fr17.eval 20 (by omega)).trans (show _ = Value.slice (some ⟨g, 0, none⟩) kn gc from by simp [upd, e20, e21, e15])]; first | rfl | simp [go_sem]) fun Fr18 => ?_
                      refine lyp Fr18 rfl HCC rfl (by omega) (want_yes Fr18 rfl (e := 148) rfl (by omega) (show _ = Value.bool false from by simp [upd, e20, e21, e15])) (v := Value.int .i64 (k : Int)) (fun wr hwr => by simp only [execOp, (Fr18.eval 21 (by omega)).trans (show _ = Value.int .i64 (k : Int) from by simp [upd, e20, e21, e15])]; first | rfl | simp [go_sem]) fun Fr19 => ?_
                      refine lyp Fr19 rfl HCC rfl (by omega) (want_yes Fr19 rfl (e := 148) rfl (by omega) (show _ = Value.bool false from by simp [upd, e20, e21, e15])) (v := Value.pointer (some ⟨g, k * 5, none⟩)) (fun wr hwr => by simp only [execOp, (Fr19.eval 149 (by omega)).trans (show _ = Value.slice (some ⟨g, 0, none⟩) kn gc from by simp [upd, e20, e21, e15]), (Fr19.eval 150 (by omega)).trans (show _ = Value.int .i64 (k : Int) from by simp [upd, e20, e21, e15])]; simp only [Sem.run_bind, Sem.run_pure, Result.andThen_ok, idx_run 33 45 5 Try.underlying33 (by kernel_rfl) _ g 0 kn gc k hkl, Nat.zero_add, Nat.mul_one]; try rfl) fun Fr20 => ?_
                      refine lyp Fr20 rfl HCC rfl (by omega) (want_yes Fr20 rfl (e := 148) rfl (by omega) (show _ = Value.bool false from by simp [upd, e20, e21, e15])) (v := Value.pointer (some ⟨g, k * 5, none⟩)) (fun wr hwr => by simp only [execOp, (Fr20.eval 151 (by omega)).trans (show _ = Value.pointer (some ⟨g, k * 5, none⟩) from by simp [upd, e20, e21, e15])]; simp [go_sem]) fun Fr21 => ?_
                      refine lyp Fr21 rfl HCC rfl (by omega) (want_yes Fr21 rfl (e := 148) rfl (by omega) (show _ = Value.bool false from by simp [upd, e20, e21, e15])) (v := Value.int .i64 3) (fun wr hwr => by simp only [execOp, (Fr21.eval 152 (by omega)).trans (show _ = Value.pointer (some ⟨g, k * 5, none⟩) from by simp [upd, e20, e21, e15])]; simp [go_sem, VF wr hwr]) fun Fr22 => ?_
                      refine lyp Fr22 rfl HCC rfl (by omega) (want_yes Fr22 rfl (e := 148) rfl (by omega) (show _ = Value.bool false from by simp [upd, e20, e21, e15])) (v := Value.bool false) (fun wr hwr => by simp only [execOp, (Fr22.eval 153 (by omega)).trans (show _ = Value.int .i64 3 from by simp [upd, e20, e21, e15])]; simp [go_sem, Act.eval]) fun Fr23 => ?_
                      refine lyp Fr23 rfl HCC rfl (by omega) (wanted_none rfl) (v := Value.bool false) (fun wr hwr => by simp only [execOp, (Fr23.eval 148 (by omega)).trans (show _ = Value.bool false from by simp [upd, e20, e21, e15]), (Fr23.eval 154 (by omega)).trans (show _ = Value.bool false from by simp [upd, e20, e21, e15])]; simp [go_sem, Act.eval]) fun Fr24 => ?_
                      refine lyp Fr24 rfl HCC rfl (by omega) (wanted_none rfl) (v := Value.bool false) (fun wr hwr => by simp only [execOp, (Fr24.eval 155 (by omega)).trans (show _ = Value.bool false from by simp [upd, e20, e21, e15])]; first | rfl | simp [go_sem]) fun Fr25 => ?_
                      refine lyp Fr25 rfl HCC rfl (by omega) (want_yes Fr25 rfl (e := 156) rfl (by omega) (show _ = Value.bool false from by simp [upd, e20, e21, e15])) (v := Value.slice (some ⟨g, 0, none⟩) kn gc) (fun wr hwr => by simp only [execOp, (Fr25.eval 20 (by omega)).trans (show _ = Value.slice (some ⟨g, 0, none⟩) kn gc from by simp [upd, e20, e21, e15])]; first | rfl | simp [go_sem]) fun Fr26 => ?_
                      refine lyp Fr26 rfl HCC rfl (by omega) (want_yes Fr26 rfl (e := 156) rfl (by omega) (show _ = Value.bool false from by simp [upd, e20, e21, e15])) (v := Value.int .i64 (k : Int)) (fun wr hwr => by simp only [execOp, (Fr26.eval 21 (by omega)).trans (show _ = Value.int .i64 (k : Int) from by simp [upd, e20, e21, e15])]; first | rfl | simp [go_sem]) fun Fr27 => ?_
                      refine lyp Fr27 rfl HCC rfl (by omega) (want_yes Fr27 rfl (e := 156) rfl (by omega) (show _ = Value.bool false from by simp [upd, e20, e21, e15])) (v := Value.pointer (some ⟨g, k * 5, none⟩)) (fun wr hwr => by simp only [execOp, (Fr27.eval 157 (by omega)).trans (show _ = Value.slice (some ⟨g, 0, none⟩) kn gc from by simp [upd, e20, e21, e15]), (Fr27.eval 158 (by omega)).trans (show _ = Value.int .i64 (k : Int) from by simp [upd, e20, e21, e15])]; simp only [Sem.run_bind, Sem.run_pure, Result.andThen_ok, idx_run 33 45 5 Try.underlying33 (by kernel_rfl) _ g 0 kn gc k hkl, Nat.zero_add, Nat.mul_one]; try rfl) fun Fr28 => ?_
                      refine lyp Fr28 rfl HCC rfl (by omega) (want_yes Fr28 rfl (e := 156) rfl (by omega) (show _ = Value.bool false from by simp [upd, e20, e21, e15])) (v := Value.pointer (some ⟨g, k * 5 + 1, none⟩)) (fun wr hwr => by simp only [execOp, (Fr28.eval 159 (by omega)).trans (show _ = Value.pointer (some ⟨g, k * 5, none⟩) from by simp [upd, e20, e21, e15])]; simp [go_sem]) fun Fr29 => ?_
                      refine lyp Fr29 rfl HCC rfl (by omega) (want_yes Fr29 rfl (e := 156) rfl (by omega) (show _ = Value.bool false from by simp [upd, e20, e21, e15])) (v := Value.int .i64 5) (fun wr hwr => by simp only [execOp, (Fr29.eval 160 (by omega)).trans (show _ = Value.pointer (some ⟨g, k * 5 + 1, none⟩) from by simp [upd, e20, e21, e15])]; simp [go_sem, VT wr hwr]) fun Fr30 => ?_
                      refine lyp Fr30 rfl HCC rfl (by omega) (want_yes Fr30 rfl (e := 156) rfl (by omega) (show _ = Value.bool false from by simp [upd, e20, e21, e15])) (v := Value.bool false) (fun wr hwr => by simp only [execOp, (Fr30.eval 161 (by omega)).trans (show _ = Value.int .i64 5 from by simp [upd, e20, e21, e15])]; simp [go_sem, Act.eval]) fun Fr31 => ?_
                      refine lyp Fr31 rfl HCC rfl (by omega) (wanted_none rfl) (v := Value.bool false) (fun wr hwr => by simp only [execOp, (Fr31.eval 156 (by omega)).trans (show _ = Value.bool false from by simp [upd, e20, e21, e15]), (Fr31.eval 162 (by omega)).trans (show _ = Value.bool false from by simp [upd, e20, e21, e15])]; simp [go_sem, Act.eval]) fun Fr32 => ?_
                      refine lyp Fr32 rfl HCC rfl (by omega) (wanted_none rfl) (v := Value.bool false) (fun wr hwr => by simp only [execOp, (Fr32.eval 163 (by omega)).trans (show _ = Value.bool false from by simp [upd, e20, e21, e15])]; first | rfl | simp [go_sem]) fun Fr33 => ?_
                      refine lyp Fr33 rfl HCC rfl (by omega) (want_yes Fr33 rfl (e := 164) rfl (by omega) (show _ = Value.bool false from by simp [upd, e20, e21, e15])) (v := Value.slice (some ⟨g, 0, none⟩) kn gc) (fun wr hwr => by simp only [execOp, (Fr33.eval 20 (by omega)).trans (show _ = Value.slice (some ⟨g, 0, none⟩) kn gc from by simp [upd, e20, e21, e15])]; first | rfl | simp [go_sem]) fun Fr34 => ?_
                      refine lyp Fr34 rfl HCC rfl (by omega) (want_yes Fr34 rfl (e := 164) rfl (by omega) (show _ = Value.bool false from by simp [upd, e20, e21, e15])) (v := Value.int .i64 (k : Int)) (fun wr hwr => by simp only [execOp, (Fr34.eval 21 (by omega)).trans (show _ = Value.int .i64 (k : Int) from by simp [upd, e20, e21, e15])]; first | rfl | simp [go_sem]) fun Fr35 => ?_
                      refine lyp Fr35 rfl HCC rfl (by omega) (want_yes Fr35 rfl (e := 164) rfl (by omega) (show _ = Value.bool false from by simp [upd, e20, e21, e15])) (v := Value.pointer (some ⟨g, k * 5, none⟩)) (fun wr hwr => by simp only [execOp, (Fr35.eval 165 (by omega)).trans (show _ = Value.slice (some ⟨g, 0, none⟩) kn gc from by simp [upd, e20, e21, e15]), (Fr35.eval 166 (by omega)).trans (show _ = Value.int .i64 (k : Int) from by simp [upd, e20, e21, e15])]; simp only [Sem.run_bind, Sem.run_pure, Result.andThen_ok, idx_run 33 45 5 Try.underlying33 (by kernel_rfl) _ g 0 kn gc k hkl, Nat.zero_add, Nat.mul_one]; try rfl) fun Fr36 => ?_
                      refine lyp Fr36 rfl HCC rfl (by omega) (want_yes Fr36 rfl (e := 164) rfl (by omega) (show _ = Value.bool false from by simp [upd, e20, e21, e15])) (v := Value.pointer (some ⟨g, k * 5 + 4, none⟩)) (fun wr hwr => by simp only [execOp, (Fr36.eval 167 (by omega)).trans (show _ = Value.pointer (some ⟨g, k * 5, none⟩) from by simp [upd, e20, e21, e15])]; simp [go_sem]) fun Fr37 => ?_
                      refine lyp Fr37 rfl HCC rfl (by omega) (want_yes Fr37 rfl (e := 164) rfl (by omega) (show _ = Value.bool false from by simp [upd, e20, e21, e15])) (v := sg.d.v) (fun wr hwr => by simp only [execOp, (Fr37.eval 168 (by omega)).trans (show _ = Value.pointer (some ⟨g, k * 5 + 4, none⟩) from by simp [upd, e20, e21, e15])]; simp [go_sem, VD wr hwr]) fun Fr38 => ?_
                      refine lyp Fr38 rfl HCC rfl (by omega) (want_yes Fr38 rfl (e := 164) rfl (by omega) (show _ = Value.bool false from by simp [upd, e20, e21, e15])) (v := Value.slice (some ⟨wg, 0, none⟩) kn vdc) (fun wr hwr => by simp only [execOp, (Fr38.eval 15 (by omega)).trans (show _ = Value.slice (some ⟨wg, 0, none⟩) kn vdc from by simp [upd, e20, e21, e15])]; first | rfl | simp [go_sem]) fun Fr39 => ?_
                      refine lyp Fr39 rfl HCC rfl (by omega) (want_yes Fr39 rfl (e := 164) rfl (by omega) (show _ = Value.bool false from by simp [upd, e20, e21, e15])) (v := Value.int .i64 (k : Int)) (fun wr hwr => by simp only [execOp, (Fr39.eval 21 (by omega)).trans (show _ = Value.int .i64 (k : Int) from by simp [upd, e20, e21, e15])]; first | rfl | simp [go_sem]) fun Fr40 => ?_
                      refine lyp Fr40 rfl HCC rfl (by omega) (want_yes Fr40 rfl (e := 164) rfl (by omega) (show _ = Value.bool false from by simp [upd, e20, e21, e15])) (v := Value.pointer (some ⟨wg, k, none⟩)) (fun wr hwr => by simp only [execOp, (Fr40.eval 170 (by omega)).trans (show _ = Value.slice (some ⟨wg, 0, none⟩) kn vdc from by simp [upd, e20, e21, e15]), (Fr40.eval 171 (by omega)).trans (show _ = Value.int .i64 (k : Int) from by simp [upd, e20, e21, e15])]; simp only [Sem.run_bind, Sem.run_pure, Result.andThen_ok, idx_run 36 41 1 Try.underlying36 (by kernel_rfl) _ wg 0 kn vdc k hkl, Nat.zero_add, Nat.mul_one]; try rfl) fun Fr41 => ?_
                      refine lyp Fr41 rfl HCC rfl (by omega) (want_yes Fr41 rfl (e := 164) rfl (by omega) (show _ = Value.bool false from by simp [upd, e20, e21, e15])) (v := kd.v) (fun wr hwr => by simp only [execOp, (Fr41.eval 172 (by omega)).trans (show _ = Value.pointer (some ⟨wg, k, none⟩) from by simp [upd, e20, e21, e15])]; simp [go_sem, VK wr hwr]) fun Fr42 => ?_
                      refine lcp Fr42 rfl HCC rfl (by omega) (want_yes Fr42 rfl (e := 164) rfl (by omega) (show _ = Value.bool false from by simp [upd, e20, e21, e15])) (g := 20) (args := #[sg.d.v, kd.v]) (by simp only [execOp, resolve, invoke, List.map_toArray, List.map_cons, List.map_nil, (Fr42.eval 169 (by omega)).trans (show _ = sg.d.v from by simp [upd, e20, e21, e15]), (Fr42.eval 173 (by omega)).trans (show _ = kd.v from by simp [upd, e20, e21, e15])]; simp [go_sem, Act.eval]) HSM.out ?_
                      rintro e w2 ⟨rfl, rfl⟩
                      refine ⟨_, rfl, fun Fr43 => ?_⟩
                      refine lyp Fr43 rfl HCC rfl (by omega) (want_yes Fr43 rfl (e := 164) rfl (by omega) (show _ = Value.bool false from by simp [upd, e20, e21, e15])) (v := Value.bool false) (fun wr hwr => by simp only [execOp, (Fr43.eval 174 (by omega)).trans (show _ = Value.bool true from by simp [upd, e20, e21, e15])]; simp [go_sem, Act.eval]) fun Fr44 => ?_
                      refine lyp Fr44 rfl HCC rfl (by omega) (wanted_none rfl) (v := Value.bool false) (fun wr hwr => by simp only [execOp, (Fr44.eval 164 (by omega)).trans (show _ = Value.bool false from by simp [upd, e20, e21, e15]), (Fr44.eval 175 (by omega)).trans (show _ = Value.bool false from by simp [upd, e20, e21, e15])]; simp [go_sem, Act.eval]) fun Fr45 => ?_
                      refine ⟨fun _ => HCC, ?_⟩
                      refine hK _ _ ?_
                      clear F0 Fr1 Fr2 Fr3 Fr4 Fr5 Fr6 Fr7 Fr8 Fr9 Fr10 Fr11 Fr12 Fr13 Fr14 Fr15 Fr16 Fr17 Fr18 Fr19 Fr20 Fr21 Fr22 Fr23 Fr24 Fr25 Fr26 Fr27 Fr28 Fr29 Fr30 Fr31 Fr32 Fr33 Fr34 Fr35 Fr36 Fr37 Fr38 Fr39 Fr40 Fr41 Fr42 Fr43 Fr44 Fr45 e20 e21 e15 HCC
                      simp only [Act.put, List.setIfInBounds_toArray, List.set_cons_succ, List.set_cons_zero]
                      go_wp2_with fail
                      go_roundw
                      case rel => exact ⟨k + 1, by omega, by go_num, q + 1, rfl⟩
                      case measure => simp [intOf]; omega
                    · go_wp2_with fail
                      go_roundw
                      case rel => exact ⟨i + 1, by omega, by omega, by go_num, _, uv6, (fun h => by rw [if_pos h]), (fun h => by rw [if_neg (by omega), HRE.out]), HU6.out.more (below_drewN (Below.refl _ _) q)⟩
                      case measure => simp [intOf]; omega
                · rw [decide_eq_false hc, if_neg (by decide)] at hl6
                  obtain rfl : l6 = [] := List.map_eq_nil_iff.1 hl6
                  obtain ⟨vo6, vc6, hv6, _⟩ := own_slice hSL6.r
                  subst hv6
                  clear hl6 hSL6
                  have HRE : Hid (((i + 1 - 1) % n : Nat) = i % n) := by simp [Hid]
                  by_cases hr : i % n = 0
                  · have hk0 : kn < 1 := by have := HKB.out; omega
                    have hrm0 : (i : Int).tmod (n : Int) = 0 := by rw [hrm, hr]; rfl
                    clear hrm hr hc
                    go_wp2_with fail
                    go_roundw
                    case rel => exact ⟨i + 1, by omega, by omega, by go_num, _, uv6, (fun h => by rw [if_pos h]), (fun h => by rw [if_neg (by omega), HRE.out]), HU6.out⟩
                    case measure => simp [intOf]; omega
                  · have hrm0 : (i : Int).tmod (n : Int) ≠ 0 := by rw [hrm]; omega
                    clear hrm hr hc
                    go_wp2_with fail
                    go_roundw
                    case rel => exact ⟨i + 1, by omega, by omega, by go_num, _, uv6, (fun h => by rw [if_pos h]), (fun h => by rw [if_neg (by omega), HRE.out]), HU6.out⟩
                    case measure => simp [intOf]; omega
              · obtain rfl : i = tk + 1 := by omega
                go_wp2_with fail
                refine Calls.mono (under_any _ HU.out.lm (by simp [stU, fresh]) (by simp [stU, fresh]) (by have := HBL.out; have := HKN.out; simp [stU, fresh]; omega) (by simp [stU, fresh]; exact HDS.out)) ?_
                rintro e w5 ⟨v5, l5, rfl, hl5, hSL5, hb5⟩
                have hll : l5.length = kn := by
                  have := congrArg List.length hl5
                  rw [List.length_map, tell_len, List.length_map] at this
                  have h1 := HBL.out
                  have h2 := HKN.out
                  have h3 : (stU wn n a Bx).under.length = Bx.length := rfl
                  omega
                obtain ⟨vo5, vc5, hv5, _⟩ := own_slice hSL5.r
                rw [hll] at hv5
                subst hv5
                have HB5 : Hid (Below W.heap.size W w5) := show Below _ _ _ from HU.out.bl.trans (hb5.mono HU.out.bl.size)
                clear hl5 hSL5 hb5 hll HU HTI HAB
                go_wp2_with fail
                go_ret
                exact ⟨rfl, HB5.out⟩
        · go_wp2_with fail
          have hBl : Bx.length = KK.length := by simpa using congrArg List.length HQ.out.sm
          have hds : ∀ d ∈ Bx, d.s.length ≤ 1000000 := fun d hd => by
            have h1 : d.s ∈ KK.map Dv.s := by rw [← HQ.out.sm]; exact List.mem_map_of_mem hd
            obtain ⟨k, hk, e⟩ := List.mem_map.1 h1
            have := (HKO.out k hk).2
            rw [← e]
            omega
          have HDS : Hid (∀ d ∈ Bx, d.s.length ≤ 1000000) := hds
          have hKs : KK.length ≤ 16 := by omega
          refine Calls.mono (out_any wr HQ.out.lm (by simp [stB, fresh]) (by simp [stB, fresh]) (by simp [stB, fresh]) (by simp [stB, fresh]; omega) (by simp [stB, fresh, LV.all]; exact hds)) ?_
          rintro e w4 ⟨v, uv4, l, rfl, hl, hSL, hM4, hs4, hdj4⟩
          rw [stB_tells] at hl
          have hll : l.length = KK.length := by
            have := congrArg List.length hl
            rw [List.length_map, tell_len, List.length_map] at this
            omega
          rw [stB_out] at hM4 hs4
          have HU4 : Hid _ := HQ.out.su.step hM4 hs4
          obtain ⟨vo, vc, hv, _⟩ := own_slice hSL.r
          rw [hll] at hv
          subst hv
          obtain ⟨vdo, vdc, hvd, _⟩ := own_slice HU4.out.r
          have HBL : Hid (Bx.length = KK.length) := hBl
          obtain ⟨kn, hkn⟩ : ∃ kn, kn = KK.length := ⟨_, rfl⟩
          have HKN : Hid (kn = KK.length) := hkn
          rw [← hkn] at hvd hKs ⊢
          subst hvd
          clear hl hSL hM4 hs4 hdj4 hll hBl hkn HQ hds hKl hi hiw hM
          go_wp2_with fail
          go_loopw [19, 20, 21] (fun s19 _ _ wr => ∃ i : Nat, 1 ≤ i ∧ i ≤ tk + 1 ∧ s19 = .int .i64 (i : Int) ∧ ∃ a uv, (Bx.length = 0 → a = 0) ∧ (0 < Bx.length → a = (((i - 1) % n : Nat) : Int)) ∧ SU W lb cb mb (stU wn n a Bx) KK Bx uv (.slice vdo kn vdc) wr) (fun s19 _ _ _ => tk + 1 - (intOf s19).toNat)
          case atStart => exact ⟨1, by omega, by omega, rfl, 0, _, (fun _ => rfl), (fun _ => by simp), HU4.out⟩
          case round =>
            clear HU4
            obtain ⟨i, hi1, hi2, rfl, a, uv, ha0, ha1, hU⟩ := hrel
            have HU : Hid _ := hU
            have HTI : Hid _ := stU_tick wn n i Bx a hn1 hi1 ha0 ha1
            have hab : 0 ≤ a ∧ a ≤ 1000 := by
              by_cases h : Bx.length = 0
              · rw [ha0 h]; omega
              · rw [ha1 (by omega)]
                have := Nat.mod_lt (i - 1) (show 0 < n by omega)
                omega
            have HAB : Hid (0 ≤ a ∧ a ≤ 1000) := hab
            clear hU ha0 ha1 hab
            go_wp2_with fail
            refine Calls.mono (HW3.out _) ?_
            rintro e w5' ⟨rfl, hw5'⟩
            replace hw5' := hw5'.symm
            subst hw5'
            by_cases hit : i ≤ tk
            · go_wp2_with fail
              refine Calls.mono (tick_any _ HU.out.lm HAB.out) ?_
              rintro e w5 ⟨rfl, hM5, hs5⟩
              rw [HTI.out] at hM5 hs5
              have HU5 : Hid _ := HU.out.step hM5 hs5
              clear hM5 hs5 HU HAB HTI
              go_wp2_with fail
              refine Calls.mono (out_any _ HU5.out.lm (by simp [stD, fresh]) (by simp [stD, fresh]) (by have := HBL.out; simp [stD, fresh]; have := HKN.out; omega) (by simp [stD, fresh]) (by simp [stD, fresh, LV.all]; exact HDS.out)) ?_
              rintro e w6 ⟨v6, uv6, l6, rfl, hl6, hSL6, hM6, hs6, hdj6⟩
              rw [stD_tells] at hl6
              rw [stD_out _ _ _ _ _ (fun h => by rw [if_pos h])] at hM6 hs6
              have HU6 : Hid _ := HU5.out.step hM6 hs6
              clear hM6 hs6 hdj6 HU5
              have hrm : (i : Int).tmod (n : Int) = ((i % n : Nat) : Int) := by rw [Int.tmod_eq_emod_of_nonneg (by omega)]; simp
              have HKB : Hid (kn = Bx.length) := show _ = _ from by rw [HBL.out]; exact HKN.out
              by_cases hc : 0 < Bx.length ∧ i % n = 0
              · rw [decide_eq_true hc, if_pos rfl] at hl6
                have hln : l6.length = kn := by
                  have := congrArg List.length hl6
                  rw [List.length_map, tell_len, List.length_map] at this
                  have h1 := HBL.out
                  have h2 := HKN.out
                  omega
                have hk0 : 0 < kn := by have := HKB.out; omega
                have hrm0 : (i : Int).tmod (n : Int) = 0 := by rw [hrm, hc.2]; rfl
                obtain ⟨go, gc, hv6, _, _, hrd⟩ := own_read hSL6.r
                obtain ⟨g, hgo, _, hg2, hcl⟩ := hrd (by rw [hln]; exact hk0)
                rw [hln, hgo] at hv6
                obtain ⟨wo, wc, hvw, _, _, hrdw⟩ := own_read HU6.out.r
                obtain ⟨wg, hwo, _, hwg2, hclw⟩ := hrdw (by rw [← HKN.out]; exact hk0)
                have evd := (Value.slice.inj hvw).1
                rw [hwo] at evd
                have HCL : Hid (∀ j u, (flatG l6)[j]? = some u → w6.cell? ⟨g, j, none⟩ = some u) := hcl
                have HCLW : Hid (∀ j u, (KK.map Dv.v)[j]? = some u → w6.cell? ⟨wg, j, none⟩ = some u) := hclw
                have HG : Hid (g < w6.heap.size ∧ wg < w6.heap.size) := ⟨hg2, hwg2⟩
                have HL6 : Hid (l6.map Sgm.pr = tell 3 5 0 1 (Bx.map Dv.s)) := hl6
                have HSL6 : Hid (SL _ _ l6 w6) := hSL6
                have HLN : Hid (l6.length = kn) := hln
                have HRE : Hid (((i + 1 - 1) % n : Nat) = i % n) := by simp [Hid]
                subst hv6
                clear hvw hrd hrdw hwo hgo hcl hclw hg2 hwg2 hl6 hSL6 hln hrm hc
                subst evd
                go_wp2_with fail
                go_loopw [21] (fun s21 wr => ∃ k : Nat, k ≤ kn ∧ s21 = .int .i64 (k : Int) ∧ ∃ q, wr = w6.drewN q) (fun s21 _ => kn - (intOf s21).toNat)
                case atStart => exact ⟨0, by omega, rfl, 0, rfl⟩
                case round =>
                  obtain ⟨k, hk, rfl, q, rfl⟩ := hrel
                  by_cases hkl : k < kn
                  · obtain ⟨kd, hkd⟩ : ∃ kd, KK[k]? = some kd := ⟨KK[k]'(by rw [← HKN.out]; exact hkl), List.getElem?_eq_getElem _⟩
                    obtain ⟨sg, hsg⟩ : ∃ sg, l6[k]? = some sg := ⟨l6[k]'(by rw [HLN.out]; exact hkl), List.getElem?_eq_getElem _⟩
                    have hpr : sg.pr = (3, 5, 1 + (k : Int), 0, kd.s) := by
                      have h1 : (l6.map Sgm.pr)[k]? = some sg.pr := by rw [List.getElem?_map, hsg]; rfl
                      rw [HL6.out, HU6.out.sm, tell_at 3 5 0 1 (KK.map Dv.s) k kd.s (by rw [List.getElem?_map, hkd]; rfl)] at h1
                      exact (Option.some.inj h1).symm
                    simp only [Sgm.pr, Prod.mk.injEq] at hpr
                    obtain ⟨p1, p2, p3, p4, p5⟩ := hpr
                    rw [Int.add_comm] at p3
                    have hfl : ∀ f u, f < 5 → sg.row[f]? = some u → w6.cell? ⟨g, k * 5 + f, none⟩ = some u := fun f u hf hu => HCL.out _ _ (by rw [flatG, flat_at Sgm.row 5 (fun _ => rfl) l6 k f sg hsg hf]; exact hu)
                    have VF : ∀ wz, Below w6.heap.size w6 wz → wz.cell? ⟨g, k * 5, none⟩ = some (.int .i64 3) := fun wz hb => (hb.cell (p := ⟨g, k * 5, none⟩) HG.out.1).trans (hfl 0 _ (by omega) (by rw [← p1]; rfl))
                    have VT : ∀ wz, Below w6.heap.size w6 wz → wz.cell? ⟨g, k * 5 + 1, none⟩ = some (.int .i64 5) := fun wz hb => (hb.cell (p := ⟨g, k * 5 + 1, none⟩) HG.out.1).trans (hfl 1 _ (by omega) (by rw [← p2]; rfl))
                    have VQ : ∀ wz, Below w6.heap.size w6 wz → wz.cell? ⟨g, k * 5 + 2, none⟩ = some (.int .i64 ((k : Int) + 1)) := fun wz hb => (hb.cell (p := ⟨g, k * 5 + 2, none⟩) HG.out.1).trans (hfl 2 _ (by omega) (by rw [← p3]; rfl))
                    have VA : ∀ wz, Below w6.heap.size w6 wz → wz.cell? ⟨g, k * 5 + 3, none⟩ = some (.int .i64 0) := fun wz hb => (hb.cell (p := ⟨g, k * 5 + 3, none⟩) HG.out.1).trans (hfl 3 _ (by omega) (by rw [← p4]; rfl))
                    have VD : ∀ wz, Below w6.heap.size w6 wz → wz.cell? ⟨g, k * 5 + 4, none⟩ = some sg.d.v := fun wz hb => (hb.cell (p := ⟨g, k * 5 + 4, none⟩) HG.out.1).trans (hfl 4 _ (by omega) rfl)
                    have VK : ∀ wz, Below w6.heap.size w6 wz → wz.cell? ⟨wg, k, none⟩ = some kd.v := fun wz hb => (hb.cell (p := ⟨wg, k, none⟩) HG.out.2).trans (HCLW.out k _ (by rw [List.getElem?_map, hkd]; rfl))
                    have hby1 : By (w6.drewN q).drew sg.d.v kd.s := by
                      obtain ⟨do_, dc, e1, hc1, _, e3⟩ := own_read (HSL6.out.d sg (List.mem_of_getElem? hsg))
                      refine ⟨do_, _, dc, e1, by rw [← p5], ?_, ?_⟩
                      · intro e
                        have hz : ¬ 0 < sg.d.s.length := fun h => by
                          obtain ⟨x, e4, _⟩ := e3 h
                          rw [e] at e4
                          cases e4
                        rcases (HSL6.out.d sg (List.mem_of_getElem? hsg)).2 with ⟨a1, a2⟩ | ⟨y, cap, cur, a1, _⟩
                        · rw [e1] at a1
                          exact ⟨by omega, (Value.slice.inj a1).2.2⟩
                        · rw [e1, e] at a1
                          exact absurd (Value.slice.inj a1).1 (by simp)
                      · intro ad e j u hu
                        rw [← p5] at hu
                        have hpos : 0 < sg.d.s.length := by
                          have := (List.getElem?_eq_some_iff.1 hu).1
                          simp at this
                          omega
                        obtain ⟨x, e4, _, hx, hcl⟩ := e3 hpos
                        rw [e4] at e
                        cases e
                        rw [addr_add, Nat.zero_add]
                        exact hcl j u hu
                    have hby2 : By (w6.drewN q).drew kd.v kd.s := (HKO.out kd (List.mem_of_getElem? hkd)).1.keep (show Below _ _ _ from ⟨HU6.out.bl.os, HU6.out.bl.tape, HU6.out.bl.output, HU6.out.bl.size, HU6.out.bl.block⟩)
                    have HSM : Hid (Calls Try.prog 20 #[sg.d.v, kd.v] (w6.drewN q).drew fun e w' => e = .returned (.bool true) ∧ w' = (w6.drewN q).drew) := (same_any (w6.drewN q).drew hby1 hby2).mono (by rintro e w' ⟨rfl, rfl⟩; simp)
                    have HBW : Hid (Below w6.heap.size w6 (w6.drewN q).drew) := show Below _ _ _ from below_drewN (Below.refl _ _) (q + 1)
                    clear hby1 hby2 p1 p2 p3 p4 p5 hfl hkd hsg
                    go_wp2_with fail
                    rename_i K hK
                    try rw [show ∀ a : Act, a.put none undef = a from fun _ => rfl]
                    refine wp_region_mix (fun wz => Below w6.heap.size w6 wz) (fun i => i == 42 || i == 99) 99 (by kernel_rfl) rfl (by kernel_rfl) (by kernel_rfl) (by kernel_rfl) ?_
                    refine withFrP (N := 183) rfl ?_
                    intro f0 F0 hff
                    have e20 : f0 20 = Value.slice (some ⟨g, 0, none⟩) kn gc := hff 20
                    have e21 : f0 21 = Value.int .i64 (k : Int) := hff 21
                    have e15 : f0 15 = Value.slice (some ⟨wg, 0, none⟩) kn vdc := hff 15
                    clear hff
                    have HCC : (fun wz => Below w6.heap.size w6 wz) (({ (w6.drewN q) with drawn := (w6.drewN q).drawn + 1 } : World)) := HBW.out
                    refine lyp F0 rfl HCC rfl (by omega) (wanted_none rfl) (v := Value.slice (some ⟨g, 0, none⟩) kn gc) (fun wr hwr => by simp only [execOp, (F0.eval 20 (by omega)).trans (show _ = Value.slice (some ⟨g, 0, none⟩) kn gc from by simp [upd, e20, e21, e15])]; first | rfl | simp [go_sem]) fun Fr1 => ?_
                    refine lyp Fr1 rfl HCC rfl (by omega) (wanted_none rfl) (v := Value.int .i64 (k : Int)) (fun wr hwr => by simp only [execOp, (Fr1.eval 21 (by omega)).trans (show _ = Value.int .i64 (k : Int) from by simp [upd, e20, e21, e15])]; first | rfl | simp [go_sem]) fun Fr2 => ?_
                    refine lyp Fr2 rfl HCC rfl (by omega) (wanted_none rfl) (v := Value.pointer (some ⟨g, k * 5, none⟩)) (fun wr hwr => by simp only [execOp, (Fr2.eval 132 (by omega)).trans (show _ = Value.slice (some ⟨g, 0, none⟩) kn gc from by simp [upd, e20, e21, e15]), (Fr2.eval 133 (by omega)).trans (show _ = Value.int .i64 (k : Int) from by simp [upd, e20, e21, e15])]; simp only [Sem.run_bind, Sem.run_pure, Result.andThen_ok, idx_run 33 45 5 Try.underlying33 (by kernel_rfl) _ g 0 kn gc k hkl, Nat.zero_add, Nat.mul_one]; try rfl) fun Fr3 => ?_
                    refine lyp Fr3 rfl HCC rfl (by omega) (wanted_none rfl) (v := Value.pointer (some ⟨g, k * 5 + 2, none⟩)) (fun wr hwr => by simp only [execOp, (Fr3.eval 134 (by omega)).trans (show _ = Value.pointer (some ⟨g, k * 5, none⟩) from by simp [upd, e20, e21, e15])]; simp [go_sem]) fun Fr4 => ?_
                    refine lyp Fr4 rfl HCC rfl (by omega) (wanted_none rfl) (v := Value.int .i64 ((k : Int) + 1)) (fun wr hwr => by simp only [execOp, (Fr4.eval 135 (by omega)).trans (show _ = Value.pointer (some ⟨g, k * 5 + 2, none⟩) from by simp [upd, e20, e21, e15])]; simp [go_sem, VQ wr hwr]) fun Fr5 => ?_
                    refine lyp Fr5 rfl HCC rfl (by omega) (wanted_none rfl) (v := Value.int .i64 (k : Int)) (fun wr hwr => by simp only [execOp, (Fr5.eval 21 (by omega)).trans (show _ = Value.int .i64 (k : Int) from by simp [upd, e20, e21, e15])]; first | rfl | simp [go_sem]) fun Fr6 => ?_
                    refine lyp Fr6 rfl HCC rfl (by omega) (wanted_none rfl) (v := Value.int .i64 ((k : Int) + 1)) (fun wr hwr => by simp only [execOp, (Fr6.eval 137 (by omega)).trans (show _ = Value.int .i64 (k : Int) from by simp [upd, e20, e21, e15])]; simp [go_sem, Act.eval, show IntKind.i64.wrap ((k : Int) + 1) = (k : Int) + 1 from by rw [IntKind.wrap_i64]; omega]) fun Fr7 => ?_
                    refine lyp Fr7 rfl HCC rfl (by omega) (wanted_none rfl) (v := Value.bool false) (fun wr hwr => by simp only [execOp, (Fr7.eval 136 (by omega)).trans (show _ = Value.int .i64 ((k : Int) + 1) from by simp [upd, e20, e21, e15]), (Fr7.eval 138 (by omega)).trans (show _ = Value.int .i64 ((k : Int) + 1) from by simp [upd, e20, e21, e15])]; simp [go_sem, Act.eval]) fun Fr8 => ?_
                    refine lyp Fr8 rfl HCC rfl (by omega) (wanted_none rfl) (v := Value.bool false) (fun wr hwr => by simp only [execOp, (Fr8.eval 139 (by omega)).trans (show _ = Value.bool false from by simp [upd, e20, e21, e15])]; first | rfl | simp [go_sem]) fun Fr9 => ?_
                    refine lyp Fr9 rfl HCC rfl (by omega) (want_yes Fr9 rfl (e := 140) rfl (by omega) (show _ = Value.bool false from by simp [upd, e20, e21, e15])) (v := Value.slice (some ⟨g, 0, none⟩) kn gc) (fun wr hwr => by simp only [execOp, (Fr9.eval 20 (by omega)).trans (show _ = Value.slice (some ⟨g, 0, none⟩) kn gc from by simp [upd, e20, e21, e15])]; first | rfl | simp [go_sem]) fun Fr10 => ?_
                    refine lyp Fr10 rfl HCC rfl (by omega) (want_yes Fr10 rfl (e := 140) rfl (by omega) (show _ = Value.bool false from by simp [upd, e20, e21, e15])) (v := Value.int .i64 (k : Int)) (fun wr hwr => by simp only [execOp, (Fr10.eval 21 (by omega)).trans (show _ = Value.int .i64 (k : Int) from by simp [upd, e20, e21, e15])]; first | rfl | simp [go_sem]) fun Fr11 => ?_
                    refine lyp Fr11 rfl HCC rfl (by omega) (want_yes Fr11 rfl (e := 140) rfl (by omega) (show _ = Value.bool false from by simp [upd, e20, e21, e15])) (v := Value.pointer (some ⟨g, k * 5, none⟩)) (fun wr hwr => by simp only [execOp, (Fr11.eval 141 (by omega)).trans (show _ = Value.slice (some ⟨g, 0, none⟩) kn gc from by simp [upd, e20, e21, e15]), (Fr11.eval 142 (by omega)).trans (show _ = Value.int .i64 (k : Int) from by simp [upd, e20, e21, e15])]; simp only [Sem.run_bind, Sem.run_pure, Result.andThen_ok, idx_run 33 45 5 Try.underlying33 (by kernel_rfl) _ g 0 kn gc k hkl, Nat.zero_add, Nat.mul_one]; try rfl) fun Fr12 => ?_
                    refine lyp Fr12 rfl HCC rfl (by omega) (want_yes Fr12 rfl (e := 140) rfl (by omega) (show _ = Value.bool false from by simp [upd, e20, e21, e15])) (v := Value.pointer (some ⟨g, k * 5 + 3, none⟩)) (fun wr hwr => by simp only [execOp, (Fr12.eval 143 (by omega)).trans (show _ = Value.pointer (some ⟨g, k * 5, none⟩) from by simp [upd, e20, e21, e15])]; simp [go_sem]) fun Fr13 => ?_
                    refine lyp Fr13 rfl HCC rfl (by omega) (want_yes Fr13 rfl (e := 140) rfl (by omega) (show _ = Value.bool false from by simp [upd, e20, e21, e15])) (v := Value.int .i64 0) (fun wr hwr => by simp only [execOp, (Fr13.eval 144 (by omega)).trans (show _ = Value.pointer (some ⟨g, k * 5 + 3, none⟩) from by simp [upd, e20, e21, e15])]; simp [go_sem, VA wr hwr]) fun Fr14 => ?_
                    refine lyp Fr14 rfl HCC rfl (by omega) (want_yes Fr14 rfl (e := 140) rfl (by omega) (show _ = Value.bool false from by simp [upd, e20, e21, e15])) (v := Value.bool false) (fun wr hwr => by simp only [execOp, (Fr14.eval 145 (by omega)).trans (show _ = Value.int .i64 0 from by simp [upd, e20, e21, e15])]; simp [go_sem, Act.eval]) fun Fr15 => ?_
                    refine lyp Fr15 rfl HCC rfl (by omega) (wanted_none rfl) (v := Value.bool false) (fun wr hwr => by simp only [execOp, (Fr15.eval 140 (by omega)).trans (show _ = Value.bool false from by simp [upd, e20, e21, e15]), (Fr15.eval 146 (by omega)).trans (show _ = Value.bool false from by simp [upd, e20, e21, e15])]; simp [go_sem, Act.eval]) fun Fr16 => ?_
                    refine lyp Fr16 rfl HCC rfl (by omega) (wanted_none rfl) (v := Value.bool false) (fun wr hwr => by simp only [execOp, (Fr16.eval 147 (by omega)).trans (show _ = Value.bool false from by simp [upd, e20, e21, e15])]; first | rfl | simp [go_sem]) fun Fr17 => ?_
                    refine lyp Fr17 rfl HCC rfl (by omega) (want_yes Fr17 rfl (e := 148) rfl (by omega) (show _ = Value.bool false from by simp [upd, e20, e21, e15])) (v := Value.slice (some ⟨g, 0, none⟩) kn gc) (fun wr hwr => by simp only [execOp, (Fr17.eval 20 (by omega)).trans (show _ = Value.slice (some ⟨g, 0, none⟩) kn gc from by simp [upd, e20, e21, e15])]; first | rfl | simp [go_sem]) fun Fr18 => ?_
                    refine lyp Fr18 rfl HCC rfl (by omega) (want_yes Fr18 rfl (e := 148) rfl (by omega) (show _ = Value.bool false from by simp [upd, e20, e21, e15])) (v := Value.int .i64 (k : Int)) (fun wr hwr => by simp only [execOp, (Fr18.eval 21 (by omega)).trans (show _ = Value.int .i64 (k : Int) from by simp [upd, e20, e21, e15])]; first | rfl | simp [go_sem]) fun Fr19 => ?_
                    refine lyp Fr19 rfl HCC rfl (by omega) (want_yes Fr19 rfl (e := 148) rfl (by omega) (show _ = Value.bool false from by simp [upd, e20, e21, e15])) (v := Value.pointer (some ⟨g, k * 5, none⟩)) (fun wr hwr => by simp only [execOp, (Fr19.eval 149 (by omega)).trans (show _ = Value.slice (some ⟨g, 0, none⟩) kn gc from by simp [upd, e20, e21, e15]), (Fr19.eval 150 (by omega)).trans (show _ = Value.int .i64 (k : Int) from by simp [upd, e20, e21, e15])]; simp only [Sem.run_bind, Sem.run_pure, Result.andThen_ok, idx_run 33 45 5 Try.underlying33 (by kernel_rfl) _ g 0 kn gc k hkl, Nat.zero_add, Nat.mul_one]; try rfl) fun Fr20 => ?_
                    refine lyp Fr20 rfl HCC rfl (by omega) (want_yes Fr20 rfl (e := 148) rfl (by omega) (show _ = Value.bool false from by simp [upd, e20, e21, e15])) (v := Value.pointer (some ⟨g, k * 5, none⟩)) (fun wr hwr => by simp only [execOp, (Fr20.eval 151 (by omega)).trans (show _ = Value.pointer (some ⟨g, k * 5, none⟩) from by simp [upd, e20, e21, e15])]; simp [go_sem]) fun Fr21 => ?_
                    refine lyp Fr21 rfl HCC rfl (by omega) (want_yes Fr21 rfl (e := 148) rfl (by omega) (show _ = Value.bool false from by simp [upd, e20, e21, e15])) (v := Value.int .i64 3) (fun wr hwr => by simp only [execOp, (Fr21.eval 152 (by omega)).trans (show _ = Value.pointer (some ⟨g, k * 5, none⟩) from by simp [upd, e20, e21, e15])]; simp [go_sem, VF wr hwr]) fun Fr22 => ?_
                    refine lyp Fr22 rfl HCC rfl (by omega) (want_yes Fr22 rfl (e := 148) rfl (by omega) (show _ = Value.bool false from by simp [upd, e20, e21, e15])) (v := Value.bool false) (fun wr hwr => by simp only [execOp, (Fr22.eval 153 (by omega)).trans (show _ = Value.int .i64 3 from by simp [upd, e20, e21, e15])]; simp [go_sem, Act.eval]) fun Fr23 => ?_
                    refine lyp Fr23 rfl HCC rfl (by omega) (wanted_none rfl) (v := Value.bool false) (fun wr hwr => by simp only [execOp, (Fr23.eval 148 (by omega)).trans (show _ = Value.bool false from by simp [upd, e20, e21, e15]), (Fr23.eval 154 (by omega)).trans (show _ = Value.bool false from by simp [upd, e20, e21, e15])]; simp [go_sem, Act.eval]) fun Fr24 => ?_
                    refine lyp Fr24 rfl HCC rfl (by omega) (wanted_none rfl) (v := Value.bool false) (fun wr hwr => by simp only [execOp, (Fr24.eval 155 (by omega)).trans (show _ = Value.bool false from by simp [upd, e20, e21, e15])]; first | rfl | simp [go_sem]) fun Fr25 => ?_
                    refine lyp Fr25 rfl HCC rfl (by omega) (want_yes Fr25 rfl (e := 156) rfl (by omega) (show _ = Value.bool false from by simp [upd, e20, e21, e15])) (v := Value.slice (some ⟨g, 0, none⟩) kn gc) (fun wr hwr => by simp only [execOp, (Fr25.eval 20 (by omega)).trans (show _ = Value.slice (some ⟨g, 0, none⟩) kn gc from by simp [upd, e20, e21, e15])]; first | rfl | simp [go_sem]) fun Fr26 => ?_
                    refine lyp Fr26 rfl HCC rfl (by omega) (want_yes Fr26 rfl (e := 156) rfl (by omega) (show _ = Value.bool false from by simp [upd, e20, e21, e15])) (v := Value.int .i64 (k : Int)) (fun wr hwr => by simp only [execOp, (Fr26.eval 21 (by omega)).trans (show _ = Value.int .i64 (k : Int) from by simp [upd, e20, e21, e15])]; first | rfl | simp [go_sem]) fun Fr27 => ?_
                    refine lyp Fr27 rfl HCC rfl (by omega) (want_yes Fr27 rfl (e := 156) rfl (by omega) (show _ = Value.bool false from by simp [upd, e20, e21, e15])) (v := Value.pointer (some ⟨g, k * 5, none⟩)) (fun wr hwr => by simp only [execOp, (Fr27.eval 157 (by omega)).trans (show _ = Value.slice (some ⟨g, 0, none⟩) kn gc from by simp [upd, e20, e21, e15]), (Fr27.eval 158 (by omega)).trans (show _ = Value.int .i64 (k : Int) from by simp [upd, e20, e21, e15])]; simp only [Sem.run_bind, Sem.run_pure, Result.andThen_ok, idx_run 33 45 5 Try.underlying33 (by kernel_rfl) _ g 0 kn gc k hkl, Nat.zero_add, Nat.mul_one]; try rfl) fun Fr28 => ?_
                    refine lyp Fr28 rfl HCC rfl (by omega) (want_yes Fr28 rfl (e := 156) rfl (by omega) (show _ = Value.bool false from by simp [upd, e20, e21, e15])) (v := Value.pointer (some ⟨g, k * 5 + 1, none⟩)) (fun wr hwr => by simp only [execOp, (Fr28.eval 159 (by omega)).trans (show _ = Value.pointer (some ⟨g, k * 5, none⟩) from by simp [upd, e20, e21, e15])]; simp [go_sem]) fun Fr29 => ?_
                    refine lyp Fr29 rfl HCC rfl (by omega) (want_yes Fr29 rfl (e := 156) rfl (by omega) (show _ = Value.bool false from by simp [upd, e20, e21, e15])) (v := Value.int .i64 5) (fun wr hwr => by simp only [execOp, (Fr29.eval 160 (by omega)).trans (show _ = Value.pointer (some ⟨g, k * 5 + 1, none⟩) from by simp [upd, e20, e21, e15])]; simp [go_sem, VT wr hwr]) fun Fr30 => ?_
                    refine lyp Fr30 rfl HCC rfl (by omega) (want_yes Fr30 rfl (e := 156) rfl (by omega) (show _ = Value.bool false from by simp [upd, e20, e21, e15])) (v := Value.bool false) (fun wr hwr => by simp only [execOp, (Fr30.eval 161 (by omega)).trans (show _ = Value.int .i64 5 from by simp [upd, e20, e21, e15])]; simp [go_sem, Act.eval]) fun Fr31 => ?_
                    refine lyp Fr31 rfl HCC rfl (by omega) (wanted_none rfl) (v := Value.bool false) (fun wr hwr => by simp only [execOp, (Fr31.eval 156 (by omega)).trans (show _ = Value.bool false from by simp [upd, e20, e21, e15]), (Fr31.eval 162 (by omega)).trans (show _ = Value.bool false from by simp [upd, e20, e21, e15])]; simp [go_sem, Act.eval]) fun Fr32 => ?_
                    refine lyp Fr32 rfl HCC rfl (by omega) (wanted_none rfl) (v := Value.bool false) (fun wr hwr => by simp only [execOp, (Fr32.eval 163 (by omega)).trans (show _ = Value.bool false from by simp [upd, e20, e21, e15])]; first | rfl | simp [go_sem]) fun Fr33 => ?_
                    refine lyp Fr33 rfl HCC rfl (by omega) (want_yes Fr33 rfl (e := 164) rfl (by omega) (show _ = Value.bool false from by simp [upd, e20, e21, e15])) (v := Value.slice (some ⟨g, 0, none⟩) kn gc) (fun wr hwr => by simp only [execOp, (Fr33.eval 20 (by omega)).trans (show _ = Value.slice (some ⟨g, 0, none⟩) kn gc from by simp [upd, e20, e21, e15])]; first | rfl | simp [go_sem]) fun Fr34 => ?_
                    refine lyp Fr34 rfl HCC rfl (by omega) (want_yes Fr34 rfl (e := 164) rfl (by omega) (show _ = Value.bool false from by simp [upd, e20, e21, e15])) (v := Value.int .i64 (k : Int)) (fun wr hwr => by simp only [execOp, (Fr34.eval 21 (by omega)).trans (show _ = Value.int .i64 (k : Int) from by simp [upd, e20, e21, e15])]; first | rfl | simp [go_sem]) fun Fr35 => ?_
                    refine lyp Fr35 rfl HCC rfl (by omega) (want_yes Fr35 rfl (e := 164) rfl (by omega) (show _ = Value.bool false from by simp [upd, e20, e21, e15])) (v := Value.pointer (some ⟨g, k * 5, none⟩)) (fun wr hwr => by simp only [execOp, (Fr35.eval 165 (by omega)).trans (show _ = Value.slice (some ⟨g, 0, none⟩) kn gc from by simp [upd, e20, e21, e15]), (Fr35.eval 166 (by omega)).trans (show _ = Value.int .i64 (k : Int) from by simp [upd, e20, e21, e15])]; simp only [Sem.run_bind, Sem.run_pure, Result.andThen_ok, idx_run 33 45 5 Try.underlying33 (by kernel_rfl) _ g 0 kn gc k hkl, Nat.zero_add, Nat.mul_one]; try rfl) fun Fr36 => ?_
                    refine lyp Fr36 rfl HCC rfl (by omega) (want_yes Fr36 rfl (e := 164) rfl (by omega) (show _ = Value.bool false from by simp [upd, e20, e21, e15])) (v := Value.pointer (some ⟨g, k * 5 + 4, none⟩)) (fun wr hwr => by simp only [execOp, (Fr36.eval 167 (by omega)).trans (show _ = Value.pointer (some ⟨g, k * 5, none⟩) from by simp [upd, e20, e21, e15])]; simp [go_sem]) fun Fr37 => ?_
                    refine lyp Fr37 rfl HCC rfl (by omega) (want_yes Fr37 rfl (e := 164) rfl (by omega) (show _ = Value.bool false from by simp [upd, e20, e21, e15])) (v := sg.d.v) (fun wr hwr => by simp only [execOp, (Fr37.eval 168 (by omega)).trans (show _ = Value.pointer (some ⟨g, k * 5 + 4, none⟩) from by simp [upd, e20, e21, e15])]; simp [go_sem, VD wr hwr]) fun Fr38 => ?_
                    refine lyp Fr38 rfl HCC rfl (by omega) (want_yes Fr38 rfl (e := 164) rfl (by omega) (show _ = Value.bool false from by simp [upd, e20, e21, e15])) (v := Value.slice (some ⟨wg, 0, none⟩) kn vdc) (fun wr hwr => by simp only [execOp, (Fr38.eval 15 (by omega)).trans (show _ = Value.slice (some ⟨wg, 0, none⟩) kn vdc from by simp [upd, e20, e21, e15])]; first | rfl | simp [go_sem]) fun Fr39 => ?_
                    refine lyp Fr39 rfl HCC rfl (by omega) (want_yes Fr39 rfl (e := 164) rfl (by omega) (show _ = Value.bool false from by simp [upd, e20, e21, e15])) (v := Value.int .i64 (k : Int)) (fun wr hwr => by simp only [execOp, (Fr39.eval 21 (by omega)).trans (show _ = Value.int .i64 (k : Int) from by simp [upd, e20, e21, e15])]; first | rfl | simp [go_sem]) fun Fr40 => ?_
                    refine lyp Fr40 rfl HCC rfl (by omega) (want_yes Fr40 rfl (e := 164) rfl (by omega) (show _ = Value.bool false from by simp [upd, e20, e21, e15])) (v := Value.pointer (some ⟨wg, k, none⟩)) (fun wr hwr => by simp only [execOp, (Fr40.eval 170 (by omega)).trans (show _ = Value.slice (some ⟨wg, 0, none⟩) kn vdc from by simp [upd, e20, e21, e15]), (Fr40.eval 171 (by omega)).trans (show _ = Value.int .i64 (k : Int) from by simp [upd, e20, e21, e15])]; simp only [Sem.run_bind, Sem.run_pure, Result.andThen_ok, idx_run 36 41 1 Try.underlying36 (by kernel_rfl) _ wg 0 kn vdc k hkl, Nat.zero_add, Nat.mul_one]; try rfl) fun Fr41 => ?_
                    refine lyp Fr41 rfl HCC rfl (by omega) (want_yes Fr41 rfl (e := 164) rfl (by omega) (show _ = Value.bool false from by simp [upd, e20, e21, e15])) (v := kd.v) (fun wr hwr => by simp only [execOp, (Fr41.eval 172 (by omega)).trans (show _ = Value.pointer (some ⟨wg, k, none⟩) from by simp [upd, e20, e21, e15])]; simp [go_sem, VK wr hwr]) fun Fr42 => ?_
                    refine lcp Fr42 rfl HCC rfl (by omega) (want_yes Fr42 rfl (e := 164) rfl (by omega) (show _ = Value.bool false from by simp [upd, e20, e21, e15])) (g := 20) (args := #[sg.d.v, kd.v]) (by simp only [execOp, resolve, invoke, List.map_toArray, List.map_cons, List.map_nil, (Fr42.eval 169 (by omega)).trans (show _ = sg.d.v from by simp [upd, e20, e21, e15]), (Fr42.eval 173 (by omega)).trans (show _ = kd.v from by simp [upd, e20, e21, e15])]; simp [go_sem, Act.eval]) HSM.out ?_
                    rintro e w2 ⟨rfl, rfl⟩
                    refine ⟨_, rfl, fun Fr43 => ?_⟩
                    refine lyp Fr43 rfl HCC rfl (by omega) (want_yes Fr43 rfl (e := 164) rfl (by omega) (show _ = Value.bool false from by simp [upd, e20, e21, e15])) (v := Value.bool false) (fun wr hwr => by simp only [execOp, (Fr43.eval 174 (by omega)).trans (show _ = Value.bool true from by simp [upd, e20, e21, e15])]; simp [go_sem, Act.eval]) fun Fr44 => ?_
                    refine lyp Fr44 rfl HCC rfl (by omega) (wanted_none rfl) (v := Value.bool false) (fun wr hwr => by simp only [execOp, (Fr44.eval 164 (by omega)).trans (show _ = Value.bool false from by simp [upd, e20, e21, e15]), (Fr44.eval 175 (by omega)).trans (show _ = Value.bool false from by simp [upd, e20, e21, e15])]; simp [go_sem, Act.eval]) fun Fr45 => ?_
                    refine ⟨fun _ => HCC, ?_⟩
                    refine hK _ _ ?_
                    clear F0 Fr1 Fr2 Fr3 Fr4 Fr5 Fr6 Fr7 Fr8 Fr9 Fr10 Fr11 Fr12 Fr13 Fr14 Fr15 Fr16 Fr17 Fr18 Fr19 Fr20 Fr21 Fr22 Fr23 Fr24 Fr25 Fr26 Fr27 Fr28 Fr29 Fr30 Fr31 Fr32 Fr33 Fr34 Fr35 Fr36 Fr37 Fr38 Fr39 Fr40 Fr41 Fr42 Fr43 Fr44 Fr45 e20 e21 e15 HCC
                    simp only [Act.put, List.setIfInBounds_toArray, List.set_cons_succ, List.set_cons_zero]
                    go_wp2_with fail
                    go_roundw
                    case rel => exact ⟨k + 1, by omega, by go_num, q + 1, rfl⟩
                    case measure => simp [intOf]; omega
                  · go_wp2_with fail
                    go_roundw
                    case rel => exact ⟨i + 1, by omega, by omega, by go_num, _, uv6, (fun h => by rw [if_pos h]), (fun h => by rw [if_neg (by omega), HRE.out]), HU6.out.more (below_drewN (Below.refl _ _) q)⟩
                    case measure => simp [intOf]; omega
              · rw [decide_eq_false hc, if_neg (by decide)] at hl6
                obtain rfl : l6 = [] := List.map_eq_nil_iff.1 hl6
                obtain ⟨vo6, vc6, hv6, _⟩ := own_slice hSL6.r
                subst hv6
                clear hl6 hSL6
                have HRE : Hid (((i + 1 - 1) % n : Nat) = i % n) := by simp [Hid]
                by_cases hr : i % n = 0
                · have hk0 : kn < 1 := by have := HKB.out; omega
                  have hrm0 : (i : Int).tmod (n : Int) = 0 := by rw [hrm, hr]; rfl
                  clear hrm hr hc
                  go_wp2_with fail
                  go_roundw
                  case rel => exact ⟨i + 1, by omega, by omega, by go_num, _, uv6, (fun h => by rw [if_pos h]), (fun h => by rw [if_neg (by omega), HRE.out]), HU6.out⟩
                  case measure => simp [intOf]; omega
                · have hrm0 : (i : Int).tmod (n : Int) ≠ 0 := by rw [hrm]; omega
                  clear hrm hr hc
                  go_wp2_with fail
                  go_roundw
                  case rel => exact ⟨i + 1, by omega, by omega, by go_num, _, uv6, (fun h => by rw [if_pos h]), (fun h => by rw [if_neg (by omega), HRE.out]), HU6.out⟩
                  case measure => simp [intOf]; omega
            · obtain rfl : i = tk + 1 := by omega
              go_wp2_with fail
              refine Calls.mono (under_any _ HU.out.lm (by simp [stU, fresh]) (by simp [stU, fresh]) (by have := HBL.out; have := HKN.out; simp [stU, fresh]; omega) (by simp [stU, fresh]; exact HDS.out)) ?_
              rintro e w5 ⟨v5, l5, rfl, hl5, hSL5, hb5⟩
              have hll : l5.length = kn := by
                have := congrArg List.length hl5
                rw [List.length_map, tell_len, List.length_map] at this
                have h1 := HBL.out
                have h2 := HKN.out
                have h3 : (stU wn n a Bx).under.length = Bx.length := rfl
                omega
              obtain ⟨vo5, vc5, hv5, _⟩ := own_slice hSL5.r
              rw [hll] at hv5
              subst hv5
              have HB5 : Hid (Below W.heap.size W w5) := show Below _ _ _ from HU.out.bl.trans (hb5.mono HU.out.bl.size)
              clear hl5 hSL5 hb5 hll HU HTI HAB
              go_wp2_with fail
              go_ret
              exact ⟨rfl, HB5.out⟩
end Go.Proofs.Ytcjgicfmfjomgaa
