import Derived.Test.YteoecjfaboideaaLasts
import Derived.Test.YteoecjfaboideaaIx
namespace Go.Proofs.Yteoecjfaboideaa
open Go.RowKit Go.PlainAid
set_option linter.unusedVariables false
set_option linter.unusedSimpArgs false
theorem imgL_from (n : Nat) (bs : List UInt8) (h : bs.length = n * 512) : imgL (fromX n bs) = bs := by
  apply List.ext_getElem?
  intro j
  by_cases hj : j < n * 512
  · rw [imgL_get _ j (by show j < 512 * n; omega)]
    show some (if j < n * 512 then bs.getD j 0 else 0) = _
    rw [if_pos hj, List.getD_eq_getElem?_getD, List.getElem?_eq_getElem (by omega)]
    rfl
  · rw [List.getElem?_eq_none (by rw [imgL_len]; show 512 * n ≤ j; omega), List.getElem?_eq_none (by omega)]
theorem img_form {w : World} {L n m : Nat} {v : Value} {bs : List UInt8} (h : w.ownsRow L 5 1 v m (bs.map B)) (hm : m = n * 512) (hn : 1 ≤ n) : ∃ g c, v = .slice (some ⟨g, 0, none⟩) (n * 512) c ∧ n * 512 ≤ c := by
  subst hm
  rcases h.2 with ⟨e, e0⟩ | ⟨g, c, cur, e, h1, h2, h3, _⟩
  · omega
  · exact ⟨g, c, e, h3⟩
set_option maxRecDepth 100000 in
set_option maxHeartbeats 6400000 in
theorem copy_law (z1 : Int) (ao1 : Option Addr) (N1 cap1 : Nat) (os1 : List PutA) (ao2 : Option Addr) (N2 cap2 : Nat) (os2 : List PutA) (W : World) (hl1 : os1.length = N1) (hM1 : N1 ≤ 9223372036854775807) (hok1 : ∀ o ∈ os1, o.ok) (hat1 : 0 < N1 → ∃ b off, ao1 = some ⟨b, off, none⟩ ∧ ∀ (i : Nat) (o : PutA), os1[i]? = some o → RowAt W b (off + i * 2) o.row)
    (hl2 : os2.length = N2) (hM2 : N2 ≤ 9223372036854775807) (hok2 : ∀ o ∈ os2, o.ok) (hat2 : 0 < N2 → ∃ b off, ao2 = some ⟨b, off, none⟩ ∧ ∀ (i : Nat) (o : PutA), os2[i]? = some o → RowAt W b (off + i * 2) o.row) :
    Calls Try.prog 5 #[.int .i64 z1, .slice ao1 N1 cap1, .slice ao2 N2 cap2] W fun e w' => e = .returned (.bool true) ∧ Below W.heap.size W w' := by
  by_cases hb1 : 200 < N1
  · clear hat1 hat2 hok1 hok2
    go_enter Try.func5, Try.ntmps5
    go_wp2_with fail
    go_ret
    exact ⟨rfl, Below.refl _ _⟩
  by_cases hb2 : 200 < N2
  · clear hat1 hat2 hok1 hok2
    go_enter Try.func5, Try.ntmps5
    go_wp2_with fail
    go_ret
    exact ⟨rfl, Below.refl _ _⟩
  have hN1 : N1 ≤ 200 := by omega
  have hN2 : N2 ≤ 200 := by omega
  have HAT1 : Hid (0 < N1 → ∃ b off, ao1 = some ⟨b, off, none⟩ ∧ ∀ (i : Nat) (o : PutA), os1[i]? = some o → RowAt W b (off + i * 2) o.row) := hat1
  have HOK1 : Hid (∀ o ∈ os1, o.ok) := hok1
  have HOL1 : Hid (os1.length = N1) := hl1
  have HAT2 : Hid (0 < N2 → ∃ b off, ao2 = some ⟨b, off, none⟩ ∧ ∀ (i : Nat) (o : PutA), os2[i]? = some o → RowAt W b (off + i * 2) o.row) := hat2
  have HOK2 : Hid (∀ o ∈ os2, o.ok) := hok2
  have HOL2 : Hid (os2.length = N2) := hl2
  have HCT : Hid _ := count_any z1 W
  clear hat1 hat2 hok1 hok2 hl1 hl2 hb1 hb2 hM1 hM2
  go_enter Try.func5, Try.ntmps5
  go_wp2_with fail
  refine Calls.mono HCT.out ?_
  rintro e w1 ⟨n, hn1, hn2, rfl, hw1⟩
  replace hw1 := hw1.symm
  subst hw1
  have HNW : Hid _ := new_yes n W ⟨hn1, by omega⟩
  clear HCT
  go_wp2_with fail
  refine Calls.mono HNW.out ?_
  rintro e w2 ⟨rfl, hd2, hb2⟩
  have HD2 : Hid (DM W.heap.size (W.heap.size + 1) W.heap.size (fresh n) w2) := hd2
  have HB2 : Hid (Below W.heap.size W w2) := hb2
  have HNM : Hid (∀ x w, Calls Try.prog 11 #[.int .i64 x] w fun e w' => e = .returned (.int .i64 x) ∧ w' = w) := fun x w => num_any x w
  clear HNW hd2 hb2
  go_wp2_with fail
  refine Calls.mono (HNM.out 0 _) ?_
  rintro e w3 ⟨rfl, hw3⟩
  replace hw3 := hw3.symm
  subst hw3
  obtain ⟨p, hp⟩ : ∃ p, p = W.heap.size + 1 := ⟨_, rfl⟩
  obtain ⟨L, hL⟩ : ∃ L, L = W.heap.size := ⟨_, rfl⟩
  rw [← hp, ← hL] at HD2
  rw [← hL] at HB2
  have HL : Hid (L = W.heap.size) := hL
  have HP : Hid (p = L + 1) := by rw [Hid, hp, hL]
  rw [← hp]
  have HLS : Hid (∀ w', Below L W w' → L ≤ w'.heap.size) := fun w' h => by rw [hL]; exact h.size
  clear hp hL
  go_wp2_with fail
  go_loopw [10] (fun s10 wr => ∃ q : Nat, q ≤ N1 ∧ s10 = .int .i64 (q : Int) ∧ (∃ x, DQ L p L n q wr x) ∧ Below L W wr) (fun s10 _ => N1 - (intOf s10).toNat)
  case atStart => exact ⟨0, by omega, rfl, ⟨_, HD2.out, rfl, rfl, rfl, rfl, rfl⟩, HB2.out⟩
  case round =>
    clear HD2 HB2
    obtain ⟨q, hq, rfl, ⟨x, hx⟩, hb⟩ := hrel
    by_cases hlt : q < N1
    · have hol := HOL1.out
      obtain ⟨o, ho⟩ : ∃ o, os1[q]? = some o := ⟨os1[q]'(by omega), List.getElem?_eq_getElem (by omega)⟩
      obtain ⟨pb, pf, hao, hrow⟩ := HAT1.out (by omega)
      have hro := hrow q o ho
      have hpb : pb < W.heap.size := hro.lt (by simp [PutA.row])
      have hro2 := hro.below hb (by rw [HL.out]; exact hpb)
      have kz : wr.cell? ⟨pb, pf + q * 2, none⟩ = some (.int .i64 o.z) := hro2 0 _ rfl
      have kf : wr.cell? ⟨pb, pf + q * 2 + 1, none⟩ = some (.int .u8 (o.f.toNat : Int)) := hro2 1 _ rfl
      have hozb := HOK1.out o (List.mem_of_getElem? ho)
      obtain ⟨k, hk⟩ : ∃ k, k = slotN o.z n := ⟨_, rfl⟩
      have HSL : Hid (∀ w, Calls Try.prog 13 #[.int .i64 o.z, .int .i64 (n : Int)] w fun e w' => e = .returned (.int .i64 (k : Int)) ∧ w' = w) := fun w => by rw [hk]; exact slot_any o.z n w hozb ⟨hn1, by omega⟩
      have hsl : k < n := by rw [hk]; exact slotN_lt o.z n hn1
      have HRO : Hid (RowAt W pb (pf + q * 2) o.row) := hro
      have HPB : Hid (pb < W.heap.size) := hpb
      have HFU : Hid (∀ w, Calls Try.prog 12 #[.int .u8 (o.f.toNat : Int)] w _) := fun w => full_any o.f w
      subst hao
      have HQ : Hid (∀ w', Below wr.heap.size wr w' → DQ L p L n q w' x) := fun w' h => hx.more h
      have HNP : Hid (¬ down p L pb) := by
        have h1 := HP.out
        have h2 := HL.out
        rintro (e | e) <;> omega
      have HB : Hid (Below L W wr) := hb
      have HX : Hid (DQ L p L n q wr x) := hx
      clear hol ho hrow hro hpb hro2 hozb hk hb hx
      go_wp2_with fail
      rename_i K hK
      try rw [show ∀ a : Act, a.put none undef = a from fun _ => rfl]
      refine wp_region_mix (fun wq : World => wq.cell? ⟨pb, pf + q * 2, none⟩ = some (Value.int .i64 o.z) ∧ wq.cell? ⟨pb, pf + q * 2 + 1, none⟩ = some (Value.int .u8 (o.f.toNat : Int))) (fun i => i == 7 || i == 13 || i == 14 || i == 99) 99 (by kernel_rfl) rfl (by kernel_rfl) (by kernel_rfl) (by kernel_rfl) ?_
      refine withFrP (N := 205) rfl ?_
      intro f0 F0 hff
      have ee8 : f0 8 = Value.pointer (some ⟨p, 0, none⟩) := hff 8
      have ee1 : f0 1 = Value.slice (some ⟨pb, pf, none⟩) N1 cap1 := hff 1
      have ee10 : f0 10 = Value.int .i64 (q : Nat) := hff 10
      have ee7 : f0 7 = Value.int .i64 (n : Nat) := hff 7
      clear hff
      have HCC : (fun wq : World => wq.cell? ⟨pb, pf + q * 2, none⟩ = some (Value.int .i64 o.z) ∧ wq.cell? ⟨pb, pf + q * 2 + 1, none⟩ = some (Value.int .u8 (o.f.toNat : Int))) (({ wr with drawn := wr.drawn + 1 } : World)) := ⟨kz, kf⟩
      refine lyp F0 rfl HCC rfl (by omega) (wanted_none rfl) (v := Value.pointer (some ⟨p, 0, none⟩)) (fun wr hwr => by simp only [execOp, (F0.eval 8 (by omega)).trans (show _ = Value.pointer (some ⟨p, 0, none⟩) from by simp [upd, ee8, ee1, ee10, ee7])]; first | rfl | simp [go_sem]) fun F1 => ?_
      refine lyp F1 rfl HCC rfl (by omega) (wanted_none rfl) (v := Value.slice (some ⟨pb, pf, none⟩) N1 cap1) (fun wr hwr => by simp only [execOp, (F1.eval 1 (by omega)).trans (show _ = Value.slice (some ⟨pb, pf, none⟩) N1 cap1 from by simp [upd, ee8, ee1, ee10, ee7])]; first | rfl | simp [go_sem]) fun F2 => ?_
      refine lyp F2 rfl HCC rfl (by omega) (wanted_none rfl) (v := Value.int .i64 (q : Nat)) (fun wr hwr => by simp only [execOp, (F2.eval 10 (by omega)).trans (show _ = Value.int .i64 (q : Nat) from by simp [upd, ee8, ee1, ee10, ee7])]; first | rfl | simp [go_sem]) fun F3 => ?_
      refine lyp F3 rfl HCC rfl (by omega) (wanted_none rfl) (v := Value.pointer (some ⟨pb, pf + q * 2, none⟩)) (fun wr hwr => by simp only [execOp, (F3.eval 48 (by omega)).trans (show _ = Value.slice (some ⟨pb, pf, none⟩) N1 cap1 from by simp [upd, ee8, ee1, ee10, ee7]), (F3.eval 49 (by omega)).trans (show _ = Value.int .i64 (q : Nat) from by simp [upd, ee8, ee1, ee10, ee7])]; simp only [Sem.run_bind, Sem.run_pure, Result.andThen_ok, idx_run 22 34 2 Try.underlying22 (by kernel_rfl) wr pb pf N1 cap1 q (by omega)]; try rfl) fun F4 => ?_
      refine lyp F4 rfl HCC rfl (by omega) (wanted_none rfl) (v := Value.pointer (some ⟨pb, pf + q * 2, none⟩)) (fun wr hwr => by simp only [execOp, (F4.eval 50 (by omega)).trans (show _ = Value.pointer (some ⟨pb, pf + q * 2, none⟩) from by simp [upd, ee8, ee1, ee10, ee7])]; simp [go_sem]) fun F5 => ?_
      refine lyp F5 rfl HCC rfl (by omega) (wanted_none rfl) (v := Value.int .i64 o.z) (fun wr hwr => by simp only [execOp, (F5.eval 51 (by omega)).trans (show _ = Value.pointer (some ⟨pb, pf + q * 2, none⟩) from by simp [upd, ee8, ee1, ee10, ee7])]; simp [go_sem, hwr.1]) fun F6 => ?_
      refine lyp F6 rfl HCC rfl (by omega) (wanted_none rfl) (v := Value.int .i64 (n : Nat)) (fun wr hwr => by simp only [execOp, (F6.eval 7 (by omega)).trans (show _ = Value.int .i64 (n : Nat) from by simp [upd, ee8, ee1, ee10, ee7])]; first | rfl | simp [go_sem]) fun F7 => ?_
      refine lcp F7 rfl HCC rfl (by omega) (wanted_none rfl) (g := 13) (args := #[Value.int .i64 o.z, Value.int .i64 (n : Nat)]) (by simp only [execOp, resolve, invoke, List.map_toArray, List.map_cons, List.map_nil, (F7.eval 52 (by omega)).trans (show _ = Value.int .i64 o.z from by simp [upd, ee8, ee1, ee10, ee7]), (F7.eval 53 (by omega)).trans (show _ = Value.int .i64 (n : Nat) from by simp [upd, ee8, ee1, ee10, ee7])]; simp [go_sem, Act.eval]) (HSL.out _) ?_
      rintro e9 w9 ⟨rfl, rfl⟩
      refine ⟨_, rfl, fun F8 => ?_⟩
      refine lyp F8 rfl HCC rfl (by omega) (wanted_none rfl) (v := Value.slice (some ⟨pb, pf, none⟩) N1 cap1) (fun wr hwr => by simp only [execOp, (F8.eval 1 (by omega)).trans (show _ = Value.slice (some ⟨pb, pf, none⟩) N1 cap1 from by simp [upd, ee8, ee1, ee10, ee7])]; first | rfl | simp [go_sem]) fun F9 => ?_
      refine lyp F9 rfl HCC rfl (by omega) (wanted_none rfl) (v := Value.int .i64 (q : Nat)) (fun wr hwr => by simp only [execOp, (F9.eval 10 (by omega)).trans (show _ = Value.int .i64 (q : Nat) from by simp [upd, ee8, ee1, ee10, ee7])]; first | rfl | simp [go_sem]) fun F10 => ?_
      refine lyp F10 rfl HCC rfl (by omega) (wanted_none rfl) (v := Value.pointer (some ⟨pb, pf + q * 2, none⟩)) (fun wr hwr => by simp only [execOp, (F10.eval 55 (by omega)).trans (show _ = Value.slice (some ⟨pb, pf, none⟩) N1 cap1 from by simp [upd, ee8, ee1, ee10, ee7]), (F10.eval 56 (by omega)).trans (show _ = Value.int .i64 (q : Nat) from by simp [upd, ee8, ee1, ee10, ee7])]; simp only [Sem.run_bind, Sem.run_pure, Result.andThen_ok, idx_run 22 34 2 Try.underlying22 (by kernel_rfl) wr pb pf N1 cap1 q (by omega)]; try rfl) fun F11 => ?_
      refine lyp F11 rfl HCC rfl (by omega) (wanted_none rfl) (v := Value.pointer (some ⟨pb, pf + q * 2 + 1, none⟩)) (fun wr hwr => by simp only [execOp, (F11.eval 57 (by omega)).trans (show _ = Value.pointer (some ⟨pb, pf + q * 2, none⟩) from by simp [upd, ee8, ee1, ee10, ee7])]; simp [go_sem]) fun F12 => ?_
      refine lyp F12 rfl HCC rfl (by omega) (wanted_none rfl) (v := Value.int .u8 (o.f.toNat : Int)) (fun wr hwr => by simp only [execOp, (F12.eval 58 (by omega)).trans (show _ = Value.pointer (some ⟨pb, pf + q * 2 + 1, none⟩) from by simp [upd, ee8, ee1, ee10, ee7])]; simp [go_sem, hwr.2]) fun F13 => ?_
      refine lcp F13 rfl HCC rfl (by omega) (wanted_none rfl) (g := 12) (args := #[Value.int .u8 (o.f.toNat : Int)]) (by simp only [execOp, resolve, invoke, List.map_toArray, List.map_cons, List.map_nil, (F13.eval 59 (by omega)).trans (show _ = Value.int .u8 (o.f.toNat : Int) from by simp [upd, ee8, ee1, ee10, ee7])]; simp [go_sem, Act.eval]) (HFU.out _) ?_
      rintro e9 w4 ⟨v4, rfl, hr4, hb4⟩
      refine ⟨_, rfl, fun F14 => ?_⟩
      have HC2 : (fun wq : World => wq.cell? ⟨pb, pf + q * 2, none⟩ = some (Value.int .i64 o.z) ∧ wq.cell? ⟨pb, pf + q * 2 + 1, none⟩ = some (Value.int .u8 (o.f.toNat : Int))) w4 := ⟨(hb4.cell (World.block_lt_of_cell? _ _ HCC.1)).trans HCC.1, (hb4.cell (World.block_lt_of_cell? _ _ HCC.2)).trans HCC.2⟩
      have hb4' : Below wr.heap.size wr w4 := (Below.drew (Below.refl _ _)).trans hb4
      refine lcp F14 rfl HC2 rfl (by omega) (wanted_none rfl) (g := 14) (args := #[Value.pointer (some ⟨p, 0, none⟩), Value.int .i64 (k : Nat), v4]) (by simp only [execOp, resolve, invoke, List.map_toArray, List.map_cons, List.map_nil, (F14.eval 47 (by omega)).trans (show _ = Value.pointer (some ⟨p, 0, none⟩) from by simp [upd, ee8, ee1, ee10, ee7]), (F14.eval 54 (by omega)).trans (show _ = Value.int .i64 (k : Nat) from by simp [upd, ee8, ee1, ee10, ee7]), (F14.eval 60 (by omega)).trans (show _ = v4 from by simp [upd, ee8, ee1, ee10, ee7])]; simp [go_sem, Act.eval]) ((HQ.out w4 hb4').write hr4 (by omega) (by omega)) ?_
      rintro e9 w5 ⟨rfl, hq5, hc5⟩
      refine ⟨_, rfl, fun F15 => ?_⟩
      have HC3 : (fun wq : World => wq.cell? ⟨pb, pf + q * 2, none⟩ = some (Value.int .i64 o.z) ∧ wq.cell? ⟨pb, pf + q * 2 + 1, none⟩ = some (Value.int .u8 (o.f.toNat : Int))) w5 := ⟨(World.cell?_of_block (w := w4) (hc5.block pb (World.block_lt_of_cell? _ _ HC2.1) HNP.out)).trans HC2.1, (World.cell?_of_block (w := w4) (hc5.block pb (World.block_lt_of_cell? _ _ HC2.1) HNP.out)).trans HC2.2⟩
      refine ⟨fun _ => HC3, ?_⟩
      refine hK _ _ ?_
      clear F0 F1 F2 F3 F4 F5 F6 F7 F8 F9 F10 F11 F12 F13 F14 F15 ee8 ee1 ee10 ee7 HCC HC2 HC3
      simp only [Act.put, List.setIfInBounds_toArray, List.set_cons_succ, List.set_cons_zero]
      have hb5 : Below L W w5 := (HB.out.trans (hb4'.mono (HLS.out _ HB.out))).trans (hc5.below (HLS.out _ (HB.out.trans (hb4'.mono (HLS.out _ HB.out)))) (fun k hk => (hq5.d.lt hk).1))
      have HN : Hid ((∃ x, DQ L p L n (q + 1) w5 x) ∧ Below L W w5) := ⟨⟨_, hq5⟩, hb5⟩
      clear hb4 hr4 hb4' hq5 hc5 hb5 kz kf HQ HX HB HSL HFU
      go_wp2_with fail
      go_roundw
      case rel => exact ⟨q + 1, by omega, by go_num, HN.out.1, HN.out.2⟩
      case measure => simp [intOf]; omega
    · obtain rfl : q = N1 := by omega
      have him := image_any wr hx.d
      rw [hx.n, Nat.mul_comm 512 n] at him
      have HWL : Hid ((imgL x).length = n * 512) := by rw [Hid, imgL_len, hx.n]; omega
      obtain ⟨wl, hwl⟩ : ∃ wl, wl = imgL x := ⟨_, rfl⟩
      rw [← hwl] at him HWL
      have HWE : Hid (wl = imgL x) := hwl
      have HIM : Hid _ := him
      have HX : Hid (DQ L p L n q wr x) := hx
      have HB : Hid (Below L W wr) := hb
      clear hx hb him hwl
      go_wp2_with fail
      refine Calls.mono HIM.out ?_
      rintro e w3 ⟨v3, rfl, hr3, hb3⟩
      clear HIM
      obtain ⟨g3, c3, hv3, hc3⟩ := img_form hr3 rfl hn1
      have hby3 : By w3 v3 wl := own_by (by rw [HWL.out]; exact hr3)
      have hcv3 := conv_run hby3
      have hx3 := HX.out.more hb3
      have hb3' : Below L W w3 := HB.out.trans (hb3.mono (HLS.out _ HB.out))
      have hfy := from_yes (g := g3) (o := 0) (n := n) (c := c3) (bs := wl) w3 ⟨hn1, by omega⟩ (by rw [← hv3]; exact hby3) hc3
      have HR3 : Hid (w3.ownsRow wr.heap.size 5 1 v3 (n * 512) (wl.map B)) := hr3
      have HX3 : Hid (DQ L p L n q w3 x) := hx3
      have HB3 : Hid (Below L W w3) := hb3'
      have HBR : Hid (Below wr.heap.size wr w3) := hb3
      have HLR : Hid (L ≤ wr.heap.size) := HLS.out _ HB.out
      obtain ⟨p', hp'⟩ : ∃ p', p' = w3.heap.size + 1 := ⟨_, rfl⟩
      obtain ⟨M, hM⟩ : ∃ M, M = w3.heap.size := ⟨_, rfl⟩
      have HPM : Hid (p < M ∧ L < M ∧ W.heap.size ≤ M ∧ p' = M + 1) := by
        have h1 := (hx3.d.lt (k := p) (.inl rfl)).2
        have h2 := (hx3.d.lt (k := L) (.inr rfl)).2
        have h3 := hb3'.size
        refine ⟨?_, ?_, ?_, ?_⟩ <;> omega
      rw [← hp', ← hM] at hfy
      have HM : Hid (M = w3.heap.size) := hM
      have HFY : Hid _ := hfy
      have HV3 : Hid (v3 = .slice (some ⟨g3, 0, none⟩) (n * 512) c3) := hv3
      have HSP : Hid (∀ w', Below w3.heap.size w3 w' → Calls Try.prog 26 #[v3] w' fun e w2 => e = .returned (.tuple #[]) ∧ Chg (fun k => v3.ownBlock = some k) w' w2) := fun w' h => (spoil_any w' (ownsRow_same HR3.out (fun k hk => h.block k (ownsRow_lt HR3.out hk).2)) (Nat.le_trans HBR.out.size h.size) (by omega)).mono (by rintro e w2 ⟨rfl, _, hc⟩; exact ⟨rfl, hc⟩)
      rw [hv3] at hcv3 HSP
      subst hv3
      clear HX HB hr3 hb3 hby3 hx3 hb3' hfy hc3 hp' hM HBR
      go_wp2_with fail
      refine Calls.mono HFY.out ?_
      rintro e w4 ⟨rfl, hd4, hb4⟩
      clear HFY hcv3
      have hq4 : DQ M p' M n 0 w4 (fromX n wl) := ⟨hd4, rfl, rfl, rfl, rfl, rfl⟩
      have hb4' : Below w3.heap.size w3 w4 := by have h := HM.out; rw [h] at hb4; exact hb4
      have HX4 : Hid (DQ L p L n q w4 x ∧ DQ M p' M n 0 w4 (fromX n wl) ∧ Below L W w4) := ⟨HX3.out.more hb4', hq4, HB3.out.trans (hb4'.mono (HLS.out _ HB3.out))⟩
      have hse := sectors_any w4 hd4
      have hse' : Calls Try.prog 25 #[.pointer (some ⟨p', 0, none⟩)] w4 fun e w' => e = .returned (.int .i64 (n : Int)) ∧ w' = w4 := hse
      have HSE : Hid _ := hse'
      have hsp4 := HSP.out w4 hb4'
      have HSP4 : Hid _ := hsp4
      have hwlb : ((wl.length : Int) != 512 * (n : Int)) = false := by have := HWL.out; simp; omega
      have hwlc : (wl.length : Int) = 512 * (n : Int) := by have := HWL.out; omega
      have HR4 : Hid (w4.ownsRow wr.heap.size 5 1 (.slice (some ⟨g3, 0, none⟩) (n * 512) c3) (n * 512) (wl.map B)) := ownsRow_same HR3.out (fun k hk => hb4'.block k (ownsRow_lt HR3.out hk).2)
      clear HX3 HB3 hd4 hb4 hq4 hb4' hse hse' hsp4 HSP HR3
      go_wp2_with fail
      refine Calls.mono (HNM.out 0 _) ?_
      rintro e w9 ⟨rfl, hw9⟩
      replace hw9 := hw9.symm
      subst hw9
      go_wp2_with fail
      refine Calls.mono HSE.out ?_
      rintro e w9 ⟨rfl, hw9⟩
      replace hw9 := hw9.symm
      subst hw9
      clear HSE
      go_wp2_with fail
      refine Calls.mono HSP4.out ?_
      rintro e w5 ⟨rfl, hc5⟩
      clear HSP4
      have HX5 : Hid (DQ L p L n q w5 x ∧ DQ M p' M n 0 w5 (fromX n wl) ∧ Below L W w5) := by
        obtain ⟨h1, h2, h3⟩ := HX4.out
        refine ⟨h1.keep hc5 (fun k hk hg => h1.d.not_row HR4.out (by decide) hg hk), h2.keep hc5 (fun k hk hg => h2.d.not_row HR4.out (by decide) hg hk), h3.trans (hc5.below (HLS.out _ h3) (fun k hk => Nat.le_trans HLR.out (ownsRow_lt HR4.out hk).1))⟩
      clear HX4 hc5 HR4 hwlb hwlc
      have hic := image_any w5 HX5.out.2.1.d
      rw [imgL_from n wl HWL.out] at hic
      have hic' : Calls Try.prog 21 #[.pointer (some ⟨p', 0, none⟩)] w5 fun e w' => ∃ v', e = .returned v' ∧ w'.ownsRow w5.heap.size 5 1 v' (512 * n) (wl.map B) ∧ Below w5.heap.size w5 w' := hic
      have HIC : Hid _ := hic'
      clear hic hic'
      go_wp2_with fail
      refine Calls.mono HIC.out ?_
      rintro e w6 ⟨v6, rfl, hr6, hb6⟩
      clear HIC
      have hcv6 : (convert 30 9 v6).run Try.prog w6 = .ok (.string ⟨wl.toArray⟩) w6 := conv_run (own_by (by rw [HWL.out, Nat.mul_comm n 512]; exact hr6))
      have HX6 : Hid (DQ L p L n q w6 x ∧ DQ M p' M n 0 w6 (fromX n wl) ∧ Below L W w6) := ⟨HX5.out.1.more hb6, HX5.out.2.1.more hb6, HX5.out.2.2.trans (hb6.mono (HLS.out _ HX5.out.2.2))⟩
      have HID : Hid (∀ w, DQ L p L n q w x → Calls Try.prog 21 #[.pointer (some ⟨p, 0, none⟩)] w fun e w' => ∃ v', e = .returned v' ∧ w'.ownsRow w.heap.size 5 1 v' (n * 512) (wl.map B) ∧ Below w.heap.size w w') := fun w hq => by
        have h := image_any w hq.d
        rw [hq.n, Nat.mul_comm 512 n, ← HWE.out] at h
        exact h
      obtain ⟨vo6, vc6, hv6, _⟩ := own_slice hr6
      subst hv6
      clear HX5 hr6 hb6
      go_wp2_with fail
      refine Calls.mono (HID.out w6 HX6.out.1) ?_
      rintro e w7 ⟨v7, rfl, hr7, hb7⟩
      clear hcv6
      have hcv7 : (convert 30 9 v7).run Try.prog w7 = .ok (.string ⟨wl.toArray⟩) w7 := conv_run (own_by (by rw [HWL.out]; exact hr7))
      have HX7 : Hid (DQ L p L n q w7 x ∧ DQ M p' M n 0 w7 (fromX n wl) ∧ Below L W w7) := ⟨HX6.out.1.more hb7, HX6.out.2.1.more hb7, HX6.out.2.2.trans (hb7.mono (HLS.out _ HX6.out.2.2))⟩
      obtain ⟨vo7, vc7, hv7, _⟩ := own_slice hr7
      subst hv7
      clear HX6 hr7 hb7
      go_wp2_with fail
      clear hcv7
      go_loopw [15] (fun s15 wr => ∃ r : Nat, r ≤ N2 ∧ s15 = .int .i64 (r : Int) ∧ (DQ L p L n q wr x ∧ ∃ y, DQ M p' M n r wr y) ∧ Below L W wr) (fun s15 _ => N2 - (intOf s15).toNat)
      case atStart => exact ⟨0, by omega, rfl, ⟨HX7.out.1, _, HX7.out.2.1⟩, HX7.out.2.2⟩
      case round =>
        clear HX7
        obtain ⟨r, hr, rfl, ⟨hx, y, hy⟩, hb⟩ := hrel
        by_cases hlt2 : r < N2
        · have hol := HOL2.out
          obtain ⟨o, ho⟩ : ∃ o, os2[r]? = some o := ⟨os2[r]'(by omega), List.getElem?_eq_getElem (by omega)⟩
          obtain ⟨pb, pf, hao, hrow⟩ := HAT2.out (by omega)
          have hro := hrow r o ho
          have hpb : pb < W.heap.size := hro.lt (by simp [PutA.row])
          have hro2 := hro.below hb (by rw [HL.out]; exact hpb)
          have kz : wr.cell? ⟨pb, pf + r * 2, none⟩ = some (.int .i64 o.z) := hro2 0 _ rfl
          have kf : wr.cell? ⟨pb, pf + r * 2 + 1, none⟩ = some (.int .u8 (o.f.toNat : Int)) := hro2 1 _ rfl
          have hozb := HOK2.out o (List.mem_of_getElem? ho)
          obtain ⟨k, hk⟩ : ∃ k, k = slotN o.z n := ⟨_, rfl⟩
          have HSL : Hid (∀ w, Calls Try.prog 13 #[.int .i64 o.z, .int .i64 (n : Int)] w fun e w' => e = .returned (.int .i64 (k : Int)) ∧ w' = w) := fun w => by rw [hk]; exact slot_any o.z n w hozb ⟨hn1, by omega⟩
          have hsl : k < n := by rw [hk]; exact slotN_lt o.z n hn1
          have HRO : Hid (RowAt W pb (pf + r * 2) o.row) := hro
          have HPB : Hid (pb < W.heap.size) := hpb
          have HFU : Hid (∀ w, Calls Try.prog 12 #[.int .u8 (o.f.toNat : Int)] w _) := fun w => full_any o.f w
          subst hao
          have HQ : Hid (∀ w', Below wr.heap.size wr w' → DQ M p' M n r w' y) := fun w' h => hy.more h
          have HNP : Hid (¬ down p' M pb) := by
            have h1 := HPM.out
            rintro (e | e) <;> omega
          have HB : Hid (Below L W wr) := hb
          have HX : Hid (DQ L p L n q wr x) := hx
          clear hol ho hrow hro hpb hro2 hozb hk hb hx hy
          go_wp2_with fail
          rename_i K hK
          try rw [show ∀ a : Act, a.put none undef = a from fun _ => rfl]
          refine wp_region_mix (fun wq : World => wq.cell? ⟨pb, pf + r * 2, none⟩ = some (Value.int .i64 o.z) ∧ wq.cell? ⟨pb, pf + r * 2 + 1, none⟩ = some (Value.int .u8 (o.f.toNat : Int))) (fun i => i == 7 || i == 13 || i == 14 || i == 99) 99 (by kernel_rfl) rfl (by kernel_rfl) (by kernel_rfl) (by kernel_rfl) ?_
          refine withFrP (N := 205) rfl ?_
          intro f0 F0 hff
          have ee13 : f0 13 = Value.pointer (some ⟨p', 0, none⟩) := hff 13
          have ee2 : f0 2 = Value.slice (some ⟨pb, pf, none⟩) N2 cap2 := hff 2
          have ee15 : f0 15 = Value.int .i64 (r : Nat) := hff 15
          have ee7 : f0 7 = Value.int .i64 (n : Nat) := hff 7
          clear hff
          have HCC : (fun wq : World => wq.cell? ⟨pb, pf + r * 2, none⟩ = some (Value.int .i64 o.z) ∧ wq.cell? ⟨pb, pf + r * 2 + 1, none⟩ = some (Value.int .u8 (o.f.toNat : Int))) (({ wr with drawn := wr.drawn + 1 } : World)) := ⟨kz, kf⟩
          refine lyp F0 rfl HCC rfl (by omega) (wanted_none rfl) (v := Value.pointer (some ⟨p', 0, none⟩)) (fun wr hwr => by simp only [execOp, (F0.eval 13 (by omega)).trans (show _ = Value.pointer (some ⟨p', 0, none⟩) from by simp [upd, ee13, ee2, ee15, ee7])]; first | rfl | simp [go_sem]) fun F1 => ?_
          refine lyp F1 rfl HCC rfl (by omega) (wanted_none rfl) (v := Value.slice (some ⟨pb, pf, none⟩) N2 cap2) (fun wr hwr => by simp only [execOp, (F1.eval 2 (by omega)).trans (show _ = Value.slice (some ⟨pb, pf, none⟩) N2 cap2 from by simp [upd, ee13, ee2, ee15, ee7])]; first | rfl | simp [go_sem]) fun F2 => ?_
          refine lyp F2 rfl HCC rfl (by omega) (wanted_none rfl) (v := Value.int .i64 (r : Nat)) (fun wr hwr => by simp only [execOp, (F2.eval 15 (by omega)).trans (show _ = Value.int .i64 (r : Nat) from by simp [upd, ee13, ee2, ee15, ee7])]; first | rfl | simp [go_sem]) fun F3 => ?_
          refine lyp F3 rfl HCC rfl (by omega) (wanted_none rfl) (v := Value.pointer (some ⟨pb, pf + r * 2, none⟩)) (fun wr hwr => by simp only [execOp, (F3.eval 112 (by omega)).trans (show _ = Value.slice (some ⟨pb, pf, none⟩) N2 cap2 from by simp [upd, ee13, ee2, ee15, ee7]), (F3.eval 113 (by omega)).trans (show _ = Value.int .i64 (r : Nat) from by simp [upd, ee13, ee2, ee15, ee7])]; simp only [Sem.run_bind, Sem.run_pure, Result.andThen_ok, idx_run 22 34 2 Try.underlying22 (by kernel_rfl) wr pb pf N2 cap2 r (by omega)]; try rfl) fun F4 => ?_
          refine lyp F4 rfl HCC rfl (by omega) (wanted_none rfl) (v := Value.pointer (some ⟨pb, pf + r * 2, none⟩)) (fun wr hwr => by simp only [execOp, (F4.eval 114 (by omega)).trans (show _ = Value.pointer (some ⟨pb, pf + r * 2, none⟩) from by simp [upd, ee13, ee2, ee15, ee7])]; simp [go_sem]) fun F5 => ?_
          refine lyp F5 rfl HCC rfl (by omega) (wanted_none rfl) (v := Value.int .i64 o.z) (fun wr hwr => by simp only [execOp, (F5.eval 115 (by omega)).trans (show _ = Value.pointer (some ⟨pb, pf + r * 2, none⟩) from by simp [upd, ee13, ee2, ee15, ee7])]; simp [go_sem, hwr.1]) fun F6 => ?_
          refine lyp F6 rfl HCC rfl (by omega) (wanted_none rfl) (v := Value.int .i64 (n : Nat)) (fun wr hwr => by simp only [execOp, (F6.eval 7 (by omega)).trans (show _ = Value.int .i64 (n : Nat) from by simp [upd, ee13, ee2, ee15, ee7])]; first | rfl | simp [go_sem]) fun F7 => ?_
          refine lcp F7 rfl HCC rfl (by omega) (wanted_none rfl) (g := 13) (args := #[Value.int .i64 o.z, Value.int .i64 (n : Nat)]) (by simp only [execOp, resolve, invoke, List.map_toArray, List.map_cons, List.map_nil, (F7.eval 116 (by omega)).trans (show _ = Value.int .i64 o.z from by simp [upd, ee13, ee2, ee15, ee7]), (F7.eval 117 (by omega)).trans (show _ = Value.int .i64 (n : Nat) from by simp [upd, ee13, ee2, ee15, ee7])]; simp [go_sem, Act.eval]) (HSL.out _) ?_
          rintro e9 w9 ⟨rfl, rfl⟩
          refine ⟨_, rfl, fun F8 => ?_⟩
          refine lyp F8 rfl HCC rfl (by omega) (wanted_none rfl) (v := Value.slice (some ⟨pb, pf, none⟩) N2 cap2) (fun wr hwr => by simp only [execOp, (F8.eval 2 (by omega)).trans (show _ = Value.slice (some ⟨pb, pf, none⟩) N2 cap2 from by simp [upd, ee13, ee2, ee15, ee7])]; first | rfl | simp [go_sem]) fun F9 => ?_
          refine lyp F9 rfl HCC rfl (by omega) (wanted_none rfl) (v := Value.int .i64 (r : Nat)) (fun wr hwr => by simp only [execOp, (F9.eval 15 (by omega)).trans (show _ = Value.int .i64 (r : Nat) from by simp [upd, ee13, ee2, ee15, ee7])]; first | rfl | simp [go_sem]) fun F10 => ?_
          refine lyp F10 rfl HCC rfl (by omega) (wanted_none rfl) (v := Value.pointer (some ⟨pb, pf + r * 2, none⟩)) (fun wr hwr => by simp only [execOp, (F10.eval 119 (by omega)).trans (show _ = Value.slice (some ⟨pb, pf, none⟩) N2 cap2 from by simp [upd, ee13, ee2, ee15, ee7]), (F10.eval 120 (by omega)).trans (show _ = Value.int .i64 (r : Nat) from by simp [upd, ee13, ee2, ee15, ee7])]; simp only [Sem.run_bind, Sem.run_pure, Result.andThen_ok, idx_run 22 34 2 Try.underlying22 (by kernel_rfl) wr pb pf N2 cap2 r (by omega)]; try rfl) fun F11 => ?_
          refine lyp F11 rfl HCC rfl (by omega) (wanted_none rfl) (v := Value.pointer (some ⟨pb, pf + r * 2 + 1, none⟩)) (fun wr hwr => by simp only [execOp, (F11.eval 121 (by omega)).trans (show _ = Value.pointer (some ⟨pb, pf + r * 2, none⟩) from by simp [upd, ee13, ee2, ee15, ee7])]; simp [go_sem]) fun F12 => ?_
          refine lyp F12 rfl HCC rfl (by omega) (wanted_none rfl) (v := Value.int .u8 (o.f.toNat : Int)) (fun wr hwr => by simp only [execOp, (F12.eval 122 (by omega)).trans (show _ = Value.pointer (some ⟨pb, pf + r * 2 + 1, none⟩) from by simp [upd, ee13, ee2, ee15, ee7])]; simp [go_sem, hwr.2]) fun F13 => ?_
          refine lcp F13 rfl HCC rfl (by omega) (wanted_none rfl) (g := 12) (args := #[Value.int .u8 (o.f.toNat : Int)]) (by simp only [execOp, resolve, invoke, List.map_toArray, List.map_cons, List.map_nil, (F13.eval 123 (by omega)).trans (show _ = Value.int .u8 (o.f.toNat : Int) from by simp [upd, ee13, ee2, ee15, ee7])]; simp [go_sem, Act.eval]) (HFU.out _) ?_
          rintro e9 w4 ⟨v4, rfl, hr4, hb4⟩
          refine ⟨_, rfl, fun F14 => ?_⟩
          have HC2 : (fun wq : World => wq.cell? ⟨pb, pf + r * 2, none⟩ = some (Value.int .i64 o.z) ∧ wq.cell? ⟨pb, pf + r * 2 + 1, none⟩ = some (Value.int .u8 (o.f.toNat : Int))) w4 := ⟨(hb4.cell (World.block_lt_of_cell? _ _ HCC.1)).trans HCC.1, (hb4.cell (World.block_lt_of_cell? _ _ HCC.2)).trans HCC.2⟩
          have hb4' : Below wr.heap.size wr w4 := (Below.drew (Below.refl _ _)).trans hb4
          refine lcp F14 rfl HC2 rfl (by omega) (wanted_none rfl) (g := 14) (args := #[Value.pointer (some ⟨p', 0, none⟩), Value.int .i64 (k : Nat), v4]) (by simp only [execOp, resolve, invoke, List.map_toArray, List.map_cons, List.map_nil, (F14.eval 111 (by omega)).trans (show _ = Value.pointer (some ⟨p', 0, none⟩) from by simp [upd, ee13, ee2, ee15, ee7]), (F14.eval 118 (by omega)).trans (show _ = Value.int .i64 (k : Nat) from by simp [upd, ee13, ee2, ee15, ee7]), (F14.eval 124 (by omega)).trans (show _ = v4 from by simp [upd, ee13, ee2, ee15, ee7])]; simp [go_sem, Act.eval]) ((HQ.out w4 hb4').write hr4 (by omega) (by omega)) ?_
          rintro e9 w5 ⟨rfl, hq5, hc5⟩
          refine ⟨_, rfl, fun F15 => ?_⟩
          have HC3 : (fun wq : World => wq.cell? ⟨pb, pf + r * 2, none⟩ = some (Value.int .i64 o.z) ∧ wq.cell? ⟨pb, pf + r * 2 + 1, none⟩ = some (Value.int .u8 (o.f.toNat : Int))) w5 := ⟨(World.cell?_of_block (w := w4) (hc5.block pb (World.block_lt_of_cell? _ _ HC2.1) HNP.out)).trans HC2.1, (World.cell?_of_block (w := w4) (hc5.block pb (World.block_lt_of_cell? _ _ HC2.1) HNP.out)).trans HC2.2⟩
          refine ⟨fun _ => HC3, ?_⟩
          refine hK _ _ ?_
          clear F0 F1 F2 F3 F4 F5 F6 F7 F8 F9 F10 F11 F12 F13 F14 F15 ee13 ee2 ee15 ee7 HCC HC2 HC3
          simp only [Act.put, List.setIfInBounds_toArray, List.set_cons_succ, List.set_cons_zero]
          have hb4L : Below L W w4 := HB.out.trans (hb4'.mono (HLS.out _ HB.out))
          have HN5 : Hid (DQ L p L n q w5 x ∧ DQ M p' M n (r + 1) w5 ((y.noted k).put k 512 (fullL o.f)) ∧ Below L W w5) := ⟨(HX.out.more hb4').keep hc5 (fun j hj hj2 => by
            have h1 := HPM.out
            rcases hj with e | e <;> rcases hj2 with e2 | e2 <;> omega), hq5, hb4L.trans (hc5.below (HLS.out _ hb4L) (fun j hj => by have h1 := HPM.out; have h2 := (hq5.d.lt hj).1; omega))⟩
          clear hb4 hr4 hb4' hq5 hc5 hb4L kz kf HQ HX HB HNP
          obtain ⟨y', hy'⟩ : ∃ y', y' = (y.noted k).put k 512 (fullL o.f) := ⟨_, rfl⟩
          rw [← hy'] at HN5
          have HSE : Hid (secL y'.b k = fullL o.f) := by rw [Hid, hy']; exact secL_same (fullL_len o.f)
          clear hy'
          have hro5 := HRO.out.below HN5.out.2.2 (by rw [HL.out]; exact HPB.out)
          have kz : w5.cell? ⟨pb, pf + r * 2, none⟩ = some (.int .i64 o.z) := hro5 0 _ rfl
          have kf : w5.cell? ⟨pb, pf + r * 2 + 1, none⟩ = some (.int .u8 (o.f.toNat : Int)) := hro5 1 _ rfl
          have hrd := read_yes k w5 HN5.out.2.1.d HN5.out.2.1.off (by rw [HN5.out.2.1.n]; exact hsl)
          rw [HSE.out] at hrd
          have HRD : Hid _ := hrd
          clear hro5 hrd
          go_wp2_with fail
          refine Calls.mono (HSL.out _) ?_
          rintro e w9 ⟨rfl, hw9⟩
          replace hw9 := hw9.symm
          subst hw9
          go_wp2_with fail
          refine Calls.mono HRD.out ?_
          rintro e w6 ⟨v6, rfl, hr6, hb6⟩
          clear HRD kz kf
          have HN6 : Hid (DQ L p L n q w6 x ∧ DQ M p' M n (r + 1) w6 y' ∧ Below L W w6) := ⟨HN5.out.1.more hb6, HN5.out.2.1.more hb6, HN5.out.2.2.trans (hb6.mono (HLS.out _ HN5.out.2.2))⟩
          have HL5 : Hid (L ≤ w5.heap.size) := HLS.out _ HN5.out.2.2
          have HR6 : Hid (w6.ownsRow w5.heap.size 5 1 v6 512 ((fullL o.f).map B)) := hr6
          have HS6 : Hid (w5.heap.size ≤ w6.heap.size) := hb6.size
          have hro6 := HRO.out.below HN6.out.2.2 (by rw [HL.out]; exact HPB.out)
          have kf : w6.cell? ⟨pb, pf + r * 2 + 1, none⟩ = some (.int .u8 (o.f.toNat : Int)) := hro6 1 _ rfl
          obtain ⟨vo6, vc6, hv6, _⟩ := own_slice hr6
          have HV6 : Hid (v6 = .slice vo6 512 vc6) := hv6
          subst hv6
          clear HN5 hr6 hb6 hro6
          go_wp2_with fail
          refine Calls.mono (HFU.out _) ?_
          rintro e w7 ⟨v7, rfl, hr7, hb7⟩
          clear kf
          have HN7 : Hid (DQ L p L n q w7 x ∧ DQ M p' M n (r + 1) w7 y' ∧ Below L W w7) := ⟨HN6.out.1.more hb7, HN6.out.2.1.more hb7, HN6.out.2.2.trans (hb7.mono (HLS.out _ HN6.out.2.2))⟩
          have hr67 : w7.ownsRow w5.heap.size 5 1 (.slice vo6 512 vc6) 512 ((fullL o.f).map B) := ownsRow_same HR6.out (fun j hj => hb7.block j (ownsRow_lt HR6.out hj).2)
          have hsm := same_any w7 (own_by (by rw [fullL_len]; exact hr67)) (own_by (by rw [fullL_len]; exact hr7))
          rw [show (fullL o.f == fullL o.f) = true from by simp] at hsm
          have HSM : Hid _ := hsm
          have HSP : Hid _ := spoil_any w7 hr67 (Nat.le_trans HS6.out hb7.size) (by omega)
          have HR67 : Hid _ := hr67
          obtain ⟨vo7, vc7, hv7, _⟩ := own_slice hr7
          subst hv7
          clear HN6 HR6 HS6 hr7 hb7 hr67 hsm
          go_wp2_with fail
          refine Calls.mono HSM.out ?_
          rintro e w9 ⟨rfl, hw9⟩
          replace hw9 := hw9.symm
          subst hw9
          clear HSM
          go_wp2_with fail
          refine Calls.mono HSP.out ?_
          rintro e w8 ⟨rfl, _, hc8⟩
          clear HSP
          have HN8 : Hid (DQ L p L n q w8 x ∧ DQ M p' M n (r + 1) w8 y' ∧ Below L W w8) := by
            obtain ⟨h1, h2, h3⟩ := HN7.out
            exact ⟨h1.keep hc8 (fun j hj hg => h1.d.not_row HR67.out (by decide) hg hj), h2.keep hc8 (fun j hj hg => h2.d.not_row HR67.out (by decide) hg hj), h3.trans (hc8.below (HLS.out _ h3) (fun j hj => Nat.le_trans HL5.out (ownsRow_lt HR67.out hj).1))⟩
          have hro8 := HRO.out.below HN8.out.2.2 (by rw [HL.out]; exact HPB.out)
          have kz : w8.cell? ⟨pb, pf + r * 2, none⟩ = some (.int .i64 o.z) := hro8 0 _ rfl
          have kf : w8.cell? ⟨pb, pf + r * 2 + 1, none⟩ = some (.int .u8 (o.f.toNat : Int)) := hro8 1 _ rfl
          have HRDS : Hid (∀ w', Below w8.heap.size w8 w' → (Calls Try.prog 21 #[.pointer (some ⟨p, 0, none⟩)] w' fun e w2 => ∃ v', e = .returned v' ∧ w2.ownsRow w'.heap.size 5 1 v' (n * 512) (wl.map B) ∧ Below w'.heap.size w' w2) ∧ ∀ (v : Value) {Lv : Nat}, w'.ownsRow Lv 5 1 v 512 ((fullL o.f).map B) → Calls Try.prog 19 #[.pointer (some ⟨p', 0, none⟩), .int .i64 (k : Int), v] w' fun e w2 => e = .returned (.bool true) ∧ Below w'.heap.size w' w2) := fun w' hbw => ⟨HID.out w' (HN8.out.1.more hbw), fun v Lv hrv => by
            have h2 := HN8.out.2.1.more hbw
            have h := reads_any (v := v) (bs := fullL o.f) k w' h2.d h2.off (by rw [h2.n]; exact hsl) (own_by (by rw [fullL_len]; exact hrv))
            rw [HSE.out, show (fullL o.f == fullL o.f) = true from by simp] at h
            exact h⟩
          clear HN7 HR67 hc8 hro8
          go_wp2_with fail
          rename_i K hK
          try rw [show ∀ a : Act, a.put none undef = a from fun _ => rfl]
          refine wp_region_mix (fun wq : World => wq.cell? ⟨pb, pf + r * 2, none⟩ = some (Value.int .i64 o.z) ∧ wq.cell? ⟨pb, pf + r * 2 + 1, none⟩ = some (Value.int .u8 (o.f.toNat : Int))) (fun i => i == 10 || i == 16 || i == 17 || i == 22 || i == 23 || i == 99) 99 (by kernel_rfl) rfl (by kernel_rfl) (by kernel_rfl) (by kernel_rfl) ?_
          refine withFrP (N := 205) rfl ?_
          intro f0 F0 hff
          have ee18 : f0 18 = Value.bool true := hff 18
          have ee13 : f0 13 = Value.pointer (some ⟨p', 0, none⟩) := hff 13
          have ee2 : f0 2 = Value.slice (some ⟨pb, pf, none⟩) N2 cap2 := hff 2
          have ee15 : f0 15 = Value.int .i64 (r : Nat) := hff 15
          have ee7 : f0 7 = Value.int .i64 (n : Nat) := hff 7
          have ee8 : f0 8 = Value.pointer (some ⟨p, 0, none⟩) := hff 8
          have ee12 : f0 12 = Value.string ⟨wl.toArray⟩ := hff 12
          clear hff
          have HCC : (fun wq : World => wq.cell? ⟨pb, pf + r * 2, none⟩ = some (Value.int .i64 o.z) ∧ wq.cell? ⟨pb, pf + r * 2 + 1, none⟩ = some (Value.int .u8 (o.f.toNat : Int))) (({ w8 with drawn := w8.drawn + 1 } : World)) := ⟨kz, kf⟩
          refine lyp F0 rfl HCC rfl (by omega) (wanted_none rfl) (v := Value.bool true) (fun wr hwr => by simp only [execOp, (F0.eval 18 (by omega)).trans (show _ = Value.bool true from by simp [upd, ee18, ee13, ee2, ee15, ee7, ee8, ee12])]; first | rfl | simp [go_sem]) fun F1 => ?_
          refine lyp F1 rfl HCC rfl (by omega) (wanted_none rfl) (v := Value.bool false) (fun wr hwr => by simp only [execOp, (F1.eval 148 (by omega)).trans (show _ = Value.bool true from by simp [upd, ee18, ee13, ee2, ee15, ee7, ee8, ee12])]; simp [go_sem, Act.eval]) fun F2 => ?_
          refine lyp F2 rfl HCC rfl (by omega) (wanted_none rfl) (v := Value.bool false) (fun wr hwr => by simp only [execOp, (F2.eval 149 (by omega)).trans (show _ = Value.bool false from by simp [upd, ee18, ee13, ee2, ee15, ee7, ee8, ee12])]; first | rfl | simp [go_sem]) fun F3 => ?_
          refine lyp F3 rfl HCC rfl (by omega) (want_yes F3 rfl (e := 150) rfl (by omega) (show _ = Value.bool false from by simp [upd, ee18, ee13, ee2, ee15, ee7, ee8, ee12])) (v := Value.pointer (some ⟨p', 0, none⟩)) (fun wr hwr => by simp only [execOp, (F3.eval 13 (by omega)).trans (show _ = Value.pointer (some ⟨p', 0, none⟩) from by simp [upd, ee18, ee13, ee2, ee15, ee7, ee8, ee12])]; first | rfl | simp [go_sem]) fun F4 => ?_
          refine lyp F4 rfl HCC rfl (by omega) (want_yes F4 rfl (e := 150) rfl (by omega) (show _ = Value.bool false from by simp [upd, ee18, ee13, ee2, ee15, ee7, ee8, ee12])) (v := Value.slice (some ⟨pb, pf, none⟩) N2 cap2) (fun wr hwr => by simp only [execOp, (F4.eval 2 (by omega)).trans (show _ = Value.slice (some ⟨pb, pf, none⟩) N2 cap2 from by simp [upd, ee18, ee13, ee2, ee15, ee7, ee8, ee12])]; first | rfl | simp [go_sem]) fun F5 => ?_
          refine lyp F5 rfl HCC rfl (by omega) (want_yes F5 rfl (e := 150) rfl (by omega) (show _ = Value.bool false from by simp [upd, ee18, ee13, ee2, ee15, ee7, ee8, ee12])) (v := Value.int .i64 (r : Nat)) (fun wr hwr => by simp only [execOp, (F5.eval 15 (by omega)).trans (show _ = Value.int .i64 (r : Nat) from by simp [upd, ee18, ee13, ee2, ee15, ee7, ee8, ee12])]; first | rfl | simp [go_sem]) fun F6 => ?_
          refine lyp F6 rfl HCC rfl (by omega) (want_yes F6 rfl (e := 150) rfl (by omega) (show _ = Value.bool false from by simp [upd, ee18, ee13, ee2, ee15, ee7, ee8, ee12])) (v := Value.pointer (some ⟨pb, pf + r * 2, none⟩)) (fun wr hwr => by simp only [execOp, (F6.eval 152 (by omega)).trans (show _ = Value.slice (some ⟨pb, pf, none⟩) N2 cap2 from by simp [upd, ee18, ee13, ee2, ee15, ee7, ee8, ee12]), (F6.eval 153 (by omega)).trans (show _ = Value.int .i64 (r : Nat) from by simp [upd, ee18, ee13, ee2, ee15, ee7, ee8, ee12])]; simp only [Sem.run_bind, Sem.run_pure, Result.andThen_ok, idx_run 22 34 2 Try.underlying22 (by kernel_rfl) wr pb pf N2 cap2 r (by omega)]; try rfl) fun F7 => ?_
          refine lyp F7 rfl HCC rfl (by omega) (want_yes F7 rfl (e := 150) rfl (by omega) (show _ = Value.bool false from by simp [upd, ee18, ee13, ee2, ee15, ee7, ee8, ee12])) (v := Value.pointer (some ⟨pb, pf + r * 2, none⟩)) (fun wr hwr => by simp only [execOp, (F7.eval 154 (by omega)).trans (show _ = Value.pointer (some ⟨pb, pf + r * 2, none⟩) from by simp [upd, ee18, ee13, ee2, ee15, ee7, ee8, ee12])]; simp [go_sem]) fun F8 => ?_
          refine lyp F8 rfl HCC rfl (by omega) (want_yes F8 rfl (e := 150) rfl (by omega) (show _ = Value.bool false from by simp [upd, ee18, ee13, ee2, ee15, ee7, ee8, ee12])) (v := Value.int .i64 o.z) (fun wr hwr => by simp only [execOp, (F8.eval 155 (by omega)).trans (show _ = Value.pointer (some ⟨pb, pf + r * 2, none⟩) from by simp [upd, ee18, ee13, ee2, ee15, ee7, ee8, ee12])]; simp [go_sem, hwr.1]) fun F9 => ?_
          refine lyp F9 rfl HCC rfl (by omega) (want_yes F9 rfl (e := 150) rfl (by omega) (show _ = Value.bool false from by simp [upd, ee18, ee13, ee2, ee15, ee7, ee8, ee12])) (v := Value.int .i64 (n : Nat)) (fun wr hwr => by simp only [execOp, (F9.eval 7 (by omega)).trans (show _ = Value.int .i64 (n : Nat) from by simp [upd, ee18, ee13, ee2, ee15, ee7, ee8, ee12])]; first | rfl | simp [go_sem]) fun F10 => ?_
          refine lcp F10 rfl HCC rfl (by omega) (want_yes F10 rfl (e := 150) rfl (by omega) (show _ = Value.bool false from by simp [upd, ee18, ee13, ee2, ee15, ee7, ee8, ee12])) (g := 13) (args := #[Value.int .i64 o.z, Value.int .i64 (n : Nat)]) (by simp only [execOp, resolve, invoke, List.map_toArray, List.map_cons, List.map_nil, (F10.eval 156 (by omega)).trans (show _ = Value.int .i64 o.z from by simp [upd, ee18, ee13, ee2, ee15, ee7, ee8, ee12]), (F10.eval 157 (by omega)).trans (show _ = Value.int .i64 (n : Nat) from by simp [upd, ee18, ee13, ee2, ee15, ee7, ee8, ee12])]; simp [go_sem, Act.eval]) (HSL.out _) ?_
          rintro e9 w9 ⟨rfl, rfl⟩
          refine ⟨_, rfl, fun F11 => ?_⟩
          refine lyp F11 rfl HCC rfl (by omega) (want_yes F11 rfl (e := 150) rfl (by omega) (show _ = Value.bool false from by simp [upd, ee18, ee13, ee2, ee15, ee7, ee8, ee12])) (v := Value.slice (some ⟨pb, pf, none⟩) N2 cap2) (fun wr hwr => by simp only [execOp, (F11.eval 2 (by omega)).trans (show _ = Value.slice (some ⟨pb, pf, none⟩) N2 cap2 from by simp [upd, ee18, ee13, ee2, ee15, ee7, ee8, ee12])]; first | rfl | simp [go_sem]) fun F12 => ?_
          refine lyp F12 rfl HCC rfl (by omega) (want_yes F12 rfl (e := 150) rfl (by omega) (show _ = Value.bool false from by simp [upd, ee18, ee13, ee2, ee15, ee7, ee8, ee12])) (v := Value.int .i64 (r : Nat)) (fun wr hwr => by simp only [execOp, (F12.eval 15 (by omega)).trans (show _ = Value.int .i64 (r : Nat) from by simp [upd, ee18, ee13, ee2, ee15, ee7, ee8, ee12])]; first | rfl | simp [go_sem]) fun F13 => ?_
          refine lyp F13 rfl HCC rfl (by omega) (want_yes F13 rfl (e := 150) rfl (by omega) (show _ = Value.bool false from by simp [upd, ee18, ee13, ee2, ee15, ee7, ee8, ee12])) (v := Value.pointer (some ⟨pb, pf + r * 2, none⟩)) (fun wr hwr => by simp only [execOp, (F13.eval 159 (by omega)).trans (show _ = Value.slice (some ⟨pb, pf, none⟩) N2 cap2 from by simp [upd, ee18, ee13, ee2, ee15, ee7, ee8, ee12]), (F13.eval 160 (by omega)).trans (show _ = Value.int .i64 (r : Nat) from by simp [upd, ee18, ee13, ee2, ee15, ee7, ee8, ee12])]; simp only [Sem.run_bind, Sem.run_pure, Result.andThen_ok, idx_run 22 34 2 Try.underlying22 (by kernel_rfl) wr pb pf N2 cap2 r (by omega)]; try rfl) fun F14 => ?_
          refine lyp F14 rfl HCC rfl (by omega) (want_yes F14 rfl (e := 150) rfl (by omega) (show _ = Value.bool false from by simp [upd, ee18, ee13, ee2, ee15, ee7, ee8, ee12])) (v := Value.pointer (some ⟨pb, pf + r * 2 + 1, none⟩)) (fun wr hwr => by simp only [execOp, (F14.eval 161 (by omega)).trans (show _ = Value.pointer (some ⟨pb, pf + r * 2, none⟩) from by simp [upd, ee18, ee13, ee2, ee15, ee7, ee8, ee12])]; simp [go_sem]) fun F15 => ?_
          refine lyp F15 rfl HCC rfl (by omega) (want_yes F15 rfl (e := 150) rfl (by omega) (show _ = Value.bool false from by simp [upd, ee18, ee13, ee2, ee15, ee7, ee8, ee12])) (v := Value.int .u8 (o.f.toNat : Int)) (fun wr hwr => by simp only [execOp, (F15.eval 162 (by omega)).trans (show _ = Value.pointer (some ⟨pb, pf + r * 2 + 1, none⟩) from by simp [upd, ee18, ee13, ee2, ee15, ee7, ee8, ee12])]; simp [go_sem, hwr.2]) fun F16 => ?_
          refine lcp F16 rfl HCC rfl (by omega) (want_yes F16 rfl (e := 150) rfl (by omega) (show _ = Value.bool false from by simp [upd, ee18, ee13, ee2, ee15, ee7, ee8, ee12])) (g := 12) (args := #[Value.int .u8 (o.f.toNat : Int)]) (by simp only [execOp, resolve, invoke, List.map_toArray, List.map_cons, List.map_nil, (F16.eval 163 (by omega)).trans (show _ = Value.int .u8 (o.f.toNat : Int) from by simp [upd, ee18, ee13, ee2, ee15, ee7, ee8, ee12])]; simp [go_sem, Act.eval]) (HFU.out _) ?_
          rintro e9 wa ⟨va, rfl, hra, hba⟩
          refine ⟨_, rfl, fun F17 => ?_⟩
          have HC2 : (fun wq : World => wq.cell? ⟨pb, pf + r * 2, none⟩ = some (Value.int .i64 o.z) ∧ wq.cell? ⟨pb, pf + r * 2 + 1, none⟩ = some (Value.int .u8 (o.f.toNat : Int))) wa := ⟨(hba.cell (World.block_lt_of_cell? _ _ HCC.1)).trans HCC.1, (hba.cell (World.block_lt_of_cell? _ _ HCC.2)).trans HCC.2⟩
          have hba' : Below w8.heap.size w8 wa := (Below.drew (Below.refl _ _)).trans hba
          refine lcp F17 rfl HC2 rfl (by omega) (want_yes F17 rfl (e := 150) rfl (by omega) (show _ = Value.bool false from by simp [upd, ee18, ee13, ee2, ee15, ee7, ee8, ee12])) (g := 19) (args := #[Value.pointer (some ⟨p', 0, none⟩), Value.int .i64 (k : Nat), va]) (by simp only [execOp, resolve, invoke, List.map_toArray, List.map_cons, List.map_nil, (F17.eval 151 (by omega)).trans (show _ = Value.pointer (some ⟨p', 0, none⟩) from by simp [upd, ee18, ee13, ee2, ee15, ee7, ee8, ee12]), (F17.eval 158 (by omega)).trans (show _ = Value.int .i64 (k : Nat) from by simp [upd, ee18, ee13, ee2, ee15, ee7, ee8, ee12]), (F17.eval 164 (by omega)).trans (show _ = va from by simp [upd, ee18, ee13, ee2, ee15, ee7, ee8, ee12])]; simp [go_sem, Act.eval]) ((HRDS.out wa hba').2 va hra) ?_
          rintro e9 wb ⟨rfl, hbb⟩
          refine ⟨_, rfl, fun F18 => ?_⟩
          have HC3 : (fun wq : World => wq.cell? ⟨pb, pf + r * 2, none⟩ = some (Value.int .i64 o.z) ∧ wq.cell? ⟨pb, pf + r * 2 + 1, none⟩ = some (Value.int .u8 (o.f.toNat : Int))) wb := ⟨(hbb.cell (World.block_lt_of_cell? _ _ HC2.1)).trans HC2.1, (hbb.cell (World.block_lt_of_cell? _ _ HC2.2)).trans HC2.2⟩
          have hbb' : Below w8.heap.size w8 wb := hba'.trans (hbb.mono hba'.size)
          refine lyp F18 rfl HC3 rfl (by omega) (want_yes F18 rfl (e := 150) rfl (by omega) (show _ = Value.bool false from by simp [upd, ee18, ee13, ee2, ee15, ee7, ee8, ee12])) (v := Value.bool false) (fun wr hwr => by simp only [execOp, (F18.eval 165 (by omega)).trans (show _ = Value.bool true from by simp [upd, ee18, ee13, ee2, ee15, ee7, ee8, ee12])]; simp [go_sem, Act.eval]) fun F19 => ?_
          refine lyp F19 rfl HC3 rfl (by omega) (wanted_none rfl) (v := Value.bool false) (fun wr hwr => by simp only [execOp, (F19.eval 150 (by omega)).trans (show _ = Value.bool false from by simp [upd, ee18, ee13, ee2, ee15, ee7, ee8, ee12]), (F19.eval 166 (by omega)).trans (show _ = Value.bool false from by simp [upd, ee18, ee13, ee2, ee15, ee7, ee8, ee12])]; simp [go_sem, Act.eval]) fun F20 => ?_
          refine lyp F20 rfl HC3 rfl (by omega) (wanted_none rfl) (v := Value.bool false) (fun wr hwr => by simp only [execOp, (F20.eval 167 (by omega)).trans (show _ = Value.bool false from by simp [upd, ee18, ee13, ee2, ee15, ee7, ee8, ee12])]; first | rfl | simp [go_sem]) fun F21 => ?_
          refine lyp F21 rfl HC3 rfl (by omega) (want_yes F21 rfl (e := 168) rfl (by omega) (show _ = Value.bool false from by simp [upd, ee18, ee13, ee2, ee15, ee7, ee8, ee12])) (v := Value.pointer (some ⟨p, 0, none⟩)) (fun wr hwr => by simp only [execOp, (F21.eval 8 (by omega)).trans (show _ = Value.pointer (some ⟨p, 0, none⟩) from by simp [upd, ee18, ee13, ee2, ee15, ee7, ee8, ee12])]; first | rfl | simp [go_sem]) fun F22 => ?_
          refine lcp F22 rfl HC3 rfl (by omega) (want_yes F22 rfl (e := 168) rfl (by omega) (show _ = Value.bool false from by simp [upd, ee18, ee13, ee2, ee15, ee7, ee8, ee12])) (g := 21) (args := #[Value.pointer (some ⟨p, 0, none⟩)]) (by simp only [execOp, resolve, invoke, List.map_toArray, List.map_cons, List.map_nil, (F22.eval 169 (by omega)).trans (show _ = Value.pointer (some ⟨p, 0, none⟩) from by simp [upd, ee18, ee13, ee2, ee15, ee7, ee8, ee12])]; simp [go_sem, Act.eval]) ((HRDS.out wb hbb').1) ?_
          rintro e9 wc ⟨vc, rfl, hrc, hbc⟩
          refine ⟨_, rfl, fun F23 => ?_⟩
          have HC4 : (fun wq : World => wq.cell? ⟨pb, pf + r * 2, none⟩ = some (Value.int .i64 o.z) ∧ wq.cell? ⟨pb, pf + r * 2 + 1, none⟩ = some (Value.int .u8 (o.f.toNat : Int))) wc := ⟨(hbc.cell (World.block_lt_of_cell? _ _ HC3.1)).trans HC3.1, (hbc.cell (World.block_lt_of_cell? _ _ HC3.2)).trans HC3.2⟩
          have hbc' : Below w8.heap.size w8 wc := hbb'.trans (hbc.mono hbb'.size)
          have hcv : (convert 30 9 vc).run Try.prog wc = .ok (.string ⟨wl.toArray⟩) wc := conv_run (own_by (by rw [HWL.out]; exact hrc))
          refine lep F23 rfl HC4 rfl (by omega) (want_yes F23 rfl (e := 168) rfl (by omega) (show _ = Value.bool false from by simp [upd, ee18, ee13, ee2, ee15, ee7, ee8, ee12])) (v := Value.string ⟨wl.toArray⟩) (w1 := wc) (by simp only [execOp, (F23.eval 170 (by omega)).trans (show _ = vc from by simp [upd, ee18, ee13, ee2, ee15, ee7, ee8, ee12])]; simp only [Sem.run_bind, hcv, Result.andThen_ok, Sem.run_pure]) fun F24 => ?_
          refine lyp F24 rfl HC4 rfl (by omega) (want_yes F24 rfl (e := 168) rfl (by omega) (show _ = Value.bool false from by simp [upd, ee18, ee13, ee2, ee15, ee7, ee8, ee12])) (v := Value.string ⟨wl.toArray⟩) (fun wr hwr => by simp only [execOp, (F24.eval 12 (by omega)).trans (show _ = Value.string ⟨wl.toArray⟩ from by simp [upd, ee18, ee13, ee2, ee15, ee7, ee8, ee12])]; first | rfl | simp [go_sem]) fun F25 => ?_
          refine lyp F25 rfl HC4 rfl (by omega) (want_yes F25 rfl (e := 168) rfl (by omega) (show _ = Value.bool false from by simp [upd, ee18, ee13, ee2, ee15, ee7, ee8, ee12])) (v := Value.bool false) (fun wr hwr => by simp only [execOp, (F25.eval 171 (by omega)).trans (show _ = Value.string ⟨wl.toArray⟩ from by simp [upd, ee18, ee13, ee2, ee15, ee7, ee8, ee12]), (F25.eval 172 (by omega)).trans (show _ = Value.string ⟨wl.toArray⟩ from by simp [upd, ee18, ee13, ee2, ee15, ee7, ee8, ee12])]; simp [go_sem]) fun F26 => ?_
          refine lyp F26 rfl HC4 rfl (by omega) (wanted_none rfl) (v := Value.bool false) (fun wr hwr => by simp only [execOp, (F26.eval 168 (by omega)).trans (show _ = Value.bool false from by simp [upd, ee18, ee13, ee2, ee15, ee7, ee8, ee12]), (F26.eval 173 (by omega)).trans (show _ = Value.bool false from by simp [upd, ee18, ee13, ee2, ee15, ee7, ee8, ee12])]; simp [go_sem, Act.eval]) fun F27 => ?_
          refine ⟨fun _ => HC4, ?_⟩
          refine hK _ _ ?_
          clear F0 F1 F2 F3 F4 F5 F6 F7 F8 F9 F10 F11 F12 F13 F14 F15 F16 F17 F18 F19 F20 F21 F22 F23 F24 F25 F26 F27 ee18 ee13 ee2 ee15 ee7 ee8 ee12 HCC HC2 HC3 HC4
          simp only [Act.put, List.setIfInBounds_toArray, List.set_cons_succ, List.set_cons_zero]
          have HN : Hid ((DQ L p L n q wc x ∧ ∃ y, DQ M p' M n (r + 1) wc y) ∧ Below L W wc) := ⟨⟨HN8.out.1.more hbc', _, HN8.out.2.1.more hbc'⟩, HN8.out.2.2.trans (hbc'.mono (HLS.out _ HN8.out.2.2))⟩
          clear hra hba hba' hbb hbb' hrc hbc hbc' hcv HRDS HN8 kz kf
          go_wp2_with fail
          go_roundw
          case rel => exact ⟨r + 1, by omega, by go_num, HN.out.1, HN.out.2⟩
          case measure => simp [intOf]; omega
        · obtain rfl : r = N2 := by omega
          have HOF : Hid _ := off_any wr hy.d
          have HX : Hid (DQ L p L n q wr x ∧ DQ M p' M n r wr y ∧ Below L W wr) := ⟨hx, hy, hb⟩
          clear hx hy hb
          go_wp2_with fail
          refine Calls.mono HOF.out ?_
          rintro e w8 ⟨rfl, hd8, hc8⟩
          clear HOF
          have hx8 : DQ L p L n q w8 x := HX.out.1.keep hc8 (fun j hj e => by have h1 := HPM.out; rcases hj with e2 | e2 <;> omega)
          have HB8 : Hid (Below L W w8) := HX.out.2.2.trans (hc8.below (HLS.out _ HX.out.2.2) (fun j hj => by have h1 := HPM.out; omega))
          have hi1 := isOn_any w8 hx8.d
          rw [hx8.off] at hi1
          have hi2 : Calls Try.prog 17 #[.pointer (some ⟨p', 0, none⟩)] w8 fun e w' => e = .returned (.bool false) ∧ w' = w8 := isOn_any (x := y.offed) w8 hd8
          have hw1 : Calls Try.prog 20 #[.pointer (some ⟨p', 0, none⟩)] w8 fun e w' => e = .returned (.int .i64 (y.writes : Int)) ∧ w' = w8 := writes_any (x := y.offed) w8 hd8
          rw [HX.out.2.1.writes] at hw1
          have hw2 := writes_any w8 hx8.d
          rw [hx8.writes] at hw2
          have HI1 : Hid _ := hi1
          have HI2 : Hid _ := hi2
          have HW1 : Hid _ := hw1
          have HW2 : Hid _ := hw2
          have HIM : Hid _ := HID.out w8 hx8
          clear HX hd8 hc8 hx8 hi1 hi2 hw1 hw2
          go_wp2_with fail
          refine Calls.mono HI1.out ?_
          rintro e w9 ⟨rfl, hw9⟩
          replace hw9 := hw9.symm
          subst hw9
          clear HI1
          simp only [Bool.not_false]
          go_wp2_with fail
          refine Calls.mono HI2.out ?_
          rintro e w9 ⟨rfl, hw9⟩
          replace hw9 := hw9.symm
          subst hw9
          clear HI2
          go_wp2_with fail
          refine Calls.mono HW1.out ?_
          rintro e w9 ⟨rfl, hw9⟩
          replace hw9 := hw9.symm
          subst hw9
          clear HW1
          go_wp2_with fail
          refine Calls.mono HW2.out ?_
          rintro e w9 ⟨rfl, hw9⟩
          replace hw9 := hw9.symm
          subst hw9
          clear HW2
          go_wp2_with fail
          refine Calls.mono HIM.out ?_
          rintro e w9 ⟨v9, rfl, hr9, hb9⟩
          have hcv9 : (convert 30 9 v9).run Try.prog w9 = .ok (.string ⟨wl.toArray⟩) w9 := conv_run (own_by (by rw [HWL.out]; exact hr9))
          have HF : Hid (Below L W w9) := HB8.out.trans (hb9.mono (HLS.out _ HB8.out))
          obtain ⟨vo9, vc9, hv9, _⟩ := own_slice hr9
          subst hv9
          clear HIM hr9 hb9
          go_wp2_with fail
          go_ret
          exact ⟨rfl, by rw [← HL.out]; exact HF.out⟩
end Go.Proofs.Yteoecjfaboideaa
