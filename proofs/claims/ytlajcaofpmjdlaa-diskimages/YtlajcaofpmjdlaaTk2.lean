import Derived.Test.YtlajcaofpmjdlaaTk
import Derived.Deep.Cut
namespace Go.Proofs.Ytlajcaofpmjdlaa
open Go.RowKit Go.PlainAid
set_option linter.unusedVariables false
set_option linter.unusedSimpArgs false
theorem imgL_of (n : Nat) (bs : List UInt8) (h : bs.length = n * 512) : imgL (fromX n bs) = bs := by
  apply List.ext_getElem?
  intro j
  by_cases hj : j < n * 512
  · rw [imgL_get _ j (by show j < 512 * n; omega)]
    show some (if j < n * 512 then bs.getD j 0 else 0) = _
    rw [if_pos hj, List.getD_eq_getElem?_getD, List.getElem?_eq_getElem (by omega)]
    rfl
  · rw [List.getElem?_eq_none (by rw [imgL_len]; show 512 * n ≤ j; omega), List.getElem?_eq_none (by omega)]
section
variable {L : Nat} {R : List (Ent L)}
set_option maxRecDepth 100000 in
set_option maxHeartbeats 6400000 in
theorem taken_yes {vo : Option Addr} {n vn vc : Nat} {bs : List UInt8} (w : World) (hb : By w (.slice vo vn vc) bs) (hs : vn ≤ 4194304) (hvn : vn = n * 512) (hn : 1 ≤ n) (hR : Held R w) (hL : L ≤ w.heap.size) :
    Calls Try.prog 31 #[.slice vo vn vc] w fun e w' => ∃ pb p s rb fv, e = .returned (.tuple #[.pointer (some ⟨pb, 0, none⟩), .bool true]) ∧ PA L pb p s rb sv0 fv (.slice none 0 0) (.slice none 0 0) 0 [] (fromX n bs) (rfresh n bs) R w' ∧ Below w.heap.size w w' := by
  have hbl : bs.length = vn := by obtain ⟨_, _, _, e, e2, _⟩ := id hb; cases e; exact e2
  have HA : Hid (∀ (w' : World) (g c : Nat) (ys : List UInt8), By w' (.slice (some ⟨g, 0, none⟩) vn c) ys → vn ≤ c → Calls Try.prog 24 #[.slice (some ⟨g, 0, none⟩) vn c] w' fun e w2 => ∃ p s, e = .returned (.tuple #[.pointer (some ⟨p, 0, none⟩), .int .i64 0]) ∧ DM w'.heap.size p s (fromX n ys) w2 ∧ Below w'.heap.size w' w2) := fun w' g c ys hy hc => by
    rw [hvn] at hy hc ⊢
    refine (from_yes w' ⟨hn, by omega⟩ hy hc).mono ?_
    rintro e w2 ⟨rfl, h1, h2⟩
    exact ⟨_, _, rfl, h1, h2⟩
  have HB : Hid (∀ (w' : World), By w' (.slice vo vn vc) bs → Calls Try.prog 39 #[.slice vo vn vc] w' fun e w2 => ∃ rb fv, e = .returned (.tuple #[.pointer (some ⟨rb, 0, none⟩), .int .i64 0]) ∧ RM w'.heap.size rb fv (.slice none 0 0) (rfresh n bs) w2 ∧ Below w'.heap.size w' w2) := fun w' hy => by
    rw [hvn] at hy ⊢
    exact rfrom_yes w' ⟨hn, by omega⟩ hy
  have HL : Hid _ := lend_any w hb (by omega)
  have HBY : Hid (By w (.slice vo vn vc) bs) := hb
  have HVN : Hid (bs.length = vn ∧ vn ≤ 4194304 ∧ vn = n * 512) := ⟨hbl, hs, hvn⟩
  have HRR : Hid (Held R w ∧ L ≤ w.heap.size) := ⟨hR, hL⟩
  have hvs : vn ≤ 4194304 := hs
  clear hb hs hvn hn hbl hR hL
  go_enter Try.func31, Try.ntmps31
  go_wp2_with fail
  refine Calls.mono HL.out ?_
  rintro e w1 ⟨v1, rfl, hr1, hb1⟩
  clear HL
  rw [HVN.out.1] at hr1
  obtain ⟨g, cc, hv1, hcc⟩ : ∃ g cc, v1 = (Value.slice (some ⟨g, 0, none⟩) (vn + 40) cc) ∧ vn + 40 ≤ cc := by
    rcases id hr1.2 with ⟨e, e0⟩ | ⟨g2, c2, cur, e, _, _, hc, _⟩
    · omega
    · exact ⟨g2, c2, e, hc⟩
  subst hv1
  have hsl := slice30h g 0 (vn + 40) cc vn (by omega) w1
  have HCC2 : Hid (vn ≤ cc) := by have h2 : vn ≤ cc := by omega
                                  exact h2
  have HF1 : Hid _ := HA.out w1 g cc bs (own_front hr1 HVN.out.1) HCC2.out
  have HG : Hid (w.heap.size ≤ g ∧ g < w1.heap.size) := ownsRow_lt hr1 (g := g) rfl
  have H1 : Hid (w1.ownsRow w.heap.size 5 1 (Value.slice (some ⟨g, 0, none⟩) (vn + 40) cc) (vn + 40) ((bs ++ mk40).map B) ∧ Below w.heap.size w w1) := ⟨hr1, hb1⟩
  clear hr1 hb1 hcc
  go_wp2_with fail
  refine Calls.mono HF1.out ?_
  rintro e w2 ⟨p, s, rfl, hd2, hb2⟩
  clear HF1 hsl
  have HF2 : Hid _ := HB.out w2 ((HBY.out.keep H1.out.2).keep hb2)
  have H2 : Hid (Held (dmE L p s (fromX n bs) :: R) w2 ∧ Below w1.heap.size w1 w2 ∧ (∀ k, down p s k → w1.heap.size ≤ k)) := by
    have hLw : L ≤ w1.heap.size := Nat.le_trans HRR.out.2 H1.out.2.size
    refine ⟨Held.fresh (HRR.out.1.more H1.out.2) hb2 (e := dmE L p s (fromX n bs)) ⟨hd2.box, hd2.sec, ⟨Nat.le_trans hLw hd2.lo.1, Nat.le_trans hLw hd2.lo.2⟩, hd2.nb⟩ (fun k hk => (hd2.lt hk).1), hb2, fun k hk => (hd2.lt hk).1⟩
  clear hd2 hb2
  go_wp2_with fail
  refine Calls.mono HF2.out ?_
  rintro e w3 ⟨rb, fv, rfl, hd3, hb3⟩
  clear HF2
  have H3 : Hid (Held (rdE L rb fv (.slice none 0 0) (rfresh n bs) :: dmE L p s (fromX n bs) :: R) w3 ∧ Below w1.heap.size w1 w3 ∧ (∀ k, rown rb fv (.slice none 0 0) (rfresh n bs) k → w1.heap.size ≤ k)) := by
    have hLw : L ≤ w2.heap.size := Nat.le_trans HRR.out.2 (Nat.le_trans H1.out.2.size H2.out.2.1.size)
    refine ⟨Held.fresh H2.out.1 hb3 (e := rdE L rb fv (.slice none 0 0) (rfresh n bs)) ⟨hd3.b, ownsRow_mono hd3.f hLw, ownsRow_mono hd3.l hLw, fun g hg => ownsRow_mono (hd3.d g hg) hLw, Nat.le_trans hLw hd3.lo, hd3.nb, hd3.sz, hd3.fl⟩ (fun k hk => (hd3.lt hk).1), H2.out.2.1.trans (hb3.mono H2.out.2.1.size), fun k hk => Nat.le_trans H2.out.2.1.size (hd3.lt hk).1⟩
  have hr3 : w3.ownsRow w.heap.size 5 1 (Value.slice (some ⟨g, 0, none⟩) (vn + 40) cc) (vn + 40) ((bs ++ mk40).map B) := ownsRow_same H1.out.1 (fun k hk => H3.out.2.1.block k (ownsRow_lt H1.out.1 hk).2)
  have HK : Hid _ := kept_yes w3 hr3 ((HBY.out.keep H1.out.2).keep H3.out.2.1) (by have := HVN.out; omega)
  clear hd3 hb3 hr3
  go_wp2_with fail
  refine Calls.mono HK.out ?_
  rintro e w4 ⟨rfl, ⟨ys, hr4⟩, hc4⟩
  clear HK
  have hyl : ys.length = vn + 40 := by have := hr4.1; simpa using this
  have hby4 : By w4 (.slice (some ⟨g, 0, none⟩) vn cc) (ys.take vn) := own_front (xs := ys.take vn) (ys := ys.drop vn) (by rw [List.take_append_drop]; exact hr4) (by rw [List.length_take]; omega)
  have H4 : Hid (Held (rdE L rb fv (.slice none 0 0) (rfresh n bs) :: dmE L p s (fromX n bs) :: R) w4 ∧ Below w.heap.size w w4 ∧ By w4 (.slice (some ⟨g, 0, none⟩) vn cc) (ys.take vn)) := by
    refine ⟨H3.out.1.chg hc4 (fun k hk e => ?_), (H1.out.2.trans (H3.out.2.1.mono H1.out.2.size)).trans (hc4.below (Nat.le_trans H1.out.2.size H3.out.2.1.size) (fun k e => by rw [e]; exact HG.out.1)), hby4⟩
    have hg := HG.out
    rcases has_cons.1 hk with h | h
    · have := H3.out.2.2 k h; omega
    · rcases has_cons.1 h with h | h
      · have := H2.out.2.2 k h; omega
      · have := (HRR.out.1.typ h).2; omega
  have hsl := slice30h g 0 (vn + 40) cc vn HCC2.out w4
  have HF4 : Hid _ := HA.out w4 g cc (ys.take vn) hby4 HCC2.out
  have HYL : Hid ((ys.take vn).length = n * 512) := by have h2 : (ys.take vn).length = n * 512 := by (rw [List.length_take]; have := HVN.out; omega)
                                                       exact h2
  have HN := num_any 0 w4
  clear hr4 hc4 hyl hby4
  go_wp2_with fail
  refine Calls.mono HN ?_
  rintro e w5 ⟨rfl, hw5⟩
  replace hw5 := hw5.symm
  subst hw5
  go_wp2_with fail
  refine Calls.mono HF4.out ?_
  rintro e w5 ⟨p2, s2, rfl, hd5, hb5⟩
  clear hsl HN HF4
  have H5 : Hid (DM w4.heap.size p2 s2 (fromX n (ys.take vn)) w5 ∧ Below w4.heap.size w4 w5) := ⟨hd5, hb5⟩
  clear hd5 hb5
  have HCX : Hid ((fun _ : World => True) w5) := trivial
  go_wp2_with fail
  rename_i K hK
  try rw [show ∀ a : Act, a.put none undef = a from fun _ => rfl]
  refine wp_region_mix (fun _ : World => True) (fun i => i == 1 || i == 16 || i == 21 || i == 99) 99 (by kernel_rfl) rfl (by kernel_rfl) (by kernel_rfl) (by kernel_rfl) ?_
  refine withFrP (N := 88) rfl ?_
  intro f0 F0 hff
  have ee11 : f0 11 = Value.int .i64 0 := hff 11
  have ee8 : f0 8 = Value.int .i64 0 := hff 8
  have ee10 : f0 10 = Value.pointer (some ⟨p2, 0, none⟩) := hff 10
  have ee7 : f0 7 = Value.pointer (some ⟨rb, 0, none⟩) := hff 7
  have ee4 : f0 4 = Value.slice (some ⟨g, 0, none⟩) (vn + 40) cc := hff 4
  have ee0 : f0 0 = Value.slice vo vn vc := hff 0
  clear hff
  have HCC : (fun _ : World => True) (({ w5 with drawn := w5.drawn + 1 } : World)) := HCX.out
  refine lyp F0 rfl HCC rfl (by omega) (wanted_none rfl) (v := Value.int .i64 0) (fun wr hwr => by simp only [execOp, (F0.eval 11 (by omega)).trans (show _ = Value.int .i64 0 from by simp [upd, ee11, ee8, ee10, ee7, ee4, ee0])]; first | rfl | simp [go_sem]) fun F1 => ?_
  refine lcp F1 rfl HCC rfl (by omega) (wanted_none rfl) (g := 11) (args := #[Value.int .i64 0]) (by simp only [execOp, resolve, invoke, List.map_toArray, List.map_cons, List.map_nil, (F1.eval 53 (by omega)).trans (show _ = Value.int .i64 0 from by simp [upd, ee11, ee8, ee10, ee7, ee4, ee0])]; simp [go_sem, Act.eval]) (num_any 0 (({ w5 with drawn := w5.drawn + 1 } : World))) ?_
  rintro e9 w6 ⟨rfl, hw6⟩
  refine ⟨_, rfl, fun F2 => ?_⟩
  have HC1 : (fun _ : World => True) w6 := trivial
  refine lyp F2 rfl HC1 rfl (by omega) (wanted_none rfl) (v := Value.int .i64 0) (fun wr hwr => by simp only [execOp, (F2.eval 8 (by omega)).trans (show _ = Value.int .i64 0 from by simp [upd, ee11, ee8, ee10, ee7, ee4, ee0])]; first | rfl | simp [go_sem]) fun F3 => ?_
  refine lyp F3 rfl HC1 rfl (by omega) (wanted_none rfl) (v := Value.bool false) (fun wr hwr => by simp only [execOp, (F3.eval 54 (by omega)).trans (show _ = Value.int .i64 0 from by simp [upd, ee11, ee8, ee10, ee7, ee4, ee0]), (F3.eval 55 (by omega)).trans (show _ = Value.int .i64 0 from by simp [upd, ee11, ee8, ee10, ee7, ee4, ee0])]; simp [go_sem, Act.eval]) fun F4 => ?_
  refine lyp F4 rfl HC1 rfl (by omega) (wanted_none rfl) (v := Value.bool false) (fun wr hwr => by simp only [execOp, (F4.eval 56 (by omega)).trans (show _ = Value.bool false from by simp [upd, ee11, ee8, ee10, ee7, ee4, ee0])]; first | rfl | simp [go_sem]) fun F5 => ?_
  refine lyp F5 rfl HC1 rfl (by omega) (want_yes F5 rfl (e := 57) rfl (by omega) (show _ = Value.bool false from by simp [upd, ee11, ee8, ee10, ee7, ee4, ee0])) (v := Value.pointer (some ⟨p2, 0, none⟩)) (fun wr hwr => by simp only [execOp, (F5.eval 10 (by omega)).trans (show _ = Value.pointer (some ⟨p2, 0, none⟩) from by simp [upd, ee11, ee8, ee10, ee7, ee4, ee0])]; first | rfl | simp [go_sem]) fun F6 => ?_
  refine lyp F6 rfl HC1 rfl (by omega) (want_yes F6 rfl (e := 57) rfl (by omega) (show _ = Value.bool false from by simp [upd, ee11, ee8, ee10, ee7, ee4, ee0])) (v := Value.bool false) (fun wr hwr => by simp only [execOp, (F6.eval 58 (by omega)).trans (show _ = Value.pointer (some ⟨p2, 0, none⟩) from by simp [upd, ee11, ee8, ee10, ee7, ee4, ee0])]; simp [go_sem, Act.eval]) fun F7 => ?_
  refine lyp F7 rfl HC1 rfl (by omega) (want_yes F7 rfl (e := 57) rfl (by omega) (show _ = Value.bool false from by simp [upd, ee11, ee8, ee10, ee7, ee4, ee0])) (v := Value.pointer (some ⟨rb, 0, none⟩)) (fun wr hwr => by simp only [execOp, (F7.eval 7 (by omega)).trans (show _ = Value.pointer (some ⟨rb, 0, none⟩) from by simp [upd, ee11, ee8, ee10, ee7, ee4, ee0])]; first | rfl | simp [go_sem]) fun F8 => ?_
  refine lyp F8 rfl HC1 rfl (by omega) (want_yes F8 rfl (e := 57) rfl (by omega) (show _ = Value.bool false from by simp [upd, ee11, ee8, ee10, ee7, ee4, ee0])) (v := Value.bool false) (fun wr hwr => by simp only [execOp, (F8.eval 60 (by omega)).trans (show _ = Value.pointer (some ⟨rb, 0, none⟩) from by simp [upd, ee11, ee8, ee10, ee7, ee4, ee0])]; simp [go_sem, Act.eval]) fun F9 => ?_
  refine lyp F9 rfl HC1 rfl (by omega) (want_yes F9 rfl (e := 57) rfl (by omega) (show _ = Value.bool false from by simp [upd, ee11, ee8, ee10, ee7, ee4, ee0])) (v := Value.bool false) (fun wr hwr => by simp only [execOp, (F9.eval 59 (by omega)).trans (show _ = Value.bool false from by simp [upd, ee11, ee8, ee10, ee7, ee4, ee0]), (F9.eval 61 (by omega)).trans (show _ = Value.bool false from by simp [upd, ee11, ee8, ee10, ee7, ee4, ee0])]; simp [go_sem, Act.eval]) fun F10 => ?_
  refine lyp F10 rfl HC1 rfl (by omega) (wanted_none rfl) (v := Value.bool false) (fun wr hwr => by simp only [execOp, (F10.eval 57 (by omega)).trans (show _ = Value.bool false from by simp [upd, ee11, ee8, ee10, ee7, ee4, ee0]), (F10.eval 62 (by omega)).trans (show _ = Value.bool false from by simp [upd, ee11, ee8, ee10, ee7, ee4, ee0])]; simp [go_sem, Act.eval]) fun F11 => ?_
  refine lyp F11 rfl HC1 rfl (by omega) (wanted_none rfl) (v := Value.bool false) (fun wr hwr => by simp only [execOp, (F11.eval 63 (by omega)).trans (show _ = Value.bool false from by simp [upd, ee11, ee8, ee10, ee7, ee4, ee0])]; first | rfl | simp [go_sem]) fun F12 => ?_
  refine lyp F12 rfl HC1 rfl (by omega) (want_yes F12 rfl (e := 64) rfl (by omega) (show _ = Value.bool false from by simp [upd, ee11, ee8, ee10, ee7, ee4, ee0])) (v := Value.pointer (some ⟨p2, 0, none⟩)) (fun wr hwr => by simp only [execOp, (F12.eval 10 (by omega)).trans (show _ = Value.pointer (some ⟨p2, 0, none⟩) from by simp [upd, ee11, ee8, ee10, ee7, ee4, ee0])]; first | rfl | simp [go_sem]) fun F13 => ?_
  refine lyp F13 rfl HC1 rfl (by omega) (want_yes F13 rfl (e := 64) rfl (by omega) (show _ = Value.bool false from by simp [upd, ee11, ee8, ee10, ee7, ee4, ee0])) (v := Value.bool true) (fun wr hwr => by simp only [execOp, (F13.eval 65 (by omega)).trans (show _ = Value.pointer (some ⟨p2, 0, none⟩) from by simp [upd, ee11, ee8, ee10, ee7, ee4, ee0])]; simp [go_sem, Act.eval]) fun F14 => ?_
  refine lyp F14 rfl HC1 rfl (by omega) (want_yes F14 rfl (e := 64) rfl (by omega) (show _ = Value.bool false from by simp [upd, ee11, ee8, ee10, ee7, ee4, ee0])) (v := Value.bool true) (fun wr hwr => by simp only [execOp, (F14.eval 66 (by omega)).trans (show _ = Value.bool true from by simp [upd, ee11, ee8, ee10, ee7, ee4, ee0])]; first | rfl | simp [go_sem]) fun F15 => ?_
  refine lyp F15 rfl HC1 rfl (by omega) (want_yes F15 rfl (e := 67) rfl (by omega) (show _ = Value.bool true from by simp [upd, ee11, ee8, ee10, ee7, ee4, ee0])) (v := Value.pointer (some ⟨p2, 0, none⟩)) (fun wr hwr => by simp only [execOp, (F15.eval 10 (by omega)).trans (show _ = Value.pointer (some ⟨p2, 0, none⟩) from by simp [upd, ee11, ee8, ee10, ee7, ee4, ee0])]; first | rfl | simp [go_sem]) fun F16 => ?_
  refine lcp F16 rfl HC1 rfl (by omega) (want_yes F16 rfl (e := 67) rfl (by omega) (show _ = Value.bool true from by simp [upd, ee11, ee8, ee10, ee7, ee4, ee0])) (g := 21) (args := #[Value.pointer (some ⟨p2, 0, none⟩)]) (by simp only [execOp, resolve, invoke, List.map_toArray, List.map_cons, List.map_nil, (F16.eval 68 (by omega)).trans (show _ = Value.pointer (some ⟨p2, 0, none⟩) from by simp [upd, ee11, ee8, ee10, ee7, ee4, ee0])]; simp [go_sem, Act.eval]) (image_any w6 (L := w4.heap.size) (p := p2) (s := s2) (x := fromX n (ys.take vn)) (by rw [hw6]; exact H5.out.1.more ⟨rfl, rfl, rfl, Nat.le_refl _, fun _ _ => rfl⟩)) ?_
  rintro e9 w7 ⟨v7, rfl, hr7, hb7⟩
  rw [imgL_of n _ HYL.out] at hr7
  have hb57 : Below w5.heap.size w5 w7 := by rw [hw6] at hb7; exact ⟨hb7.os, hb7.tape, hb7.output, hb7.size, hb7.block⟩
  have hsm := same_any w7 (own_by (s := ys.take vn) (by rw [HYL.out]; rw [show 512 * (fromX n (ys.take vn)).n = n * 512 from by show 512 * n = n * 512; omega] at hr7; exact hr7)) ((H4.out.2.2.keep H5.out.2).keep hb57)
  rw [show (ys.take vn == ys.take vn) = true from by simp] at hsm
  refine ⟨_, rfl, fun F17 => ?_⟩
  have HC2 : (fun _ : World => True) w7 := trivial
  refine lyp F17 rfl HC2 rfl (by omega) (want_yes F17 rfl (e := 67) rfl (by omega) (show _ = Value.bool true from by simp [upd, ee11, ee8, ee10, ee7, ee4, ee0])) (v := Value.slice (some ⟨g, 0, none⟩) (vn + 40) cc) (fun wr hwr => by simp only [execOp, (F17.eval 4 (by omega)).trans (show _ = Value.slice (some ⟨g, 0, none⟩) (vn + 40) cc from by simp [upd, ee11, ee8, ee10, ee7, ee4, ee0])]; first | rfl | simp [go_sem]) fun F18 => ?_
  refine lyp F18 rfl HC2 rfl (by omega) (want_yes F18 rfl (e := 67) rfl (by omega) (show _ = Value.bool true from by simp [upd, ee11, ee8, ee10, ee7, ee4, ee0])) (v := Value.slice vo vn vc) (fun wr hwr => by simp only [execOp, (F18.eval 0 (by omega)).trans (show _ = Value.slice vo vn vc from by simp [upd, ee11, ee8, ee10, ee7, ee4, ee0])]; first | rfl | simp [go_sem]) fun F19 => ?_
  refine lyp F19 rfl HC2 rfl (by omega) (want_yes F19 rfl (e := 67) rfl (by omega) (show _ = Value.bool true from by simp [upd, ee11, ee8, ee10, ee7, ee4, ee0])) (v := Value.int .i64 (vn : Nat)) (fun wr hwr => by simp only [execOp, resolve, invoke, builtin, List.map_toArray, List.map_cons, List.map_nil, (F19.eval 71 (by omega)).trans (show _ = Value.slice vo vn vc from by simp [upd, ee11, ee8, ee10, ee7, ee4, ee0])]; simp [go_sem, Builtin.len_, Builtin.lenOf]) fun F20 => ?_
  refine lyp F20 rfl HC2 rfl (by omega) (want_yes F20 rfl (e := 67) rfl (by omega) (show _ = Value.bool true from by simp [upd, ee11, ee8, ee10, ee7, ee4, ee0])) (v := Value.slice (some ⟨g, 0, none⟩) vn cc) (fun wr hwr => by simp only [execOp, Option.map_some, Option.map_none, (F20.eval 70 (by omega)).trans (show _ = Value.slice (some ⟨g, 0, none⟩) (vn + 40) cc from by simp [upd, ee11, ee8, ee10, ee7, ee4, ee0]), (F20.eval 72 (by omega)).trans (show _ = Value.int .i64 (vn : Nat) from by simp [upd, ee11, ee8, ee10, ee7, ee4, ee0])]; simp only [Sem.run_bind, slice30h g 0 (vn + 40) cc vn HCC2.out wr, Result.andThen_ok, Sem.run_pure]; try rfl) fun F21 => ?_
  refine lcp F21 rfl HC2 rfl (by omega) (want_yes F21 rfl (e := 67) rfl (by omega) (show _ = Value.bool true from by simp [upd, ee11, ee8, ee10, ee7, ee4, ee0])) (g := 27) (args := #[v7, Value.slice (some ⟨g, 0, none⟩) vn cc]) (by simp only [execOp, resolve, invoke, List.map_toArray, List.map_cons, List.map_nil, (F21.eval 69 (by omega)).trans (show _ = v7 from by simp [upd, ee11, ee8, ee10, ee7, ee4, ee0]), (F21.eval 73 (by omega)).trans (show _ = Value.slice (some ⟨g, 0, none⟩) vn cc from by simp [upd, ee11, ee8, ee10, ee7, ee4, ee0])]; simp [go_sem, Act.eval]) hsm ?_
  rintro e9 w8 ⟨rfl, hw8⟩
  refine ⟨_, rfl, fun F22 => ?_⟩
  have HC3 : (fun _ : World => True) w8 := trivial
  refine lyp F22 rfl HC3 rfl (by omega) (want_yes F22 rfl (e := 67) rfl (by omega) (show _ = Value.bool true from by simp [upd, ee11, ee8, ee10, ee7, ee4, ee0])) (v := Value.bool false) (fun wr hwr => by simp only [execOp, (F22.eval 74 (by omega)).trans (show _ = Value.bool true from by simp [upd, ee11, ee8, ee10, ee7, ee4, ee0])]; simp [go_sem, Act.eval]) fun F23 => ?_
  refine lyp F23 rfl HC3 rfl (by omega) (want_yes F23 rfl (e := 64) rfl (by omega) (show _ = Value.bool false from by simp [upd, ee11, ee8, ee10, ee7, ee4, ee0])) (v := Value.bool false) (fun wr hwr => by simp only [execOp, (F23.eval 67 (by omega)).trans (show _ = Value.bool true from by simp [upd, ee11, ee8, ee10, ee7, ee4, ee0]), (F23.eval 75 (by omega)).trans (show _ = Value.bool false from by simp [upd, ee11, ee8, ee10, ee7, ee4, ee0])]; simp [go_sem, Act.eval]) fun F24 => ?_
  refine lyp F24 rfl HC3 rfl (by omega) (wanted_none rfl) (v := Value.bool false) (fun wr hwr => by simp only [execOp, (F24.eval 64 (by omega)).trans (show _ = Value.bool false from by simp [upd, ee11, ee8, ee10, ee7, ee4, ee0]), (F24.eval 76 (by omega)).trans (show _ = Value.bool false from by simp [upd, ee11, ee8, ee10, ee7, ee4, ee0])]; simp [go_sem, Act.eval]) fun F25 => ?_
  refine ⟨fun _ => HC3, ?_⟩
  refine hK _ _ ?_
  clear F0 F1 F2 F3 F4 F5 F6 F7 F8 F9 F10 F11 F12 F13 F14 F15 F16 F17 F18 F19 F20 F21 F22 F23 F24 F25 ee11 ee8 ee10 ee7 ee4 ee0 HCC HC1 HC2 HC3
  simp only [Act.put, List.setIfInBounds_toArray, List.set_cons_succ, List.set_cons_zero]
  replace hw8 := hw8.symm
  subst hw8
  have hb47 : Below w4.heap.size w4 w7 := H5.out.2.trans (hb57.mono H5.out.2.size)
  have h7 : Held (rdE L rb fv (.slice none 0 0) (rfresh n bs) :: dmE L p s (fromX n bs) :: R) w7 := H4.out.1.more hb47
  have hb7w : Below w.heap.size w w7 := H4.out.2.1.trans (hb47.mono H4.out.2.1.size)
  have h8 := pair_new (h7.perm (List.Perm.swap _ _ _)) (Nat.le_trans HRR.out.2 hb7w.size)
  obtain ⟨X, hX⟩ : ∃ X, X = w7.alloc (.cells (sv0.cs (.pointer (some ⟨p, 0, none⟩)) (.pointer (some ⟨rb, 0, none⟩)) (.slice none 0 0) 0) 66) := ⟨_, rfl⟩
  have hbX : Below w.heap.size w X := by rw [hX]; exact hb7w.alloc hb7w.size _
  rw [← hX] at h8
  have HF : Hid _ := And.intro h8 hbX
  have HX : Hid (X = w7.alloc (.cells #[.pointer (some ⟨p, 0, none⟩), .pointer (some ⟨rb, 0, none⟩), .slice none 0 0, .slice none 0 0, .slice none 0 0, .slice none 0 0, .int .i64 0, .slice none 0 0, .slice none 0 0, .slice none 0 0, .slice none 0 0, .int .i64 0, .slice none 0 0, .int .i64 0] 66)) := hX
  clear hw6 hr7 hb7 hb57 hsm hb47 h7 hb7w h8 hbX hX HCX H1 H2 H3 H4 H5
  go_wp2_with fail
  rw [← HX.out]
  go_ret2
  exact ⟨_, _, _, _, _, rfl, HF.out.1, HF.out.2⟩
end
end Go.Proofs.Ytlajcaofpmjdlaa
