import Derived.Test.YtlajcaofpmjdlaaMd
import Derived.Deep.Cut
namespace Go.Proofs.Ytlajcaofpmjdlaa
open Go.RowKit Go.PlainAid
set_option linter.unusedVariables false
set_option linter.unusedSimpArgs false
section
variable {L : Nat} {R : List (Ent L)}
def badImg (k : Nat) : Prop := k % 512 ≠ 0 ∨ k / 512 < 1 ∨ 65536 < k / 512
theorem from_bad {ao : Option Addr} {k c : Nat} (w : World) (h : badImg k) (hk : k ≤ 1000000000) : Calls Try.prog 24 #[.slice ao k c] w fun e w' => e = .returned (.tuple #[.pointer none, .int .i64 1]) ∧ w' = w := by
  by_cases h1 : k % 512 = 0
  · have e : k = k / 512 * 512 := by omega
    rw [e]
    exact from_no w (by rcases h with h | h; exact absurd h1 h; exact h) (by omega)
  · exact from_odd w h1
theorem rfrom_bad {ao : Option Addr} {k c : Nat} (w : World) (h : badImg k) (hk : k ≤ 1000000000) : Calls Try.prog 39 #[.slice ao k c] w fun e w' => e = .returned (.tuple #[.pointer none, .int .i64 1]) ∧ w' = w := by
  by_cases h1 : k % 512 = 0
  · have e : k = k / 512 * 512 := by omega
    rw [e]
    exact rfrom_no w (by rcases h with h | h; exact absurd h1 h; exact h) (by omega)
  · exact rfrom_odd w h1
set_option maxRecDepth 100000 in
set_option maxHeartbeats 6400000 in
theorem taken_no {vo : Option Addr} {vn vc : Nat} {bs : List UInt8} (w : World) (hb : By w (.slice vo vn vc) bs) (hs : vn ≤ 4194304) (hbad : badImg vn) :
    Calls Try.prog 31 #[.slice vo vn vc] w fun e w' => e = .returned (.tuple #[.pointer none, .bool true]) ∧ Below w.heap.size w w' := by
  have hvn : bs.length = vn := by obtain ⟨_, _, _, e, e2, _⟩ := id hb; cases e; exact e2
  have HA : Hid (∀ (w' : World) (ao : Option Addr) (c : Nat), Calls Try.prog 24 #[.slice ao vn c] w' fun e w2 => e = .returned (.tuple #[.pointer none, .int .i64 1]) ∧ w2 = w') := fun w' ao c => from_bad w' hbad (by omega)
  have HB : Hid (∀ (w' : World), Calls Try.prog 39 #[.slice vo vn vc] w' fun e w2 => e = .returned (.tuple #[.pointer none, .int .i64 1]) ∧ w2 = w') := fun w' => rfrom_bad w' hbad (by omega)
  have HL : Hid _ := lend_any w hb (by omega)
  have HBY : Hid (By w (.slice vo vn vc) bs) := hb
  have HVN : Hid (bs.length = vn ∧ vn ≤ 4194304) := ⟨hvn, hs⟩
  have hvs : vn ≤ 4194304 := hs
  clear hb hs hbad hvn
  go_enter Try.func31, Try.ntmps31
  go_wp2_with fail
  refine Calls.mono HL.out ?_
  rintro e w1 ⟨v1, rfl, hr1, hb1⟩
  clear HL
  rw [HVN.out.1] at hr1
  obtain ⟨g, cc, hv1, hcc⟩ : ∃ g cc, v1 = (Value.slice (some ⟨g, 0, none⟩) (vn + 40) cc) ∧ vn + 40 ≤ cc := by
    rcases id hr1.2 with ⟨e, e0⟩ | ⟨g2, c2, cur, e, _, _, hc, _⟩
    · omega
    · exact ⟨g2, c2, e, hc⟩
  subst hv1
  have hsl := slice30h g 0 (vn + 40) cc vn (by omega) w1
  have HK : Hid _ := kept_yes w1 hr1 (HBY.out.keep hb1) (by have := HVN.out; omega)
  have HB1 : Hid (Below w.heap.size w w1) := hb1
  have HG : Hid (w.heap.size ≤ g) := (ownsRow_lt hr1 (g := g) rfl).1
  have HCC : Hid (vn ≤ cc) := by have h2 : vn ≤ cc := by omega
                                 exact h2
  clear hr1 hb1 hcc
  go_wp2_with fail
  refine Calls.mono (HA.out w1 _ _) ?_
  rintro e w2 ⟨rfl, hw2⟩
  replace hw2 := hw2.symm
  subst hw2
  clear hsl
  go_wp2_with fail
  refine Calls.mono (HB.out w1) ?_
  rintro e w2 ⟨rfl, hw2⟩
  replace hw2 := hw2.symm
  subst hw2
  go_wp2_with fail
  refine Calls.mono HK.out ?_
  rintro e w2 ⟨rfl, ⟨ys, hr2⟩, hc2⟩
  clear HK
  have HB2 : Hid (Below w.heap.size w w2) := HB1.out.trans (hc2.below HB1.out.size (fun k e => by rw [e]; exact HG.out))
  have hsl := slice30h g 0 (vn + 40) cc vn HCC.out w2
  have HN := num_any 1 w2
  clear hr2 hc2 HB1
  go_wp2_with fail
  refine Calls.mono HN ?_
  rintro e w3 ⟨rfl, hw3⟩
  replace hw3 := hw3.symm
  subst hw3
  go_wp2_with fail
  refine Calls.mono (HA.out w2 _ _) ?_
  rintro e w3 ⟨rfl, hw3⟩
  replace hw3 := hw3.symm
  subst hw3
  clear hsl HN
  have HCX : Hid ((fun _ : World => True) w2) := trivial
  go_wp2_with fail
  rename_i K hK
  try rw [show ∀ a : Act, a.put none undef = a from fun _ => rfl]
  refine wp_region_mix (fun _ : World => True) (fun i => i == 1 || i == 99) 99 (by kernel_rfl) rfl (by kernel_rfl) (by kernel_rfl) (by kernel_rfl) ?_
  refine withFrP (N := 88) rfl ?_
  intro f0 F0 hff
  have ee11 : f0 11 = Value.int .i64 1 := hff 11
  have ee8 : f0 8 = Value.int .i64 1 := hff 8
  have ee10 : f0 10 = Value.pointer none := hff 10
  have ee7 : f0 7 = Value.pointer none := hff 7
  clear hff
  have HCC : (fun _ : World => True) (({ w2 with drawn := w2.drawn + 1 } : World)) := HCX.out
  refine lyp F0 rfl HCC rfl (by omega) (wanted_none rfl) (v := Value.int .i64 1) (fun wr hwr => by simp only [execOp, (F0.eval 11 (by omega)).trans (show _ = Value.int .i64 1 from by simp [upd, ee11, ee8, ee10, ee7])]; first | rfl | simp [go_sem]) fun F1 => ?_
  refine lcp F1 rfl HCC rfl (by omega) (wanted_none rfl) (g := 11) (args := #[Value.int .i64 1]) (by simp only [execOp, resolve, invoke, List.map_toArray, List.map_cons, List.map_nil, (F1.eval 53 (by omega)).trans (show _ = Value.int .i64 1 from by simp [upd, ee11, ee8, ee10, ee7])]; simp [go_sem, Act.eval]) (num_any 1 (({ w2 with drawn := w2.drawn + 1 } : World))) ?_
  rintro e9 w3 ⟨rfl, hw3⟩
  refine ⟨_, rfl, fun F2 => ?_⟩
  have HC1 : (fun _ : World => True) w3 := trivial
  refine lyp F2 rfl HC1 rfl (by omega) (wanted_none rfl) (v := Value.int .i64 1) (fun wr hwr => by simp only [execOp, (F2.eval 8 (by omega)).trans (show _ = Value.int .i64 1 from by simp [upd, ee11, ee8, ee10, ee7])]; first | rfl | simp [go_sem]) fun F3 => ?_
  refine lyp F3 rfl HC1 rfl (by omega) (wanted_none rfl) (v := Value.bool false) (fun wr hwr => by simp only [execOp, (F3.eval 54 (by omega)).trans (show _ = Value.int .i64 1 from by simp [upd, ee11, ee8, ee10, ee7]), (F3.eval 55 (by omega)).trans (show _ = Value.int .i64 1 from by simp [upd, ee11, ee8, ee10, ee7])]; simp [go_sem, Act.eval]) fun F4 => ?_
  refine lyp F4 rfl HC1 rfl (by omega) (wanted_none rfl) (v := Value.bool false) (fun wr hwr => by simp only [execOp, (F4.eval 56 (by omega)).trans (show _ = Value.bool false from by simp [upd, ee11, ee8, ee10, ee7])]; first | rfl | simp [go_sem]) fun F5 => ?_
  refine lyp F5 rfl HC1 rfl (by omega) (want_yes F5 rfl (e := 57) rfl (by omega) (show _ = Value.bool false from by simp [upd, ee11, ee8, ee10, ee7])) (v := Value.pointer none) (fun wr hwr => by simp only [execOp, (F5.eval 10 (by omega)).trans (show _ = Value.pointer none from by simp [upd, ee11, ee8, ee10, ee7])]; first | rfl | simp [go_sem]) fun F6 => ?_
  refine lyp F6 rfl HC1 rfl (by omega) (want_yes F6 rfl (e := 57) rfl (by omega) (show _ = Value.bool false from by simp [upd, ee11, ee8, ee10, ee7])) (v := Value.bool true) (fun wr hwr => by simp only [execOp, (F6.eval 58 (by omega)).trans (show _ = Value.pointer none from by simp [upd, ee11, ee8, ee10, ee7])]; simp [go_sem, Act.eval]) fun F7 => ?_
  refine lyp F7 rfl HC1 rfl (by omega) (want_yes F7 rfl (e := 57) rfl (by omega) (show _ = Value.bool false from by simp [upd, ee11, ee8, ee10, ee7])) (v := Value.pointer none) (fun wr hwr => by simp only [execOp, (F7.eval 7 (by omega)).trans (show _ = Value.pointer none from by simp [upd, ee11, ee8, ee10, ee7])]; first | rfl | simp [go_sem]) fun F8 => ?_
  refine lyp F8 rfl HC1 rfl (by omega) (want_yes F8 rfl (e := 57) rfl (by omega) (show _ = Value.bool false from by simp [upd, ee11, ee8, ee10, ee7])) (v := Value.bool true) (fun wr hwr => by simp only [execOp, (F8.eval 60 (by omega)).trans (show _ = Value.pointer none from by simp [upd, ee11, ee8, ee10, ee7])]; simp [go_sem, Act.eval]) fun F9 => ?_
  refine lyp F9 rfl HC1 rfl (by omega) (want_yes F9 rfl (e := 57) rfl (by omega) (show _ = Value.bool false from by simp [upd, ee11, ee8, ee10, ee7])) (v := Value.bool false) (fun wr hwr => by simp only [execOp, (F9.eval 59 (by omega)).trans (show _ = Value.bool true from by simp [upd, ee11, ee8, ee10, ee7]), (F9.eval 61 (by omega)).trans (show _ = Value.bool true from by simp [upd, ee11, ee8, ee10, ee7])]; simp [go_sem, Act.eval]) fun F10 => ?_
  refine lyp F10 rfl HC1 rfl (by omega) (wanted_none rfl) (v := Value.bool false) (fun wr hwr => by simp only [execOp, (F10.eval 57 (by omega)).trans (show _ = Value.bool false from by simp [upd, ee11, ee8, ee10, ee7]), (F10.eval 62 (by omega)).trans (show _ = Value.bool false from by simp [upd, ee11, ee8, ee10, ee7])]; simp [go_sem, Act.eval]) fun F11 => ?_
  refine lyp F11 rfl HC1 rfl (by omega) (wanted_none rfl) (v := Value.bool false) (fun wr hwr => by simp only [execOp, (F11.eval 63 (by omega)).trans (show _ = Value.bool false from by simp [upd, ee11, ee8, ee10, ee7])]; first | rfl | simp [go_sem]) fun F12 => ?_
  refine lyp F12 rfl HC1 rfl (by omega) (want_yes F12 rfl (e := 64) rfl (by omega) (show _ = Value.bool false from by simp [upd, ee11, ee8, ee10, ee7])) (v := Value.pointer none) (fun wr hwr => by simp only [execOp, (F12.eval 10 (by omega)).trans (show _ = Value.pointer none from by simp [upd, ee11, ee8, ee10, ee7])]; first | rfl | simp [go_sem]) fun F13 => ?_
  refine lyp F13 rfl HC1 rfl (by omega) (want_yes F13 rfl (e := 64) rfl (by omega) (show _ = Value.bool false from by simp [upd, ee11, ee8, ee10, ee7])) (v := Value.bool false) (fun wr hwr => by simp only [execOp, (F13.eval 65 (by omega)).trans (show _ = Value.pointer none from by simp [upd, ee11, ee8, ee10, ee7])]; simp [go_sem, Act.eval]) fun F14 => ?_
  refine lyp F14 rfl HC1 rfl (by omega) (want_yes F14 rfl (e := 64) rfl (by omega) (show _ = Value.bool false from by simp [upd, ee11, ee8, ee10, ee7])) (v := Value.bool false) (fun wr hwr => by simp only [execOp, (F14.eval 66 (by omega)).trans (show _ = Value.bool false from by simp [upd, ee11, ee8, ee10, ee7])]; first | rfl | simp [go_sem]) fun F15 => ?_
  refine lnp F15 rfl HC1 rfl (by omega) (want_no F15 rfl (e := 67) rfl (by omega) (show _ = Value.bool false from by simp [upd, ee11, ee8, ee10, ee7]) (by decide)) fun F16 => ?_
  refine lnp F16 rfl HC1 rfl (by omega) (want_no F16 rfl (e := 67) rfl (by omega) (show _ = Value.bool false from by simp [upd, ee11, ee8, ee10, ee7]) (by decide)) fun F17 => ?_
  refine lnp F17 rfl HC1 rfl (by omega) (want_no F17 rfl (e := 67) rfl (by omega) (show _ = Value.bool false from by simp [upd, ee11, ee8, ee10, ee7]) (by decide)) fun F18 => ?_
  refine lnp F18 rfl HC1 rfl (by omega) (want_no F18 rfl (e := 67) rfl (by omega) (show _ = Value.bool false from by simp [upd, ee11, ee8, ee10, ee7]) (by decide)) fun F19 => ?_
  refine lnp F19 rfl HC1 rfl (by omega) (want_no F19 rfl (e := 67) rfl (by omega) (show _ = Value.bool false from by simp [upd, ee11, ee8, ee10, ee7]) (by decide)) fun F20 => ?_
  refine lnp F20 rfl HC1 rfl (by omega) (want_no F20 rfl (e := 67) rfl (by omega) (show _ = Value.bool false from by simp [upd, ee11, ee8, ee10, ee7]) (by decide)) fun F21 => ?_
  refine lnp F21 rfl HC1 rfl (by omega) (want_no F21 rfl (e := 67) rfl (by omega) (show _ = Value.bool false from by simp [upd, ee11, ee8, ee10, ee7]) (by decide)) fun F22 => ?_
  refine lnp F22 rfl HC1 rfl (by omega) (want_no F22 rfl (e := 67) rfl (by omega) (show _ = Value.bool false from by simp [upd, ee11, ee8, ee10, ee7]) (by decide)) fun F23 => ?_
  refine lyp F23 rfl HC1 rfl (by omega) (want_yes F23 rfl (e := 64) rfl (by omega) (show _ = Value.bool false from by simp [upd, ee11, ee8, ee10, ee7])) (v := Value.bool false) (fun wr hwr => by simp only [execOp, (F23.eval 67 (by omega)).trans (show _ = Value.bool false from by simp [upd, ee11, ee8, ee10, ee7])]; simp [go_sem, Act.eval]) fun F24 => ?_
  refine lyp F24 rfl HC1 rfl (by omega) (wanted_none rfl) (v := Value.bool false) (fun wr hwr => by simp only [execOp, (F24.eval 64 (by omega)).trans (show _ = Value.bool false from by simp [upd, ee11, ee8, ee10, ee7]), (F24.eval 76 (by omega)).trans (show _ = Value.bool false from by simp [upd, ee11, ee8, ee10, ee7])]; simp [go_sem, Act.eval]) fun F25 => ?_
  refine ⟨fun _ => HC1, ?_⟩
  refine hK _ _ ?_
  clear F0 F1 F2 F3 F4 F5 F6 F7 F8 F9 F10 F11 F12 F13 F14 F15 F16 F17 F18 F19 F20 F21 F22 F23 F24 F25 ee11 ee8 ee10 ee7 HCC HC1
  simp only [Act.put, List.setIfInBounds_toArray, List.set_cons_succ, List.set_cons_zero]
  subst hw3
  have HF : Hid (Below w.heap.size w ({ w2 with drawn := w2.drawn + 1 } : World)) := ⟨HB2.out.os, HB2.out.tape, HB2.out.output, HB2.out.size, HB2.out.block⟩
  clear HB2 HCX
  go_wp2_with fail
  go_ret2
  exact ⟨rfl, HF.out⟩
end
end Go.Proofs.Ytlajcaofpmjdlaa
