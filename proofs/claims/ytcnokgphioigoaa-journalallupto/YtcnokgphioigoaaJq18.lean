import Derived.Test.YtcnokgphioigoaaQA
import Derived.Test.YtcnokgphioigoaaJB
import Derived.Deep.RegionWith
import Derived.BigQuiet
namespace Go.Proofs.Ytcnokgphioigoaa
open Go.RowKit Go.PlainAid
set_option linter.unusedVariables false
set_option linter.unusedSimpArgs false
set_option maxRecDepth 100000
set_option maxHeartbeats 6400000
theorem played_append {σ : Type} {L sb vn vc : Nat} {KK : Keeper σ L sb} {d : DK} {y : JV} {s : σ} {R : List (Ent L)} {vo : Option Addr} {bs : List UInt8} (a n : Int) (w : World) (h : Held (d.es L d.x (JE L d.jb y d.dead) (kE KK s :: R)) w) (hd : DKO d y) (hsb : d.sb = sb) (hall : ∀ W, Below L w W → By W (.slice vo vn vc) bs) (hl : bs.length = vn) (hvn : vn ≤ 140737488351232) (hwr : d.x.writes ≤ 800000000000000000) :
    Calls Try.prog 45 #[.pointer (some ⟨d.kb, 0, none⟩), .agg #[.int .i64 1, .int .i64 a, .int .i64 n, .slice vo vn vc]] w (PlQ KK d s R w) := by
  obtain ⟨ob, hob⟩ : ∃ b, b = w.heap.size := ⟨_, rfl⟩
  obtain ⟨w1, hw1⟩ : ∃ X, X = w.alloc (.cells #[.int .i64 1, .int .i64 a, .int .i64 n, .slice vo vn vc] 91) := ⟨_, rfl⟩
  have hL : L ≤ w.heap.size := dk_lo h
  have hb1 : Below L w w1 := by rw [hw1]; exact (Below.refl _ _).alloc hL _
  have h1 : Held (d.es L d.x (JE L d.jb y d.dead) (boxE L ob #[.int .i64 1, .int .i64 a, .int .i64 n, .slice vo vn vc] 91 :: kE KK s :: R)) w1 := by rw [hw1, hob]; exact dk_new h
  have o0 : w1.cell? ⟨ob, 0, none⟩ = some (.int .i64 1) := (dk_ob h1).cell 0
  have o1 : w1.cell? ⟨ob, 1, none⟩ = some (.int .i64 a) := (dk_ob h1).cell 1
  have o2 : w1.cell? ⟨ob, 2, none⟩ = some (.int .i64 n) := (dk_ob h1).cell 2
  have o3 : w1.cell? ⟨ob, 3, none⟩ = some (.slice vo vn vc) := (dk_ob h1).cell 3
  have c0 : w1.cell? ⟨d.kb, 0, none⟩ = some (.pointer (some ⟨d.p, 0, none⟩)) := (dk_box h1).cell 0
  have HL : Hid (Below L w w1 ∧ DKO d y ∧ d.sb = sb) := ⟨hb1, hd, hsb⟩
  have H1 : Hid (Held (d.es L d.x (JE L d.jb y d.dead) (boxE L ob #[.int .i64 1, .int .i64 a, .int .i64 n, .slice vo vn vc] 91 :: kE KK s :: R)) w1) := h1
  have HAP : Hid _ := appends_anyG w1 h1 hd (fun W hW => hall W (hb1.trans hW)) hl hvn hwr
  have HW0 : Hid _ := writes_any w1 (dk_dm h1)
  obtain ⟨W1, hW1⟩ : ∃ m, m = d.x.writes := ⟨_, rfl⟩
  have HW1 : Hid (W1 = d.x.writes ∧ d.x.writes ≤ 800000000000000000) := ⟨hW1, hwr⟩
  rw [← hW1] at HW0
  clear h hd hsb hb1 h1 hL o1 o2 hall hl hwr hW1
  go_enter Try.func45, Try.ntmps45
  go_upto_region 1 with fail
  rw [← hw1, ← hob]
  clear hw1 hob
  go_wp2_with fail
  refine Calls.mono HW0.out ?_
  rintro e wo ⟨rfl, hwo⟩
  replace hwo := hwo.symm
  subst hwo
  clear HW0
  go_wp2_with fail
  refine Calls.mono HAP.out ?_
  rintro e w2 ⟨rfl, d2, y2, hH, hD, hS, hWr, hB⟩
  obtain ⟨W2, hW2⟩ : ∃ m, m = d2.x.writes := ⟨_, rfl⟩
  obtain ⟨mn, hmn⟩ : ∃ m, m = min vn 8192 := ⟨_, rfl⟩
  obtain ⟨kq, hkq⟩ : ∃ m, m = kS mn := ⟨_, rfl⟩
  have hw2b : W2 ≤ W1 + kq := by rw [hW2, hkq, hmn, HW1.out.1]; exact hWr
  have hw1b : W1 ≤ 800000000000000000 := by rw [HW1.out.1]; exact HW1.out.2
  have hkqb : kq ≤ 17 := by rw [hkq]; exact kS_le mn (by omega)
  have HF2 : Hid (Held (d2.es L d2.x (JE L d2.jb y2 d2.dead) (boxE L ob #[.int .i64 1, .int .i64 a, .int .i64 n, .slice vo vn vc] 91 :: kE KK s :: R)) w2 ∧ DKO d2 y2 ∧ DSame d d2 ∧ d2.x.writes ≤ d.x.writes + 17 ∧ KK.cnt s ≤ KK.cnt s + 18 ∧ Below L w w2) := ⟨hH, hD, hS, by have := HW1.out.1; omega, by omega, HL.out.1.trans hB⟩
  obtain ⟨ig, ic, N9, bq, hbq, hf1, hf2, hf3, hf4⟩ := fin_facts d.kb d.p w2 HF2.out.1 HF2.out.2.1 HF2.out.2.2.1.kb HF2.out.2.2.1.p
  have HALL : Hid _ := hf1
  have HIM : Hid _ := hf2
  have HSM : Hid _ := hf3
  have HON : Hid _ := hf4
  clear hf1 hf2 hf3 hf4 hbq
  have HOB : Hid (∀ W, Below w2.heap.size w2 W → W.cell? ⟨ob, 3, none⟩ = some (.slice vo vn vc)) := fun W hW => (dk_ob (hH.more hW)).cell 3
  have HWS : Hid (∀ W, Below w2.heap.size w2 W → Calls Try.prog 26 #[.pointer (some ⟨d.p, 0, none⟩)] W fun e w' => e = .returned (.int .i64 (W2 : Int)) ∧ Below w2.heap.size w2 w') := fun W hW => by
    rw [hW2]
    have h9 := writes_any W (dk_dm (hH.more hW))
    rw [hS.p] at h9
    exact h9.mono fun e w' ⟨h1, h2⟩ => ⟨h1, by rw [h2]; exact hW⟩
  have HKC : Hid (∀ W, Below w2.heap.size w2 W → Calls Try.prog 59 #[.int .i64 (mn : Int)] W fun e w' => e = .returned (.int .i64 (kq : Int)) ∧ Below w2.heap.size w2 w') := fun W hW => by
    rw [hkq]
    exact (count_any mn W (by omega)).mono fun e w' ⟨h1, h2⟩ => ⟨h1, by rw [h2]; exact hW⟩
  have HMN : Hid ((if (8192 : Int) < (vn : Int) then 8192 else (vn : Int)) = (mn : Int)) := by rw [Hid, hmn]; split <;> omega
  clear HAP c0 o0 o3 hH hD hS hWr hB hW2 hmn hkq
  go_wp2_with fail
  rename_i K hK
  try rw [show ∀ a : Act, a.put none undef = a from fun _ => rfl]
  refine wp_region_mix (fun wz : World => Below w2.heap.size w2 wz) (fun i => i == 6 || i == 13 || i == 99) 99 (by kernel_rfl) rfl (by kernel_rfl) (by kernel_rfl) (by kernel_rfl) ?_
  refine withFrP (N := 147) rfl ?_
  intro f0 F0 hff
  have ee0 : f0 0 = Value.pointer (some ⟨d.kb, 0, none⟩) := hff 0
  have ee3 : f0 3 = Value.pointer (some ⟨ob, 0, none⟩) := hff 3
  have ee5 : f0 5 = Value.bool true := hff 5
  have ee6 : f0 6 = Value.int .i64 (W1 : Int) := hff 6
  clear hff
  have HCC : (fun wz : World => Below w2.heap.size w2 wz) (({ w2 with drawn := w2.drawn + 1 } : World)) := (below_dr (Below.refl _ _) 1 : Below w2.heap.size w2 (w2.drewN 1))
  refine lyp F0 rfl HCC rfl (by omega) (wanted_none rfl) (v := Value.bool true) (fun wr hwr => by simp only [execOp, (F0.eval 5 (by omega)).trans (show _ = Value.bool true from by simp [upd, ee0, ee3, ee5, ee6])]; first | rfl | simp [go_sem]) fun F1 => ?_
  refine lyp F1 rfl HCC rfl (by omega) (wanted_none rfl) (v := Value.bool true) (fun wr hwr => by simp only [execOp, (F1.eval 21 (by omega)).trans (show _ = Value.bool true from by simp [upd, ee0, ee3, ee5, ee6])]; first | rfl | simp [go_sem]) fun F2 => ?_
  refine lyp F2 rfl HCC rfl (by omega) (want_yes F2 rfl (e := 22) rfl (by omega) (show _ = Value.bool true from by simp [upd, ee0, ee3, ee5, ee6])) (v := Value.pointer (some ⟨d.kb, 0, none⟩)) (fun wr hwr => by simp only [execOp, (F2.eval 0 (by omega)).trans (show _ = Value.pointer (some ⟨d.kb, 0, none⟩) from by simp [upd, ee0, ee3, ee5, ee6])]; first | rfl | simp [go_sem]) fun F3 => ?_
  refine lyp F3 rfl HCC rfl (by omega) (want_yes F3 rfl (e := 22) rfl (by omega) (show _ = Value.bool true from by simp [upd, ee0, ee3, ee5, ee6])) (v := Value.pointer (some ⟨d.kb, 0, none⟩)) (fun wr hwr => by simp only [execOp, (F3.eval 23 (by omega)).trans (show _ = Value.pointer (some ⟨d.kb, 0, none⟩) from by simp [upd, ee0, ee3, ee5, ee6])]; simp [go_sem]) fun F4 => ?_
  refine lyp F4 rfl HCC rfl (by omega) (want_yes F4 rfl (e := 22) rfl (by omega) (show _ = Value.bool true from by simp [upd, ee0, ee3, ee5, ee6])) (v := Value.pointer (some ⟨d.kb, 0, none⟩)) (fun wr hwr => by simp only [execOp, (F4.eval 24 (by omega)).trans (show _ = Value.pointer (some ⟨d.kb, 0, none⟩) from by simp [upd, ee0, ee3, ee5, ee6])]; simp [go_sem]) fun F5 => ?_
  refine lyp F5 rfl HCC rfl (by omega) (want_yes F5 rfl (e := 22) rfl (by omega) (show _ = Value.bool true from by simp [upd, ee0, ee3, ee5, ee6])) (v := Value.pointer (some ⟨d.p, 0, none⟩)) (fun wr hwr => by simp only [execOp, (F5.eval 25 (by omega)).trans (show _ = Value.pointer (some ⟨d.kb, 0, none⟩) from by simp [upd, ee0, ee3, ee5, ee6])]; simp [go_sem, (HALL.out wr hwr).1]) fun F6 => ?_
  refine lcp F6 rfl HCC rfl (by omega) (want_yes F6 rfl (e := 22) rfl (by omega) (show _ = Value.bool true from by simp [upd, ee0, ee3, ee5, ee6])) (g := 26) (args := #[Value.pointer (some ⟨d.p, 0, none⟩)]) (by simp only [execOp, resolve, invoke, List.map_toArray, List.map_cons, List.map_nil, (F6.eval 26 (by omega)).trans (show _ = Value.pointer (some ⟨d.p, 0, none⟩) from by simp [upd, ee0, ee3, ee5, ee6])]; simp [go_sem, Act.eval]) (HWS.out _ HCC) ?_
  rintro e9 wA ⟨rfl, HA⟩
  refine ⟨_, rfl, fun F7 => ?_⟩
  refine lyp F7 rfl HA rfl (by omega) (want_yes F7 rfl (e := 22) rfl (by omega) (show _ = Value.bool true from by simp [upd, ee0, ee3, ee5, ee6])) (v := Value.int .i64 (W1 : Int)) (fun wr hwr => by simp only [execOp, (F7.eval 6 (by omega)).trans (show _ = Value.int .i64 (W1 : Int) from by simp [upd, ee0, ee3, ee5, ee6])]; first | rfl | simp [go_sem]) fun F8 => ?_
  refine lyp F8 rfl HA rfl (by omega) (want_yes F8 rfl (e := 22) rfl (by omega) (show _ = Value.bool true from by simp [upd, ee0, ee3, ee5, ee6])) (v := Value.int .i64 ((W2 : Int) - (W1 : Int))) (fun wr hwr => by simp only [execOp, (F8.eval 27 (by omega)).trans (show _ = Value.int .i64 (W2 : Int) from by simp [upd, ee0, ee3, ee5, ee6]), (F8.eval 28 (by omega)).trans (show _ = Value.int .i64 (W1 : Int) from by simp [upd, ee0, ee3, ee5, ee6])]; simp [go_sem, Act.eval, show IntKind.i64.wrap ((W2 : Int) - (W1 : Int)) = (W2 : Int) - (W1 : Int) from by rw [IntKind.wrap_i64]; omega]) fun F9 => ?_
  refine lyp F9 rfl HA rfl (by omega) (want_yes F9 rfl (e := 22) rfl (by omega) (show _ = Value.bool true from by simp [upd, ee0, ee3, ee5, ee6])) (v := Value.pointer (some ⟨ob, 3, none⟩)) (fun wr hwr => by simp only [execOp, (F9.eval 3 (by omega)).trans (show _ = Value.pointer (some ⟨ob, 0, none⟩) from by simp [upd, ee0, ee3, ee5, ee6])]; simp [go_sem]) fun F10 => ?_
  refine lyp F10 rfl HA rfl (by omega) (want_yes F10 rfl (e := 22) rfl (by omega) (show _ = Value.bool true from by simp [upd, ee0, ee3, ee5, ee6])) (v := Value.slice vo vn vc) (fun wr hwr => by simp only [execOp, (F10.eval 30 (by omega)).trans (show _ = Value.pointer (some ⟨ob, 3, none⟩) from by simp [upd, ee0, ee3, ee5, ee6])]; simp [go_sem, (HOB.out wr hwr)]) fun F11 => ?_
  refine lyp F11 rfl HA rfl (by omega) (want_yes F11 rfl (e := 22) rfl (by omega) (show _ = Value.bool true from by simp [upd, ee0, ee3, ee5, ee6])) (v := Value.int .i64 (vn : Nat)) (fun wr hwr => by simp only [execOp, resolve, invoke, builtin, List.map_toArray, List.map_cons, List.map_nil, (F11.eval 31 (by omega)).trans (show _ = Value.slice vo vn vc from by simp [upd, ee0, ee3, ee5, ee6])]; simp [go_sem, Builtin.len_, Builtin.lenOf]) fun F12 => ?_
  refine lyp F12 rfl HA rfl (by omega) (want_yes F12 rfl (e := 22) rfl (by omega) (show _ = Value.bool true from by simp [upd, ee0, ee3, ee5, ee6])) (v := Value.int .i64 (mn : Int)) (fun wr hwr => by simp only [execOp, resolve, invoke, builtin, List.map_toArray, List.map_cons, List.map_nil, (F12.eval 32 (by omega)).trans (show _ = Value.int .i64 (vn : Nat) from by simp [upd, ee0, ee3, ee5, ee6])]; simp [go_sem, Act.eval]; exact HMN.out) fun F13 => ?_
  refine lcp F13 rfl HA rfl (by omega) (want_yes F13 rfl (e := 22) rfl (by omega) (show _ = Value.bool true from by simp [upd, ee0, ee3, ee5, ee6])) (g := 59) (args := #[Value.int .i64 (mn : Int)]) (by simp only [execOp, resolve, invoke, List.map_toArray, List.map_cons, List.map_nil, (F13.eval 33 (by omega)).trans (show _ = Value.int .i64 (mn : Int) from by simp [upd, ee0, ee3, ee5, ee6])]; simp [go_sem, Act.eval]) (HKC.out _ HA) ?_
  rintro e9 wB ⟨rfl, HB⟩
  refine ⟨_, rfl, fun F14 => ?_⟩
  refine lyp F14 rfl HB rfl (by omega) (want_yes F14 rfl (e := 22) rfl (by omega) (show _ = Value.bool true from by simp [upd, ee0, ee3, ee5, ee6])) (v := Value.bool true) (fun wr hwr => by simp only [execOp, (F14.eval 29 (by omega)).trans (show _ = Value.int .i64 ((W2 : Int) - (W1 : Int)) from by simp [upd, ee0, ee3, ee5, ee6]), (F14.eval 34 (by omega)).trans (show _ = Value.int .i64 (kq : Int) from by simp [upd, ee0, ee3, ee5, ee6])]; simp [go_sem, Act.eval]; omega) fun F15 => ?_
  refine lyp F15 rfl HB rfl (by omega) (wanted_none rfl) (v := Value.bool true) (fun wr hwr => by simp only [execOp, (F15.eval 22 (by omega)).trans (show _ = Value.bool true from by simp [upd, ee0, ee3, ee5, ee6]), (F15.eval 35 (by omega)).trans (show _ = Value.bool true from by simp [upd, ee0, ee3, ee5, ee6])]; simp [go_sem, Act.eval]) fun F16 => ?_
  refine lyp F16 rfl HB rfl (by omega) (wanted_none rfl) (v := Value.bool true) (fun wr hwr => by simp only [execOp, (F16.eval 36 (by omega)).trans (show _ = Value.bool true from by simp [upd, ee0, ee3, ee5, ee6])]; first | rfl | simp [go_sem]) fun F17 => ?_
  refine ⟨fun _ => HB, ?_⟩
  refine hK _ _ ?_
  clear F0 F1 F2 F3 F4 F5 F6 F7 F8 F9 F10 F11 F12 F13 F14 F15 F16 F17 ee0 ee3 ee5 ee6 HCC
  simp only [Act.put, List.setIfInBounds_toArray, List.set_cons_succ, List.set_cons_zero]
  clear HA
  have HX : Below w2.heap.size w2 wB := HB
  clear HB HWS HKC HMN HOB
  go_wp2_with fail
  rename_i K hK
  try rw [show ∀ a : Act, a.put none undef = a from fun _ => rfl]
  refine wp_region_mix (fun wz : World => Below w2.heap.size w2 wz) (fun i => i == 6 || i == 11 || i == 18 || i == 99) 99 (by kernel_rfl) rfl (by kernel_rfl) (by kernel_rfl) (by kernel_rfl) ?_
  refine withFrP (N := 147) rfl ?_
  intro f0 F0 hff
  have ee0 : f0 0 = Value.pointer (some ⟨d.kb, 0, none⟩) := hff 0
  have ee5 : f0 5 = Value.bool true := hff 5
  clear hff
  have HCC : (fun wz : World => Below w2.heap.size w2 wz) (({ wB with drawn := wB.drawn + 1 } : World)) := (below_dr HX 1 : Below w2.heap.size w2 (wB.drewN 1))
  refine lyp F0 rfl HCC rfl (by omega) (wanted_none rfl) (v := Value.bool true) (fun wr hwr => by simp only [execOp, (F0.eval 5 (by omega)).trans (show _ = Value.bool true from by simp [upd, ee0, ee5])]; first | rfl | simp [go_sem]) fun F1 => ?_
  refine lyp F1 rfl HCC rfl (by omega) (wanted_none rfl) (v := Value.bool true) (fun wr hwr => by simp only [execOp, (F1.eval 122 (by omega)).trans (show _ = Value.bool true from by simp [upd, ee0, ee5])]; first | rfl | simp [go_sem]) fun F2 => ?_
  refine lyp F2 rfl HCC rfl (by omega) (want_yes F2 rfl (e := 123) rfl (by omega) (show _ = Value.bool true from by simp [upd, ee0, ee5])) (v := Value.pointer (some ⟨d.kb, 0, none⟩)) (fun wr hwr => by simp only [execOp, (F2.eval 0 (by omega)).trans (show _ = Value.pointer (some ⟨d.kb, 0, none⟩) from by simp [upd, ee0, ee5])]; first | rfl | simp [go_sem]) fun F3 => ?_
  refine lyp F3 rfl HCC rfl (by omega) (want_yes F3 rfl (e := 123) rfl (by omega) (show _ = Value.bool true from by simp [upd, ee0, ee5])) (v := Value.pointer (some ⟨d.kb, 0, none⟩)) (fun wr hwr => by simp only [execOp, (F3.eval 124 (by omega)).trans (show _ = Value.pointer (some ⟨d.kb, 0, none⟩) from by simp [upd, ee0, ee5])]; simp [go_sem]) fun F4 => ?_
  refine lyp F4 rfl HCC rfl (by omega) (want_yes F4 rfl (e := 123) rfl (by omega) (show _ = Value.bool true from by simp [upd, ee0, ee5])) (v := Value.pointer (some ⟨d.kb, 0, none⟩)) (fun wr hwr => by simp only [execOp, (F4.eval 125 (by omega)).trans (show _ = Value.pointer (some ⟨d.kb, 0, none⟩) from by simp [upd, ee0, ee5])]; simp [go_sem]) fun F5 => ?_
  refine lyp F5 rfl HCC rfl (by omega) (want_yes F5 rfl (e := 123) rfl (by omega) (show _ = Value.bool true from by simp [upd, ee0, ee5])) (v := Value.pointer (some ⟨d.p, 0, none⟩)) (fun wr hwr => by simp only [execOp, (F5.eval 126 (by omega)).trans (show _ = Value.pointer (some ⟨d.kb, 0, none⟩) from by simp [upd, ee0, ee5])]; simp [go_sem, (HALL.out wr hwr).1]) fun F6 => ?_
  refine lcp F6 rfl HCC rfl (by omega) (want_yes F6 rfl (e := 123) rfl (by omega) (show _ = Value.bool true from by simp [upd, ee0, ee5])) (g := 28) (args := #[Value.pointer (some ⟨d.p, 0, none⟩)]) (by simp only [execOp, resolve, invoke, List.map_toArray, List.map_cons, List.map_nil, (F6.eval 127 (by omega)).trans (show _ = Value.pointer (some ⟨d.p, 0, none⟩) from by simp [upd, ee0, ee5])]; simp [go_sem, Act.eval]) (HIM.out _ HCC) ?_
  rintro e9 wC ⟨vo', vn', vc', rfl, hby, HC⟩
  refine ⟨_, rfl, fun F7 => ?_⟩
  refine lyp F7 rfl HC rfl (by omega) (want_yes F7 rfl (e := 123) rfl (by omega) (show _ = Value.bool true from by simp [upd, ee0, ee5])) (v := Value.pointer (some ⟨d.kb, 0, none⟩)) (fun wr hwr => by simp only [execOp, (F7.eval 0 (by omega)).trans (show _ = Value.pointer (some ⟨d.kb, 0, none⟩) from by simp [upd, ee0, ee5])]; first | rfl | simp [go_sem]) fun F8 => ?_
  refine lyp F8 rfl HC rfl (by omega) (want_yes F8 rfl (e := 123) rfl (by omega) (show _ = Value.bool true from by simp [upd, ee0, ee5])) (v := Value.pointer (some ⟨d.kb, 0, none⟩)) (fun wr hwr => by simp only [execOp, (F8.eval 129 (by omega)).trans (show _ = Value.pointer (some ⟨d.kb, 0, none⟩) from by simp [upd, ee0, ee5])]; simp [go_sem]) fun F9 => ?_
  refine lyp F9 rfl HC rfl (by omega) (want_yes F9 rfl (e := 123) rfl (by omega) (show _ = Value.bool true from by simp [upd, ee0, ee5])) (v := Value.pointer (some ⟨d.kb, 2, none⟩)) (fun wr hwr => by simp only [execOp, (F9.eval 130 (by omega)).trans (show _ = Value.pointer (some ⟨d.kb, 0, none⟩) from by simp [upd, ee0, ee5])]; simp [go_sem]) fun F10 => ?_
  refine lyp F10 rfl HC rfl (by omega) (want_yes F10 rfl (e := 123) rfl (by omega) (show _ = Value.bool true from by simp [upd, ee0, ee5])) (v := Value.slice (some ⟨ig, 0, none⟩) (N9 * 512) ic) (fun wr hwr => by simp only [execOp, (F10.eval 131 (by omega)).trans (show _ = Value.pointer (some ⟨d.kb, 2, none⟩) from by simp [upd, ee0, ee5])]; simp [go_sem, (HALL.out wr hwr).2.1]) fun F11 => ?_
  refine lcp F11 rfl HC rfl (by omega) (want_yes F11 rfl (e := 123) rfl (by omega) (show _ = Value.bool true from by simp [upd, ee0, ee5])) (g := 27) (args := #[Value.slice vo' vn' vc', Value.slice (some ⟨ig, 0, none⟩) (N9 * 512) ic]) (by simp only [execOp, resolve, invoke, List.map_toArray, List.map_cons, List.map_nil, (F11.eval 128 (by omega)).trans (show _ = Value.slice vo' vn' vc' from by simp [upd, ee0, ee5]), (F11.eval 132 (by omega)).trans (show _ = Value.slice (some ⟨ig, 0, none⟩) (N9 * 512) ic from by simp [upd, ee0, ee5])]; simp [go_sem, Act.eval]) (HSM.out _ _ _ _ HC hby) ?_
  rintro e9 wD ⟨rfl, HD⟩
  refine ⟨_, rfl, fun F12 => ?_⟩
  refine lyp F12 rfl HD rfl (by omega) (wanted_none rfl) (v := Value.bool true) (fun wr hwr => by simp only [execOp, (F12.eval 123 (by omega)).trans (show _ = Value.bool true from by simp [upd, ee0, ee5]), (F12.eval 133 (by omega)).trans (show _ = Value.bool true from by simp [upd, ee0, ee5])]; simp [go_sem, Act.eval]) fun F13 => ?_
  refine lyp F13 rfl HD rfl (by omega) (wanted_none rfl) (v := Value.bool true) (fun wr hwr => by simp only [execOp, (F13.eval 134 (by omega)).trans (show _ = Value.bool true from by simp [upd, ee0, ee5])]; first | rfl | simp [go_sem]) fun F14 => ?_
  refine lyp F14 rfl HD rfl (by omega) (want_yes F14 rfl (e := 135) rfl (by omega) (show _ = Value.bool true from by simp [upd, ee0, ee5])) (v := Value.pointer (some ⟨d.kb, 0, none⟩)) (fun wr hwr => by simp only [execOp, (F14.eval 0 (by omega)).trans (show _ = Value.pointer (some ⟨d.kb, 0, none⟩) from by simp [upd, ee0, ee5])]; first | rfl | simp [go_sem]) fun F15 => ?_
  refine lyp F15 rfl HD rfl (by omega) (want_yes F15 rfl (e := 135) rfl (by omega) (show _ = Value.bool true from by simp [upd, ee0, ee5])) (v := Value.pointer (some ⟨d.kb, 0, none⟩)) (fun wr hwr => by simp only [execOp, (F15.eval 136 (by omega)).trans (show _ = Value.pointer (some ⟨d.kb, 0, none⟩) from by simp [upd, ee0, ee5])]; simp [go_sem]) fun F16 => ?_
  refine lyp F16 rfl HD rfl (by omega) (want_yes F16 rfl (e := 135) rfl (by omega) (show _ = Value.bool true from by simp [upd, ee0, ee5])) (v := Value.pointer (some ⟨d.kb, 0, none⟩)) (fun wr hwr => by simp only [execOp, (F16.eval 137 (by omega)).trans (show _ = Value.pointer (some ⟨d.kb, 0, none⟩) from by simp [upd, ee0, ee5])]; simp [go_sem]) fun F17 => ?_
  refine lyp F17 rfl HD rfl (by omega) (want_yes F17 rfl (e := 135) rfl (by omega) (show _ = Value.bool true from by simp [upd, ee0, ee5])) (v := Value.pointer (some ⟨d.p, 0, none⟩)) (fun wr hwr => by simp only [execOp, (F17.eval 138 (by omega)).trans (show _ = Value.pointer (some ⟨d.kb, 0, none⟩) from by simp [upd, ee0, ee5])]; simp [go_sem, (HALL.out wr hwr).1]) fun F18 => ?_
  refine lcp F18 rfl HD rfl (by omega) (want_yes F18 rfl (e := 135) rfl (by omega) (show _ = Value.bool true from by simp [upd, ee0, ee5])) (g := 33) (args := #[Value.pointer (some ⟨d.p, 0, none⟩)]) (by simp only [execOp, resolve, invoke, List.map_toArray, List.map_cons, List.map_nil, (F18.eval 139 (by omega)).trans (show _ = Value.pointer (some ⟨d.p, 0, none⟩) from by simp [upd, ee0, ee5])]; simp [go_sem, Act.eval]) (HON.out _ HD) ?_
  rintro e9 wE ⟨rfl, HE⟩
  refine ⟨_, rfl, fun F19 => ?_⟩
  refine lyp F19 rfl HE rfl (by omega) (want_yes F19 rfl (e := 135) rfl (by omega) (show _ = Value.bool true from by simp [upd, ee0, ee5])) (v := Value.pointer (some ⟨d.kb, 0, none⟩)) (fun wr hwr => by simp only [execOp, (F19.eval 0 (by omega)).trans (show _ = Value.pointer (some ⟨d.kb, 0, none⟩) from by simp [upd, ee0, ee5])]; first | rfl | simp [go_sem]) fun F20 => ?_
  refine lyp F20 rfl HE rfl (by omega) (want_yes F20 rfl (e := 135) rfl (by omega) (show _ = Value.bool true from by simp [upd, ee0, ee5])) (v := Value.pointer (some ⟨d.kb, 0, none⟩)) (fun wr hwr => by simp only [execOp, (F20.eval 141 (by omega)).trans (show _ = Value.pointer (some ⟨d.kb, 0, none⟩) from by simp [upd, ee0, ee5])]; simp [go_sem]) fun F21 => ?_
  refine lyp F21 rfl HE rfl (by omega) (want_yes F21 rfl (e := 135) rfl (by omega) (show _ = Value.bool true from by simp [upd, ee0, ee5])) (v := Value.pointer (some ⟨d.kb, 3, none⟩)) (fun wr hwr => by simp only [execOp, (F21.eval 142 (by omega)).trans (show _ = Value.pointer (some ⟨d.kb, 0, none⟩) from by simp [upd, ee0, ee5])]; simp [go_sem]) fun F22 => ?_
  refine lyp F22 rfl HE rfl (by omega) (want_yes F22 rfl (e := 135) rfl (by omega) (show _ = Value.bool true from by simp [upd, ee0, ee5])) (v := Value.bool bq) (fun wr hwr => by simp only [execOp, (F22.eval 143 (by omega)).trans (show _ = Value.pointer (some ⟨d.kb, 3, none⟩) from by simp [upd, ee0, ee5])]; simp [go_sem, (HALL.out wr hwr).2.2]) fun F23 => ?_
  refine lyp F23 rfl HE rfl (by omega) (want_yes F23 rfl (e := 135) rfl (by omega) (show _ = Value.bool true from by simp [upd, ee0, ee5])) (v := Value.bool true) (fun wr hwr => by simp only [execOp, (F23.eval 140 (by omega)).trans (show _ = Value.bool bq from by simp [upd, ee0, ee5]), (F23.eval 144 (by omega)).trans (show _ = Value.bool bq from by simp [upd, ee0, ee5])]; simp [go_sem, Act.eval]) fun F24 => ?_
  refine lyp F24 rfl HE rfl (by omega) (wanted_none rfl) (v := Value.bool true) (fun wr hwr => by simp only [execOp, (F24.eval 135 (by omega)).trans (show _ = Value.bool true from by simp [upd, ee0, ee5]), (F24.eval 145 (by omega)).trans (show _ = Value.bool true from by simp [upd, ee0, ee5])]; simp [go_sem, Act.eval]) fun F25 => ?_
  refine lyp F25 rfl HE rfl (by omega) (wanted_none rfl) (v := Value.bool true) (fun wr hwr => by simp only [execOp, (F25.eval 146 (by omega)).trans (show _ = Value.bool true from by simp [upd, ee0, ee5])]; first | rfl | simp [go_sem]) fun F26 => ?_
  refine ⟨fun _ => HE, ?_⟩
  refine hK _ _ ?_
  clear F0 F1 F2 F3 F4 F5 F6 F7 F8 F9 F10 F11 F12 F13 F14 F15 F16 F17 F18 F19 F20 F21 F22 F23 F24 F25 F26 ee0 ee5 HCC
  simp only [Act.put, List.setIfInBounds_toArray, List.set_cons_succ, List.set_cons_zero]
  have HF9 : Held (d2.es L d2.x (JE L d2.jb y2 d2.dead) (kE KK s :: R)) wE := dk_drop (HF2.out.1.more HE)
  have HF8 : Hid _ := HF9
  have HB8 : Hid (Below L w wE) := HF2.out.2.2.2.2.2.trans (HE.mono (dk_lo HF2.out.1))
  clear HC HD HE HX hby HF9
  go_wp2_with fail
  go_ret
  exact ⟨rfl, d2, y2, s, HF8.out, HF2.out.2.1, HF2.out.2.2.1, HF2.out.2.2.2.1, HF2.out.2.2.2.2.1, HB8.out⟩
end Go.Proofs.Ytcnokgphioigoaa
