import Derived.Test.YtcnokgphioigoaaQA
import Derived.Test.YtcnokgphioigoaaJB
import Derived.Deep.RegionWith
import Derived.BigQuiet
namespace Go.Proofs.Ytcnokgphioigoaa
open Go.RowKit Go.PlainAid
set_option linter.unusedVariables false
set_option linter.unusedSimpArgs false
set_option maxRecDepth 100000
set_option maxHeartbeats 6400000
theorem played_other {σ : Type} {L sb vn vc : Nat} {KK : Keeper σ L sb} {d : DK} {y : JV} {s : σ} {R : List (Ent L)} {vo : Option Addr} (z : Int) (a n : Int) (w : World) (h : Held (d.es L d.x (JE L d.jb y d.dead) (kE KK s :: R)) w) (hd : DKO d y) (hsb : d.sb = sb) (hz : z < 1 ∨ 7 < z) :
    Calls Try.prog 45 #[.pointer (some ⟨d.kb, 0, none⟩), .agg #[.int .i64 z, .int .i64 a, .int .i64 n, .slice vo vn vc]] w (PlQ KK d s R w) := by
  obtain ⟨ob, hob⟩ : ∃ b, b = w.heap.size := ⟨_, rfl⟩
  obtain ⟨w1, hw1⟩ : ∃ X, X = w.alloc (.cells #[.int .i64 z, .int .i64 a, .int .i64 n, .slice vo vn vc] 91) := ⟨_, rfl⟩
  have hL : L ≤ w.heap.size := dk_lo h
  have hb1 : Below L w w1 := by rw [hw1]; exact (Below.refl _ _).alloc hL _
  have h1 : Held (d.es L d.x (JE L d.jb y d.dead) (boxE L ob #[.int .i64 z, .int .i64 a, .int .i64 n, .slice vo vn vc] 91 :: kE KK s :: R)) w1 := by rw [hw1, hob]; exact dk_new h
  have o0 : w1.cell? ⟨ob, 0, none⟩ = some (.int .i64 z) := (dk_ob h1).cell 0
  have o1 : w1.cell? ⟨ob, 1, none⟩ = some (.int .i64 a) := (dk_ob h1).cell 1
  have o2 : w1.cell? ⟨ob, 2, none⟩ = some (.int .i64 n) := (dk_ob h1).cell 2
  have o3 : w1.cell? ⟨ob, 3, none⟩ = some (.slice vo vn vc) := (dk_ob h1).cell 3
  have c0 : w1.cell? ⟨d.kb, 0, none⟩ = some (.pointer (some ⟨d.p, 0, none⟩)) := (dk_box h1).cell 0
  have HL : Hid (Below L w w1 ∧ DKO d y ∧ d.sb = sb) := ⟨hb1, hd, hsb⟩
  have H1 : Hid (Held (d.es L d.x (JE L d.jb y d.dead) (boxE L ob #[.int .i64 z, .int .i64 a, .int .i64 n, .slice vo vn vc] 91 :: kE KK s :: R)) w1) := h1
  have e1 : (z == 1) = false := by simp; omega
  have e2 : (z == 2) = false := by simp; omega
  have e3 : (z == 3) = false := by simp; omega
  have e4 : (z == 4) = false := by simp; omega
  have e5 : (z == 5) = false := by simp; omega
  have e6 : (z == 6) = false := by simp; omega
  have e7 : (z == 7) = false := by simp; omega
  clear h hd hsb hb1 h1 hL hz c0 o1 o2 o3
  go_enter Try.func45, Try.ntmps45
  go_upto_region 1 with fail
  rw [← hw1, ← hob]
  clear hw1 hob
  have HF2 : Hid (Held (d.es L d.x (JE L d.jb y d.dead) (boxE L ob #[.int .i64 z, .int .i64 a, .int .i64 n, .slice vo vn vc] 91 :: kE KK s :: R)) w1 ∧ DKO d y ∧ DSame d d ∧ d.x.writes ≤ d.x.writes + 17 ∧ KK.cnt s ≤ KK.cnt s + 18 ∧ Below L w w1) := ⟨H1.out, HL.out.2.1, DSame.refl d, by omega, by omega, HL.out.1⟩
  obtain ⟨ig, ic, N9, bq, _, hf1, hf2, hf3, hf4⟩ := fin_facts d.kb d.p w1 HF2.out.1 HF2.out.2.1 HF2.out.2.2.1.kb HF2.out.2.2.1.p
  have HALL : Hid _ := hf1
  have HIM : Hid _ := hf2
  have HSM : Hid _ := hf3
  have HON : Hid _ := hf4
  have HX : Below w1.heap.size w1 w1 := Below.refl _ _
  clear hf1 hf2 hf3 hf4
  go_wp2_with fail
  rename_i K hK
  try rw [show ∀ a : Act, a.put none undef = a from fun _ => rfl]
  refine wp_region_mix (fun wz : World => Below w1.heap.size w1 wz) (fun i => i == 6 || i == 11 || i == 18 || i == 99) 99 (by kernel_rfl) rfl (by kernel_rfl) (by kernel_rfl) (by kernel_rfl) ?_
  refine withFrP (N := 147) rfl ?_
  intro f0 F0 hff
  have ee0 : f0 0 = Value.pointer (some ⟨d.kb, 0, none⟩) := hff 0
  have ee5 : f0 5 = Value.bool true := hff 5
  clear hff
  have HCC : (fun wz : World => Below w1.heap.size w1 wz) (({ w1 with drawn := w1.drawn + 1 } : World)) := (below_dr HX 1 : Below w1.heap.size w1 (w1.drewN 1))
  refine lyp F0 rfl HCC rfl (by omega) (wanted_none rfl) (v := Value.bool true) (fun wr hwr => by simp only [execOp, (F0.eval 5 (by omega)).trans (show _ = Value.bool true from by simp [upd, ee0, ee5])]; first | rfl | simp [go_sem]) fun F1 => ?_
  refine lyp F1 rfl HCC rfl (by omega) (wanted_none rfl) (v := Value.bool true) (fun wr hwr => by simp only [execOp, (F1.eval 122 (by omega)).trans (show _ = Value.bool true from by simp [upd, ee0, ee5])]; first | rfl | simp [go_sem]) fun F2 => ?_
  refine lyp F2 rfl HCC rfl (by omega) (want_yes F2 rfl (e := 123) rfl (by omega) (show _ = Value.bool true from by simp [upd, ee0, ee5])) (v := Value.pointer (some ⟨d.kb, 0, none⟩)) (fun wr hwr => by simp only [execOp, (F2.eval 0 (by omega)).trans (show _ = Value.pointer (some ⟨d.kb, 0, none⟩) from by simp [upd, ee0, ee5])]; first | rfl | simp [go_sem]) fun F3 => ?_
  refine lyp F3 rfl HCC rfl (by omega) (want_yes F3 rfl (e := 123) rfl (by omega) (show _ = Value.bool true from by simp [upd, ee0, ee5])) (v := Value.pointer (some ⟨d.kb, 0, none⟩)) (fun wr hwr => by simp only [execOp, (F3.eval 124 (by omega)).trans (show _ = Value.pointer (some ⟨d.kb, 0, none⟩) from by simp [upd, ee0, ee5])]; simp [go_sem]) fun F4 => ?_
  refine lyp F4 rfl HCC rfl (by omega) (want_yes F4 rfl (e := 123) rfl (by omega) (show _ = Value.bool true from by simp [upd, ee0, ee5])) (v := Value.pointer (some ⟨d.kb, 0, none⟩)) (fun wr hwr => by simp only [execOp, (F4.eval 125 (by omega)).trans (show _ = Value.pointer (some ⟨d.kb, 0, none⟩) from by simp [upd, ee0, ee5])]; simp [go_sem]) fun F5 => ?_
  refine lyp F5 rfl HCC rfl (by omega) (want_yes F5 rfl (e := 123) rfl (by omega) (show _ = Value.bool true from by simp [upd, ee0, ee5])) (v := Value.pointer (some ⟨d.p, 0, none⟩)) (fun wr hwr => by simp only [execOp, (F5.eval 126 (by omega)).trans (show _ = Value.pointer (some ⟨d.kb, 0, none⟩) from by simp [upd, ee0, ee5])]; simp [go_sem, (HALL.out wr hwr).1]) fun F6 => ?_
  refine lcp F6 rfl HCC rfl (by omega) (want_yes F6 rfl (e := 123) rfl (by omega) (show _ = Value.bool true from by simp [upd, ee0, ee5])) (g := 28) (args := #[Value.pointer (some ⟨d.p, 0, none⟩)]) (by simp only [execOp, resolve, invoke, List.map_toArray, List.map_cons, List.map_nil, (F6.eval 127 (by omega)).trans (show _ = Value.pointer (some ⟨d.p, 0, none⟩) from by simp [upd, ee0, ee5])]; simp [go_sem, Act.eval]) (HIM.out _ HCC) ?_
  rintro e9 wC ⟨vo', vn', vc', rfl, hby, HC⟩
  refine ⟨_, rfl, fun F7 => ?_⟩
  refine lyp F7 rfl HC rfl (by omega) (want_yes F7 rfl (e := 123) rfl (by omega) (show _ = Value.bool true from by simp [upd, ee0, ee5])) (v := Value.pointer (some ⟨d.kb, 0, none⟩)) (fun wr hwr => by simp only [execOp, (F7.eval 0 (by omega)).trans (show _ = Value.pointer (some ⟨d.kb, 0, none⟩) from by simp [upd, ee0, ee5])]; first | rfl | simp [go_sem]) fun F8 => ?_
  refine lyp F8 rfl HC rfl (by omega) (want_yes F8 rfl (e := 123) rfl (by omega) (show _ = Value.bool true from by simp [upd, ee0, ee5])) (v := Value.pointer (some ⟨d.kb, 0, none⟩)) (fun wr hwr => by simp only [execOp, (F8.eval 129 (by omega)).trans (show _ = Value.pointer (some ⟨d.kb, 0, none⟩) from by simp [upd, ee0, ee5])]; simp [go_sem]) fun F9 => ?_
  refine lyp F9 rfl HC rfl (by omega) (want_yes F9 rfl (e := 123) rfl (by omega) (show _ = Value.bool true from by simp [upd, ee0, ee5])) (v := Value.pointer (some ⟨d.kb, 2, none⟩)) (fun wr hwr => by simp only [execOp, (F9.eval 130 (by omega)).trans (show _ = Value.pointer (some ⟨d.kb, 0, none⟩) from by simp [upd, ee0, ee5])]; simp [go_sem]) fun F10 => ?_
  refine lyp F10 rfl HC rfl (by omega) (want_yes F10 rfl (e := 123) rfl (by omega) (show _ = Value.bool true from by simp [upd, ee0, ee5])) (v := Value.slice (some ⟨ig, 0, none⟩) (N9 * 512) ic) (fun wr hwr => by simp only [execOp, (F10.eval 131 (by omega)).trans (show _ = Value.pointer (some ⟨d.kb, 2, none⟩) from by simp [upd, ee0, ee5])]; simp [go_sem, (HALL.out wr hwr).2.1]) fun F11 => ?_
  refine lcp F11 rfl HC rfl (by omega) (want_yes F11 rfl (e := 123) rfl (by omega) (show _ = Value.bool true from by simp [upd, ee0, ee5])) (g := 27) (args := #[Value.slice vo' vn' vc', Value.slice (some ⟨ig, 0, none⟩) (N9 * 512) ic]) (by simp only [execOp, resolve, invoke, List.map_toArray, List.map_cons, List.map_nil, (F11.eval 128 (by omega)).trans (show _ = Value.slice vo' vn' vc' from by simp [upd, ee0, ee5]), (F11.eval 132 (by omega)).trans (show _ = Value.slice (some ⟨ig, 0, none⟩) (N9 * 512) ic from by simp [upd, ee0, ee5])]; simp [go_sem, Act.eval]) (HSM.out _ _ _ _ HC hby) ?_
  rintro e9 wD ⟨rfl, HD⟩
  refine ⟨_, rfl, fun F12 => ?_⟩
  refine lyp F12 rfl HD rfl (by omega) (wanted_none rfl) (v := Value.bool true) (fun wr hwr => by simp only [execOp, (F12.eval 123 (by omega)).trans (show _ = Value.bool true from by simp [upd, ee0, ee5]), (F12.eval 133 (by omega)).trans (show _ = Value.bool true from by simp [upd, ee0, ee5])]; simp [go_sem, Act.eval]) fun F13 => ?_
  refine lyp F13 rfl HD rfl (by omega) (wanted_none rfl) (v := Value.bool true) (fun wr hwr => by simp only [execOp, (F13.eval 134 (by omega)).trans (show _ = Value.bool true from by simp [upd, ee0, ee5])]; first | rfl | simp [go_sem]) fun F14 => ?_
  refine lyp F14 rfl HD rfl (by omega) (want_yes F14 rfl (e := 135) rfl (by omega) (show _ = Value.bool true from by simp [upd, ee0, ee5])) (v := Value.pointer (some ⟨d.kb, 0, none⟩)) (fun wr hwr => by simp only [execOp, (F14.eval 0 (by omega)).trans (show _ = Value.pointer (some ⟨d.kb, 0, none⟩) from by simp [upd, ee0, ee5])]; first | rfl | simp [go_sem]) fun F15 => ?_
  refine lyp F15 rfl HD rfl (by omega) (want_yes F15 rfl (e := 135) rfl (by omega) (show _ = Value.bool true from by simp [upd, ee0, ee5])) (v := Value.pointer (some ⟨d.kb, 0, none⟩)) (fun wr hwr => by simp only [execOp, (F15.eval 136 (by omega)).trans (show _ = Value.pointer (some ⟨d.kb, 0, none⟩) from by simp [upd, ee0, ee5])]; simp [go_sem]) fun F16 => ?_
  refine lyp F16 rfl HD rfl (by omega) (want_yes F16 rfl (e := 135) rfl (by omega) (show _ = Value.bool true from by simp [upd, ee0, ee5])) (v := Value.pointer (some ⟨d.kb, 0, none⟩)) (fun wr hwr => by simp only [execOp, (F16.eval 137 (by omega)).trans (show _ = Value.pointer (some ⟨d.kb, 0, none⟩) from by simp [upd, ee0, ee5])]; simp [go_sem]) fun F17 => ?_
  refine lyp F17 rfl HD rfl (by omega) (want_yes F17 rfl (e := 135) rfl (by omega) (show _ = Value.bool true from by simp [upd, ee0, ee5])) (v := Value.pointer (some ⟨d.p, 0, none⟩)) (fun wr hwr => by simp only [execOp, (F17.eval 138 (by omega)).trans (show _ = Value.pointer (some ⟨d.kb, 0, none⟩) from by simp [upd, ee0, ee5])]; simp [go_sem, (HALL.out wr hwr).1]) fun F18 => ?_
  refine lcp F18 rfl HD rfl (by omega) (want_yes F18 rfl (e := 135) rfl (by omega) (show _ = Value.bool true from by simp [upd, ee0, ee5])) (g := 33) (args := #[Value.pointer (some ⟨d.p, 0, none⟩)]) (by simp only [execOp, resolve, invoke, List.map_toArray, List.map_cons, List.map_nil, (F18.eval 139 (by omega)).trans (show _ = Value.pointer (some ⟨d.p, 0, none⟩) from by simp [upd, ee0, ee5])]; simp [go_sem, Act.eval]) (HON.out _ HD) ?_
  rintro e9 wE ⟨rfl, HE⟩
  refine ⟨_, rfl, fun F19 => ?_⟩
  refine lyp F19 rfl HE rfl (by omega) (want_yes F19 rfl (e := 135) rfl (by omega) (show _ = Value.bool true from by simp [upd, ee0, ee5])) (v := Value.pointer (some ⟨d.kb, 0, none⟩)) (fun wr hwr => by simp only [execOp, (F19.eval 0 (by omega)).trans (show _ = Value.pointer (some ⟨d.kb, 0, none⟩) from by simp [upd, ee0, ee5])]; first | rfl | simp [go_sem]) fun F20 => ?_
  refine lyp F20 rfl HE rfl (by omega) (want_yes F20 rfl (e := 135) rfl (by omega) (show _ = Value.bool true from by simp [upd, ee0, ee5])) (v := Value.pointer (some ⟨d.kb, 0, none⟩)) (fun wr hwr => by simp only [execOp, (F20.eval 141 (by omega)).trans (show _ = Value.pointer (some ⟨d.kb, 0, none⟩) from by simp [upd, ee0, ee5])]; simp [go_sem]) fun F21 => ?_
  refine lyp F21 rfl HE rfl (by omega) (want_yes F21 rfl (e := 135) rfl (by omega) (show _ = Value.bool true from by simp [upd, ee0, ee5])) (v := Value.pointer (some ⟨d.kb, 3, none⟩)) (fun wr hwr => by simp only [execOp, (F21.eval 142 (by omega)).trans (show _ = Value.pointer (some ⟨d.kb, 0, none⟩) from by simp [upd, ee0, ee5])]; simp [go_sem]) fun F22 => ?_
  refine lyp F22 rfl HE rfl (by omega) (want_yes F22 rfl (e := 135) rfl (by omega) (show _ = Value.bool true from by simp [upd, ee0, ee5])) (v := Value.bool bq) (fun wr hwr => by simp only [execOp, (F22.eval 143 (by omega)).trans (show _ = Value.pointer (some ⟨d.kb, 3, none⟩) from by simp [upd, ee0, ee5])]; simp [go_sem, (HALL.out wr hwr).2.2]) fun F23 => ?_
  refine lyp F23 rfl HE rfl (by omega) (want_yes F23 rfl (e := 135) rfl (by omega) (show _ = Value.bool true from by simp [upd, ee0, ee5])) (v := Value.bool true) (fun wr hwr => by simp only [execOp, (F23.eval 140 (by omega)).trans (show _ = Value.bool bq from by simp [upd, ee0, ee5]), (F23.eval 144 (by omega)).trans (show _ = Value.bool bq from by simp [upd, ee0, ee5])]; simp [go_sem, Act.eval]) fun F24 => ?_
  refine lyp F24 rfl HE rfl (by omega) (wanted_none rfl) (v := Value.bool true) (fun wr hwr => by simp only [execOp, (F24.eval 135 (by omega)).trans (show _ = Value.bool true from by simp [upd, ee0, ee5]), (F24.eval 145 (by omega)).trans (show _ = Value.bool true from by simp [upd, ee0, ee5])]; simp [go_sem, Act.eval]) fun F25 => ?_
  refine lyp F25 rfl HE rfl (by omega) (wanted_none rfl) (v := Value.bool true) (fun wr hwr => by simp only [execOp, (F25.eval 146 (by omega)).trans (show _ = Value.bool true from by simp [upd, ee0, ee5])]; first | rfl | simp [go_sem]) fun F26 => ?_
  refine ⟨fun _ => HE, ?_⟩
  refine hK _ _ ?_
  clear F0 F1 F2 F3 F4 F5 F6 F7 F8 F9 F10 F11 F12 F13 F14 F15 F16 F17 F18 F19 F20 F21 F22 F23 F24 F25 F26 ee0 ee5 HCC
  simp only [Act.put, List.setIfInBounds_toArray, List.set_cons_succ, List.set_cons_zero]
  have HF9 : Held (d.es L d.x (JE L d.jb y d.dead) (kE KK s :: R)) wE := dk_drop (HF2.out.1.more HE)
  have HF8 : Hid _ := HF9
  have HB8 : Hid (Below L w wE) := HF2.out.2.2.2.2.2.trans (HE.mono (dk_lo HF2.out.1))
  clear HC HD HE HX hby HF9
  go_wp2_with fail
  go_ret
  exact ⟨rfl, d, y, s, HF8.out, HF2.out.2.1, HF2.out.2.2.1, HF2.out.2.2.2.1, HF2.out.2.2.2.2.1, HB8.out⟩
theorem played_off {σ : Type} {L sb vn vc : Nat} {KK : Keeper σ L sb} {d : DK} {y : JV} {s : σ} {R : List (Ent L)} {vo : Option Addr} (a n : Int) (w : World) (h : Held (d.es L d.x (JE L d.jb y d.dead) (kE KK s :: R)) w) (hd : DKO d y) (hsb : d.sb = sb) :
    Calls Try.prog 45 #[.pointer (some ⟨d.kb, 0, none⟩), .agg #[.int .i64 6, .int .i64 a, .int .i64 n, .slice vo vn vc]] w (PlQ KK d s R w) := by
  obtain ⟨ob, hob⟩ : ∃ b, b = w.heap.size := ⟨_, rfl⟩
  obtain ⟨w1, hw1⟩ : ∃ X, X = w.alloc (.cells #[.int .i64 6, .int .i64 a, .int .i64 n, .slice vo vn vc] 91) := ⟨_, rfl⟩
  have hL : L ≤ w.heap.size := dk_lo h
  have hb1 : Below L w w1 := by rw [hw1]; exact (Below.refl _ _).alloc hL _
  have h1 : Held (d.es L d.x (JE L d.jb y d.dead) (boxE L ob #[.int .i64 6, .int .i64 a, .int .i64 n, .slice vo vn vc] 91 :: kE KK s :: R)) w1 := by rw [hw1, hob]; exact dk_new h
  have o0 : w1.cell? ⟨ob, 0, none⟩ = some (.int .i64 6) := (dk_ob h1).cell 0
  have o1 : w1.cell? ⟨ob, 1, none⟩ = some (.int .i64 a) := (dk_ob h1).cell 1
  have o2 : w1.cell? ⟨ob, 2, none⟩ = some (.int .i64 n) := (dk_ob h1).cell 2
  have o3 : w1.cell? ⟨ob, 3, none⟩ = some (.slice vo vn vc) := (dk_ob h1).cell 3
  have c0 : w1.cell? ⟨d.kb, 0, none⟩ = some (.pointer (some ⟨d.p, 0, none⟩)) := (dk_box h1).cell 0
  have HL : Hid (Below L w w1 ∧ DKO d y ∧ d.sb = sb) := ⟨hb1, hd, hsb⟩
  have H1 : Hid (Held (d.es L d.x (JE L d.jb y d.dead) (boxE L ob #[.int .i64 6, .int .i64 a, .int .i64 n, .slice vo vn vc] 91 :: kE KK s :: R)) w1) := h1
  have c3 : w1.cell? ⟨d.kb, 3, none⟩ = some (.bool d.on) := (dk_box h1).cell 3
  have f3 : w1.frozen? ⟨d.kb, 3, none⟩ = false := (dk_box h1).frozen 3
  have h2 : Held (({ d with on := false } : DK).es L d.x (JE L d.jb y d.dead) (boxE L ob #[.int .i64 6, .int .i64 a, .int .i64 n, .slice vo vn vc] 91 :: kE KK s :: R)) (w1.setCell ⟨d.kb, 3, none⟩ (.bool false)) := dk_set h1 rfl rfl rfl rfl rfl rfl rfl rfl
  have hb2 : Below L w (w1.setCell ⟨d.kb, 3, none⟩ (.bool false)) := hb1.trans (dk_setB h1)
  obtain ⟨wa, hwa⟩ : ∃ X, X = w1.setCell ⟨d.kb, 3, none⟩ (.bool false) := ⟨_, rfl⟩
  rw [← hwa] at h2 hb2
  have c4 : wa.cell? ⟨d.kb, 4, none⟩ = some (.int .i64 d.left) := (dk_box h2).cell 4
  have f4 : wa.frozen? ⟨d.kb, 4, none⟩ = false := (dk_box h2).frozen 4
  have h3 : Held (({ d with on := false, left := -1 } : DK).es L d.x (JE L d.jb y d.dead) (boxE L ob #[.int .i64 6, .int .i64 a, .int .i64 n, .slice vo vn vc] 91 :: kE KK s :: R)) (wa.setCell ⟨d.kb, 4, none⟩ (.int .i64 (-1))) := dk_set (d := ({ d with on := false } : DK)) h2 rfl rfl rfl rfl rfl rfl rfl rfl
  have hb3 : Below L w (wa.setCell ⟨d.kb, 4, none⟩ (.int .i64 (-1))) := hb2.trans (dk_setB (d := ({ d with on := false } : DK)) h2)
  obtain ⟨wb, hwb⟩ : ∃ X, X = wa.setCell ⟨d.kb, 4, none⟩ (.int .i64 (-1)) := ⟨_, rfl⟩
  rw [← hwb] at h3 hb3
  have d0 : wb.cell? ⟨d.kb, 0, none⟩ = some (.pointer (some ⟨d.p, 0, none⟩)) := (dk_box h3).cell 0
  have HOF : Hid _ := off_any wb (dk_dm h3)
  have H3 : Hid (Held (({ d with on := false, left := -1 } : DK).es L d.x (JE L d.jb y d.dead) (boxE L ob #[.int .i64 6, .int .i64 a, .int .i64 n, .slice vo vn vc] 91 :: kE KK s :: R)) wb ∧ Below L w wb) := ⟨h3, hb3⟩
  clear h hd hsb hb1 h1 hL o1 o2 o3 h2 hb2 h3 hb3 c0
  go_enter Try.func45, Try.ntmps45
  go_upto_region 1 with fail
  rw [← hw1, ← hob]
  clear hw1 hob
  subst hwa
  go_upto_region 23 with fail
  rw [← hwb]
  clear hwb c3 f3 c4 f4 o0
  go_wp2_with fail
  refine Calls.mono HOF.out ?_
  rintro e w2 ⟨rfl, hD, hC⟩
  obtain ⟨h4, hb4⟩ := dk_dmSet H3.out.1 hD hC
  have hdo := HL.out.2.1
  have HF2 : Hid (Held (({ d with on := false, left := -1, x := d.x.offed } : DK).es L ({ d with on := false, left := -1, x := d.x.offed } : DK).x (JE L ({ d with on := false, left := -1, x := d.x.offed } : DK).jb y ({ d with on := false, left := -1, x := d.x.offed } : DK).dead) (boxE L ob #[.int .i64 6, .int .i64 a, .int .i64 n, .slice vo vn vc] 91 :: kE KK s :: R)) w2 ∧ DKO ({ d with on := false, left := -1, x := d.x.offed } : DK) y ∧ DSame d ({ d with on := false, left := -1, x := d.x.offed } : DK) ∧ ({ d with on := false, left := -1, x := d.x.offed } : DK).x.writes ≤ d.x.writes + 17 ∧ KK.cnt s ≤ KK.cnt s + 18 ∧ Below L w w2) := ⟨by
    have := h4
    rw [dk_xi (xi := d.x) (xi' := d.x.offed) rfl rfl] at this
    exact this, ⟨hdo.n1, hdo.n2, rfl, fun e => (by cases e), fun _ => rfl, Nat.zero_le _, Nat.zero_le _, hdo.tb, hdo.ehv, hdo.hl, hdo.le, hdo.live⟩, ⟨rfl, rfl, rfl, rfl, rfl⟩, by show d.x.writes ≤ _; omega, by omega, H3.out.2.trans hb4⟩
  clear h4 hb4 hD hC H3 HOF d0
  obtain ⟨ig, ic, N9, bq, _, hf1, hf2, hf3, hf4⟩ := fin_facts d.kb d.p w2 HF2.out.1 HF2.out.2.1 HF2.out.2.2.1.kb HF2.out.2.2.1.p
  have HALL : Hid _ := hf1
  have HIM : Hid _ := hf2
  have HSM : Hid _ := hf3
  have HON : Hid _ := hf4
  have HX : Below w2.heap.size w2 w2 := Below.refl _ _
  clear hf1 hf2 hf3 hf4
  go_wp2_with fail
  rename_i K hK
  try rw [show ∀ a : Act, a.put none undef = a from fun _ => rfl]
  refine wp_region_mix (fun wz : World => Below w2.heap.size w2 wz) (fun i => i == 6 || i == 11 || i == 18 || i == 99) 99 (by kernel_rfl) rfl (by kernel_rfl) (by kernel_rfl) (by kernel_rfl) ?_
  refine withFrP (N := 147) rfl ?_
  intro f0 F0 hff
  have ee0 : f0 0 = Value.pointer (some ⟨d.kb, 0, none⟩) := hff 0
  have ee5 : f0 5 = Value.bool true := hff 5
  clear hff
  have HCC : (fun wz : World => Below w2.heap.size w2 wz) (({ w2 with drawn := w2.drawn + 1 } : World)) := (below_dr HX 1 : Below w2.heap.size w2 (w2.drewN 1))
  refine lyp F0 rfl HCC rfl (by omega) (wanted_none rfl) (v := Value.bool true) (fun wr hwr => by simp only [execOp, (F0.eval 5 (by omega)).trans (show _ = Value.bool true from by simp [upd, ee0, ee5])]; first | rfl | simp [go_sem]) fun F1 => ?_
  refine lyp F1 rfl HCC rfl (by omega) (wanted_none rfl) (v := Value.bool true) (fun wr hwr => by simp only [execOp, (F1.eval 122 (by omega)).trans (show _ = Value.bool true from by simp [upd, ee0, ee5])]; first | rfl | simp [go_sem]) fun F2 => ?_
  refine lyp F2 rfl HCC rfl (by omega) (want_yes F2 rfl (e := 123) rfl (by omega) (show _ = Value.bool true from by simp [upd, ee0, ee5])) (v := Value.pointer (some ⟨d.kb, 0, none⟩)) (fun wr hwr => by simp only [execOp, (F2.eval 0 (by omega)).trans (show _ = Value.pointer (some ⟨d.kb, 0, none⟩) from by simp [upd, ee0, ee5])]; first | rfl | simp [go_sem]) fun F3 => ?_
  refine lyp F3 rfl HCC rfl (by omega) (want_yes F3 rfl (e := 123) rfl (by omega) (show _ = Value.bool true from by simp [upd, ee0, ee5])) (v := Value.pointer (some ⟨d.kb, 0, none⟩)) (fun wr hwr => by simp only [execOp, (F3.eval 124 (by omega)).trans (show _ = Value.pointer (some ⟨d.kb, 0, none⟩) from by simp [upd, ee0, ee5])]; simp [go_sem]) fun F4 => ?_
  refine lyp F4 rfl HCC rfl (by omega) (want_yes F4 rfl (e := 123) rfl (by omega) (show _ = Value.bool true from by simp [upd, ee0, ee5])) (v := Value.pointer (some ⟨d.kb, 0, none⟩)) (fun wr hwr => by simp only [execOp, (F4.eval 125 (by omega)).trans (show _ = Value.pointer (some ⟨d.kb, 0, none⟩) from by simp [upd, ee0, ee5])]; simp [go_sem]) fun F5 => ?_
  refine lyp F5 rfl HCC rfl (by omega) (want_yes F5 rfl (e := 123) rfl (by omega) (show _ = Value.bool true from by simp [upd, ee0, ee5])) (v := Value.pointer (some ⟨d.p, 0, none⟩)) (fun wr hwr => by simp only [execOp, (F5.eval 126 (by omega)).trans (show _ = Value.pointer (some ⟨d.kb, 0, none⟩) from by simp [upd, ee0, ee5])]; simp [go_sem, (HALL.out wr hwr).1]) fun F6 => ?_
  refine lcp F6 rfl HCC rfl (by omega) (want_yes F6 rfl (e := 123) rfl (by omega) (show _ = Value.bool true from by simp [upd, ee0, ee5])) (g := 28) (args := #[Value.pointer (some ⟨d.p, 0, none⟩)]) (by simp only [execOp, resolve, invoke, List.map_toArray, List.map_cons, List.map_nil, (F6.eval 127 (by omega)).trans (show _ = Value.pointer (some ⟨d.p, 0, none⟩) from by simp [upd, ee0, ee5])]; simp [go_sem, Act.eval]) (HIM.out _ HCC) ?_
  rintro e9 wC ⟨vo', vn', vc', rfl, hby, HC⟩
  refine ⟨_, rfl, fun F7 => ?_⟩
  refine lyp F7 rfl HC rfl (by omega) (want_yes F7 rfl (e := 123) rfl (by omega) (show _ = Value.bool true from by simp [upd, ee0, ee5])) (v := Value.pointer (some ⟨d.kb, 0, none⟩)) (fun wr hwr => by simp only [execOp, (F7.eval 0 (by omega)).trans (show _ = Value.pointer (some ⟨d.kb, 0, none⟩) from by simp [upd, ee0, ee5])]; first | rfl | simp [go_sem]) fun F8 => ?_
  refine lyp F8 rfl HC rfl (by omega) (want_yes F8 rfl (e := 123) rfl (by omega) (show _ = Value.bool true from by simp [upd, ee0, ee5])) (v := Value.pointer (some ⟨d.kb, 0, none⟩)) (fun wr hwr => by simp only [execOp, (F8.eval 129 (by omega)).trans (show _ = Value.pointer (some ⟨d.kb, 0, none⟩) from by simp [upd, ee0, ee5])]; simp [go_sem]) fun F9 => ?_
  refine lyp F9 rfl HC rfl (by omega) (want_yes F9 rfl (e := 123) rfl (by omega) (show _ = Value.bool true from by simp [upd, ee0, ee5])) (v := Value.pointer (some ⟨d.kb, 2, none⟩)) (fun wr hwr => by simp only [execOp, (F9.eval 130 (by omega)).trans (show _ = Value.pointer (some ⟨d.kb, 0, none⟩) from by simp [upd, ee0, ee5])]; simp [go_sem]) fun F10 => ?_
  refine lyp F10 rfl HC rfl (by omega) (want_yes F10 rfl (e := 123) rfl (by omega) (show _ = Value.bool true from by simp [upd, ee0, ee5])) (v := Value.slice (some ⟨ig, 0, none⟩) (N9 * 512) ic) (fun wr hwr => by simp only [execOp, (F10.eval 131 (by omega)).trans (show _ = Value.pointer (some ⟨d.kb, 2, none⟩) from by simp [upd, ee0, ee5])]; simp [go_sem, (HALL.out wr hwr).2.1]) fun F11 => ?_
  refine lcp F11 rfl HC rfl (by omega) (want_yes F11 rfl (e := 123) rfl (by omega) (show _ = Value.bool true from by simp [upd, ee0, ee5])) (g := 27) (args := #[Value.slice vo' vn' vc', Value.slice (some ⟨ig, 0, none⟩) (N9 * 512) ic]) (by simp only [execOp, resolve, invoke, List.map_toArray, List.map_cons, List.map_nil, (F11.eval 128 (by omega)).trans (show _ = Value.slice vo' vn' vc' from by simp [upd, ee0, ee5]), (F11.eval 132 (by omega)).trans (show _ = Value.slice (some ⟨ig, 0, none⟩) (N9 * 512) ic from by simp [upd, ee0, ee5])]; simp [go_sem, Act.eval]) (HSM.out _ _ _ _ HC hby) ?_
  rintro e9 wD ⟨rfl, HD⟩
  refine ⟨_, rfl, fun F12 => ?_⟩
  refine lyp F12 rfl HD rfl (by omega) (wanted_none rfl) (v := Value.bool true) (fun wr hwr => by simp only [execOp, (F12.eval 123 (by omega)).trans (show _ = Value.bool true from by simp [upd, ee0, ee5]), (F12.eval 133 (by omega)).trans (show _ = Value.bool true from by simp [upd, ee0, ee5])]; simp [go_sem, Act.eval]) fun F13 => ?_
  refine lyp F13 rfl HD rfl (by omega) (wanted_none rfl) (v := Value.bool true) (fun wr hwr => by simp only [execOp, (F13.eval 134 (by omega)).trans (show _ = Value.bool true from by simp [upd, ee0, ee5])]; first | rfl | simp [go_sem]) fun F14 => ?_
  refine lyp F14 rfl HD rfl (by omega) (want_yes F14 rfl (e := 135) rfl (by omega) (show _ = Value.bool true from by simp [upd, ee0, ee5])) (v := Value.pointer (some ⟨d.kb, 0, none⟩)) (fun wr hwr => by simp only [execOp, (F14.eval 0 (by omega)).trans (show _ = Value.pointer (some ⟨d.kb, 0, none⟩) from by simp [upd, ee0, ee5])]; first | rfl | simp [go_sem]) fun F15 => ?_
  refine lyp F15 rfl HD rfl (by omega) (want_yes F15 rfl (e := 135) rfl (by omega) (show _ = Value.bool true from by simp [upd, ee0, ee5])) (v := Value.pointer (some ⟨d.kb, 0, none⟩)) (fun wr hwr => by simp only [execOp, (F15.eval 136 (by omega)).trans (show _ = Value.pointer (some ⟨d.kb, 0, none⟩) from by simp [upd, ee0, ee5])]; simp [go_sem]) fun F16 => ?_
  refine lyp F16 rfl HD rfl (by omega) (want_yes F16 rfl (e := 135) rfl (by omega) (show _ = Value.bool true from by simp [upd, ee0, ee5])) (v := Value.pointer (some ⟨d.kb, 0, none⟩)) (fun wr hwr => by simp only [execOp, (F16.eval 137 (by omega)).trans (show _ = Value.pointer (some ⟨d.kb, 0, none⟩) from by simp [upd, ee0, ee5])]; simp [go_sem]) fun F17 => ?_
  refine lyp F17 rfl HD rfl (by omega) (want_yes F17 rfl (e := 135) rfl (by omega) (show _ = Value.bool true from by simp [upd, ee0, ee5])) (v := Value.pointer (some ⟨d.p, 0, none⟩)) (fun wr hwr => by simp only [execOp, (F17.eval 138 (by omega)).trans (show _ = Value.pointer (some ⟨d.kb, 0, none⟩) from by simp [upd, ee0, ee5])]; simp [go_sem, (HALL.out wr hwr).1]) fun F18 => ?_
  refine lcp F18 rfl HD rfl (by omega) (want_yes F18 rfl (e := 135) rfl (by omega) (show _ = Value.bool true from by simp [upd, ee0, ee5])) (g := 33) (args := #[Value.pointer (some ⟨d.p, 0, none⟩)]) (by simp only [execOp, resolve, invoke, List.map_toArray, List.map_cons, List.map_nil, (F18.eval 139 (by omega)).trans (show _ = Value.pointer (some ⟨d.p, 0, none⟩) from by simp [upd, ee0, ee5])]; simp [go_sem, Act.eval]) (HON.out _ HD) ?_
  rintro e9 wE ⟨rfl, HE⟩
  refine ⟨_, rfl, fun F19 => ?_⟩
  refine lyp F19 rfl HE rfl (by omega) (want_yes F19 rfl (e := 135) rfl (by omega) (show _ = Value.bool true from by simp [upd, ee0, ee5])) (v := Value.pointer (some ⟨d.kb, 0, none⟩)) (fun wr hwr => by simp only [execOp, (F19.eval 0 (by omega)).trans (show _ = Value.pointer (some ⟨d.kb, 0, none⟩) from by simp [upd, ee0, ee5])]; first | rfl | simp [go_sem]) fun F20 => ?_
  refine lyp F20 rfl HE rfl (by omega) (want_yes F20 rfl (e := 135) rfl (by omega) (show _ = Value.bool true from by simp [upd, ee0, ee5])) (v := Value.pointer (some ⟨d.kb, 0, none⟩)) (fun wr hwr => by simp only [execOp, (F20.eval 141 (by omega)).trans (show _ = Value.pointer (some ⟨d.kb, 0, none⟩) from by simp [upd, ee0, ee5])]; simp [go_sem]) fun F21 => ?_
  refine lyp F21 rfl HE rfl (by omega) (want_yes F21 rfl (e := 135) rfl (by omega) (show _ = Value.bool true from by simp [upd, ee0, ee5])) (v := Value.pointer (some ⟨d.kb, 3, none⟩)) (fun wr hwr => by simp only [execOp, (F21.eval 142 (by omega)).trans (show _ = Value.pointer (some ⟨d.kb, 0, none⟩) from by simp [upd, ee0, ee5])]; simp [go_sem]) fun F22 => ?_
  refine lyp F22 rfl HE rfl (by omega) (want_yes F22 rfl (e := 135) rfl (by omega) (show _ = Value.bool true from by simp [upd, ee0, ee5])) (v := Value.bool bq) (fun wr hwr => by simp only [execOp, (F22.eval 143 (by omega)).trans (show _ = Value.pointer (some ⟨d.kb, 3, none⟩) from by simp [upd, ee0, ee5])]; simp [go_sem, (HALL.out wr hwr).2.2]) fun F23 => ?_
  refine lyp F23 rfl HE rfl (by omega) (want_yes F23 rfl (e := 135) rfl (by omega) (show _ = Value.bool true from by simp [upd, ee0, ee5])) (v := Value.bool true) (fun wr hwr => by simp only [execOp, (F23.eval 140 (by omega)).trans (show _ = Value.bool bq from by simp [upd, ee0, ee5]), (F23.eval 144 (by omega)).trans (show _ = Value.bool bq from by simp [upd, ee0, ee5])]; simp [go_sem, Act.eval]) fun F24 => ?_
  refine lyp F24 rfl HE rfl (by omega) (wanted_none rfl) (v := Value.bool true) (fun wr hwr => by simp only [execOp, (F24.eval 135 (by omega)).trans (show _ = Value.bool true from by simp [upd, ee0, ee5]), (F24.eval 145 (by omega)).trans (show _ = Value.bool true from by simp [upd, ee0, ee5])]; simp [go_sem, Act.eval]) fun F25 => ?_
  refine lyp F25 rfl HE rfl (by omega) (wanted_none rfl) (v := Value.bool true) (fun wr hwr => by simp only [execOp, (F25.eval 146 (by omega)).trans (show _ = Value.bool true from by simp [upd, ee0, ee5])]; first | rfl | simp [go_sem]) fun F26 => ?_
  refine ⟨fun _ => HE, ?_⟩
  refine hK _ _ ?_
  clear F0 F1 F2 F3 F4 F5 F6 F7 F8 F9 F10 F11 F12 F13 F14 F15 F16 F17 F18 F19 F20 F21 F22 F23 F24 F25 F26 ee0 ee5 HCC
  simp only [Act.put, List.setIfInBounds_toArray, List.set_cons_succ, List.set_cons_zero]
  have HF9 : Held (({ d with on := false, left := -1, x := d.x.offed } : DK).es L ({ d with on := false, left := -1, x := d.x.offed } : DK).x (JE L ({ d with on := false, left := -1, x := d.x.offed } : DK).jb y ({ d with on := false, left := -1, x := d.x.offed } : DK).dead) (kE KK s :: R)) wE := dk_drop (HF2.out.1.more HE)
  have HF8 : Hid _ := HF9
  have HB8 : Hid (Below L w wE) := HF2.out.2.2.2.2.2.trans (HE.mono (dk_lo HF2.out.1))
  clear HC HD HE HX hby HF9
  go_wp2_with fail
  go_ret
  exact ⟨rfl, ({ d with on := false, left := -1, x := d.x.offed } : DK), y, s, HF8.out, HF2.out.2.1, HF2.out.2.2.1, HF2.out.2.2.2.1, HF2.out.2.2.2.2.1, HB8.out⟩
theorem played_on {σ : Type} {L sb vn vc : Nat} {KK : Keeper σ L sb} {d : DK} {y : JV} {s : σ} {R : List (Ent L)} {vo : Option Addr} (a n : Int) (w : World) (h : Held (d.es L d.x (JE L d.jb y d.dead) (kE KK s :: R)) w) (hd : DKO d y) (hsb : d.sb = sb) (hon : d.on = true) :
    Calls Try.prog 45 #[.pointer (some ⟨d.kb, 0, none⟩), .agg #[.int .i64 7, .int .i64 a, .int .i64 n, .slice vo vn vc]] w (PlQ KK d s R w) := by
  obtain ⟨ob, hob⟩ : ∃ b, b = w.heap.size := ⟨_, rfl⟩
  obtain ⟨w1, hw1⟩ : ∃ X, X = w.alloc (.cells #[.int .i64 7, .int .i64 a, .int .i64 n, .slice vo vn vc] 91) := ⟨_, rfl⟩
  have hL : L ≤ w.heap.size := dk_lo h
  have hb1 : Below L w w1 := by rw [hw1]; exact (Below.refl _ _).alloc hL _
  have h1 : Held (d.es L d.x (JE L d.jb y d.dead) (boxE L ob #[.int .i64 7, .int .i64 a, .int .i64 n, .slice vo vn vc] 91 :: kE KK s :: R)) w1 := by rw [hw1, hob]; exact dk_new h
  have o0 : w1.cell? ⟨ob, 0, none⟩ = some (.int .i64 7) := (dk_ob h1).cell 0
  have o1 : w1.cell? ⟨ob, 1, none⟩ = some (.int .i64 a) := (dk_ob h1).cell 1
  have o2 : w1.cell? ⟨ob, 2, none⟩ = some (.int .i64 n) := (dk_ob h1).cell 2
  have o3 : w1.cell? ⟨ob, 3, none⟩ = some (.slice vo vn vc) := (dk_ob h1).cell 3
  have c0 : w1.cell? ⟨d.kb, 0, none⟩ = some (.pointer (some ⟨d.p, 0, none⟩)) := (dk_box h1).cell 0
  have HL : Hid (Below L w w1 ∧ DKO d y ∧ d.sb = sb) := ⟨hb1, hd, hsb⟩
  have H1 : Hid (Held (d.es L d.x (JE L d.jb y d.dead) (boxE L ob #[.int .i64 7, .int .i64 a, .int .i64 n, .slice vo vn vc] 91 :: kE KK s :: R)) w1) := h1
  have c3 : w1.cell? ⟨d.kb, 3, none⟩ = some (.bool true) := by have := (dk_box h1).cell 3; rw [this]; exact congrArg some (congrArg Value.bool hon)
  have h2 : Held (({ d with left := d.left } : DK).es L d.x (JE L d.jb y d.dead) (boxE L ob #[.int .i64 7, .int .i64 a, .int .i64 n, .slice vo vn vc] 91 :: kE KK s :: R)) w1 := h1
  have hb2 : Below L w w1 := hb1
  obtain ⟨wa, hwa⟩ : ∃ X, X = w1 := ⟨_, rfl⟩
  rw [← hwa] at h2 hb2
  have e3 : wa.cell? ⟨d.kb, 3, none⟩ = some (.bool true) := by have := (dk_box h2).cell 3; rw [this]; exact congrArg some (congrArg Value.bool hon)
  have g3 : wa.frozen? ⟨d.kb, 3, none⟩ = false := (dk_box h2).frozen 3
  have h3 : Held (({ d with on := true, left := d.left } : DK).es L d.x (JE L d.jb y d.dead) (boxE L ob #[.int .i64 7, .int .i64 a, .int .i64 n, .slice vo vn vc] 91 :: kE KK s :: R)) (wa.setCell ⟨d.kb, 3, none⟩ (.bool true)) := dk_set (d := ({ d with left := d.left } : DK)) h2 rfl rfl rfl rfl rfl rfl rfl rfl
  have hb3 : Below L w (wa.setCell ⟨d.kb, 3, none⟩ (.bool true)) := hb2.trans (dk_setB (d := ({ d with left := d.left } : DK)) h2)
  obtain ⟨wb, hwb⟩ : ∃ X, X = wa.setCell ⟨d.kb, 3, none⟩ (.bool true) := ⟨_, rfl⟩
  rw [← hwb] at h3 hb3
  have d0 : wb.cell? ⟨d.kb, 0, none⟩ = some (.pointer (some ⟨d.p, 0, none⟩)) := (dk_box h3).cell 0
  have HOF : Hid _ := on_any wb (dk_dm h3)
  have H3 : Hid (Held (({ d with on := true, left := d.left } : DK).es L d.x (JE L d.jb y d.dead) (boxE L ob #[.int .i64 7, .int .i64 a, .int .i64 n, .slice vo vn vc] 91 :: kE KK s :: R)) wb ∧ Below L w wb ∧ d.on = true) := ⟨h3, hb3, hon⟩
  clear h hd hsb hb1 h1 hL o1 o2 o3 h2 hb2 h3 hb3 c0 hon
  go_enter Try.func45, Try.ntmps45
  go_upto_region 1 with fail
  rw [← hw1, ← hob]
  clear hw1 hob
  subst hwa
  go_upto_region 28 with fail
  rw [← hwb]
  clear hwb c3 e3 g3 o0
  go_wp2_with fail
  refine Calls.mono HOF.out ?_
  rintro e w2 ⟨rfl, hD, hC⟩
  obtain ⟨h4, hb4⟩ := dk_dmSet H3.out.1 hD hC
  have hdo := HL.out.2.1
  have hon := H3.out.2.2
  have HF2 : Hid (Held (({ d with on := true, left := d.left, x := { d.x with off := false } } : DK).es L ({ d with on := true, left := d.left, x := { d.x with off := false } } : DK).x (JE L ({ d with on := true, left := d.left, x := { d.x with off := false } } : DK).jb y ({ d with on := true, left := d.left, x := { d.x with off := false } } : DK).dead) (boxE L ob #[.int .i64 7, .int .i64 a, .int .i64 n, .slice vo vn vc] 91 :: kE KK s :: R)) w2 ∧ DKO ({ d with on := true, left := d.left, x := { d.x with off := false } } : DK) y ∧ DSame d ({ d with on := true, left := d.left, x := { d.x with off := false } } : DK) ∧ ({ d with on := true, left := d.left, x := { d.x with off := false } } : DK).x.writes ≤ d.x.writes + 17 ∧ KK.cnt s ≤ KK.cnt s + 18 ∧ Below L w w2) := ⟨by
    have := h4
    rw [dk_xi (xi := d.x) (xi' := { d.x with off := false }) rfl rfl] at this
    exact this, ⟨hdo.n1, hdo.n2, rfl, fun e => ⟨rfl, (hdo.arm e).2⟩, hdo.dis, hdo.wh, hdo.tn, hdo.tb, hdo.ehv, hdo.hl, hdo.le, hdo.live⟩, ⟨rfl, rfl, rfl, rfl, rfl⟩, by show d.x.writes ≤ _; omega, by omega, H3.out.2.1.trans hb4⟩
  clear h4 hb4 hD hC H3 HOF d0 hon
  obtain ⟨ig, ic, N9, bq, _, hf1, hf2, hf3, hf4⟩ := fin_facts d.kb d.p w2 HF2.out.1 HF2.out.2.1 HF2.out.2.2.1.kb HF2.out.2.2.1.p
  have HALL : Hid _ := hf1
  have HIM : Hid _ := hf2
  have HSM : Hid _ := hf3
  have HON : Hid _ := hf4
  have HX : Below w2.heap.size w2 w2 := Below.refl _ _
  clear hf1 hf2 hf3 hf4
  go_wp2_with fail
  rename_i K hK
  try rw [show ∀ a : Act, a.put none undef = a from fun _ => rfl]
  refine wp_region_mix (fun wz : World => Below w2.heap.size w2 wz) (fun i => i == 6 || i == 11 || i == 18 || i == 99) 99 (by kernel_rfl) rfl (by kernel_rfl) (by kernel_rfl) (by kernel_rfl) ?_
  refine withFrP (N := 147) rfl ?_
  intro f0 F0 hff
  have ee0 : f0 0 = Value.pointer (some ⟨d.kb, 0, none⟩) := hff 0
  have ee5 : f0 5 = Value.bool true := hff 5
  clear hff
  have HCC : (fun wz : World => Below w2.heap.size w2 wz) (({ w2 with drawn := w2.drawn + 1 } : World)) := (below_dr HX 1 : Below w2.heap.size w2 (w2.drewN 1))
  refine lyp F0 rfl HCC rfl (by omega) (wanted_none rfl) (v := Value.bool true) (fun wr hwr => by simp only [execOp, (F0.eval 5 (by omega)).trans (show _ = Value.bool true from by simp [upd, ee0, ee5])]; first | rfl | simp [go_sem]) fun F1 => ?_
  refine lyp F1 rfl HCC rfl (by omega) (wanted_none rfl) (v := Value.bool true) (fun wr hwr => by simp only [execOp, (F1.eval 122 (by omega)).trans (show _ = Value.bool true from by simp [upd, ee0, ee5])]; first | rfl | simp [go_sem]) fun F2 => ?_
  refine lyp F2 rfl HCC rfl (by omega) (want_yes F2 rfl (e := 123) rfl (by omega) (show _ = Value.bool true from by simp [upd, ee0, ee5])) (v := Value.pointer (some ⟨d.kb, 0, none⟩)) (fun wr hwr => by simp only [execOp, (F2.eval 0 (by omega)).trans (show _ = Value.pointer (some ⟨d.kb, 0, none⟩) from by simp [upd, ee0, ee5])]; first | rfl | simp [go_sem]) fun F3 => ?_
  refine lyp F3 rfl HCC rfl (by omega) (want_yes F3 rfl (e := 123) rfl (by omega) (show _ = Value.bool true from by simp [upd, ee0, ee5])) (v := Value.pointer (some ⟨d.kb, 0, none⟩)) (fun wr hwr => by simp only [execOp, (F3.eval 124 (by omega)).trans (show _ = Value.pointer (some ⟨d.kb, 0, none⟩) from by simp [upd, ee0, ee5])]; simp [go_sem]) fun F4 => ?_
  refine lyp F4 rfl HCC rfl (by omega) (want_yes F4 rfl (e := 123) rfl (by omega) (show _ = Value.bool true from by simp [upd, ee0, ee5])) (v := Value.pointer (some ⟨d.kb, 0, none⟩)) (fun wr hwr => by simp only [execOp, (F4.eval 125 (by omega)).trans (show _ = Value.pointer (some ⟨d.kb, 0, none⟩) from by simp [upd, ee0, ee5])]; simp [go_sem]) fun F5 => ?_
  refine lyp F5 rfl HCC rfl (by omega) (want_yes F5 rfl (e := 123) rfl (by omega) (show _ = Value.bool true from by simp [upd, ee0, ee5])) (v := Value.pointer (some ⟨d.p, 0, none⟩)) (fun wr hwr => by simp only [execOp, (F5.eval 126 (by omega)).trans (show _ = Value.pointer (some ⟨d.kb, 0, none⟩) from by simp [upd, ee0, ee5])]; simp [go_sem, (HALL.out wr hwr).1]) fun F6 => ?_
  refine lcp F6 rfl HCC rfl (by omega) (want_yes F6 rfl (e := 123) rfl (by omega) (show _ = Value.bool true from by simp [upd, ee0, ee5])) (g := 28) (args := #[Value.pointer (some ⟨d.p, 0, none⟩)]) (by simp only [execOp, resolve, invoke, List.map_toArray, List.map_cons, List.map_nil, (F6.eval 127 (by omega)).trans (show _ = Value.pointer (some ⟨d.p, 0, none⟩) from by simp [upd, ee0, ee5])]; simp [go_sem, Act.eval]) (HIM.out _ HCC) ?_
  rintro e9 wC ⟨vo', vn', vc', rfl, hby, HC⟩
  refine ⟨_, rfl, fun F7 => ?_⟩
  refine lyp F7 rfl HC rfl (by omega) (want_yes F7 rfl (e := 123) rfl (by omega) (show _ = Value.bool true from by simp [upd, ee0, ee5])) (v := Value.pointer (some ⟨d.kb, 0, none⟩)) (fun wr hwr => by simp only [execOp, (F7.eval 0 (by omega)).trans (show _ = Value.pointer (some ⟨d.kb, 0, none⟩) from by simp [upd, ee0, ee5])]; first | rfl | simp [go_sem]) fun F8 => ?_
  refine lyp F8 rfl HC rfl (by omega) (want_yes F8 rfl (e := 123) rfl (by omega) (show _ = Value.bool true from by simp [upd, ee0, ee5])) (v := Value.pointer (some ⟨d.kb, 0, none⟩)) (fun wr hwr => by simp only [execOp, (F8.eval 129 (by omega)).trans (show _ = Value.pointer (some ⟨d.kb, 0, none⟩) from by simp [upd, ee0, ee5])]; simp [go_sem]) fun F9 => ?_
  refine lyp F9 rfl HC rfl (by omega) (want_yes F9 rfl (e := 123) rfl (by omega) (show _ = Value.bool true from by simp [upd, ee0, ee5])) (v := Value.pointer (some ⟨d.kb, 2, none⟩)) (fun wr hwr => by simp only [execOp, (F9.eval 130 (by omega)).trans (show _ = Value.pointer (some ⟨d.kb, 0, none⟩) from by simp [upd, ee0, ee5])]; simp [go_sem]) fun F10 => ?_
  refine lyp F10 rfl HC rfl (by omega) (want_yes F10 rfl (e := 123) rfl (by omega) (show _ = Value.bool true from by simp [upd, ee0, ee5])) (v := Value.slice (some ⟨ig, 0, none⟩) (N9 * 512) ic) (fun wr hwr => by simp only [execOp, (F10.eval 131 (by omega)).trans (show _ = Value.pointer (some ⟨d.kb, 2, none⟩) from by simp [upd, ee0, ee5])]; simp [go_sem, (HALL.out wr hwr).2.1]) fun F11 => ?_
  refine lcp F11 rfl HC rfl (by omega) (want_yes F11 rfl (e := 123) rfl (by omega) (show _ = Value.bool true from by simp [upd, ee0, ee5])) (g := 27) (args := #[Value.slice vo' vn' vc', Value.slice (some ⟨ig, 0, none⟩) (N9 * 512) ic]) (by simp only [execOp, resolve, invoke, List.map_toArray, List.map_cons, List.map_nil, (F11.eval 128 (by omega)).trans (show _ = Value.slice vo' vn' vc' from by simp [upd, ee0, ee5]), (F11.eval 132 (by omega)).trans (show _ = Value.slice (some ⟨ig, 0, none⟩) (N9 * 512) ic from by simp [upd, ee0, ee5])]; simp [go_sem, Act.eval]) (HSM.out _ _ _ _ HC hby) ?_
  rintro e9 wD ⟨rfl, HD⟩
  refine ⟨_, rfl, fun F12 => ?_⟩
  refine lyp F12 rfl HD rfl (by omega) (wanted_none rfl) (v := Value.bool true) (fun wr hwr => by simp only [execOp, (F12.eval 123 (by omega)).trans (show _ = Value.bool true from by simp [upd, ee0, ee5]), (F12.eval 133 (by omega)).trans (show _ = Value.bool true from by simp [upd, ee0, ee5])]; simp [go_sem, Act.eval]) fun F13 => ?_
  refine lyp F13 rfl HD rfl (by omega) (wanted_none rfl) (v := Value.bool true) (fun wr hwr => by simp only [execOp, (F13.eval 134 (by omega)).trans (show _ = Value.bool true from by simp [upd, ee0, ee5])]; first | rfl | simp [go_sem]) fun F14 => ?_
  refine lyp F14 rfl HD rfl (by omega) (want_yes F14 rfl (e := 135) rfl (by omega) (show _ = Value.bool true from by simp [upd, ee0, ee5])) (v := Value.pointer (some ⟨d.kb, 0, none⟩)) (fun wr hwr => by simp only [execOp, (F14.eval 0 (by omega)).trans (show _ = Value.pointer (some ⟨d.kb, 0, none⟩) from by simp [upd, ee0, ee5])]; first | rfl | simp [go_sem]) fun F15 => ?_
  refine lyp F15 rfl HD rfl (by omega) (want_yes F15 rfl (e := 135) rfl (by omega) (show _ = Value.bool true from by simp [upd, ee0, ee5])) (v := Value.pointer (some ⟨d.kb, 0, none⟩)) (fun wr hwr => by simp only [execOp, (F15.eval 136 (by omega)).trans (show _ = Value.pointer (some ⟨d.kb, 0, none⟩) from by simp [upd, ee0, ee5])]; simp [go_sem]) fun F16 => ?_
  refine lyp F16 rfl HD rfl (by omega) (want_yes F16 rfl (e := 135) rfl (by omega) (show _ = Value.bool true from by simp [upd, ee0, ee5])) (v := Value.pointer (some ⟨d.kb, 0, none⟩)) (fun wr hwr => by simp only [execOp, (F16.eval 137 (by omega)).trans (show _ = Value.pointer (some ⟨d.kb, 0, none⟩) from by simp [upd, ee0, ee5])]; simp [go_sem]) fun F17 => ?_
  refine lyp F17 rfl HD rfl (by omega) (want_yes F17 rfl (e := 135) rfl (by omega) (show _ = Value.bool true from by simp [upd, ee0, ee5])) (v := Value.pointer (some ⟨d.p, 0, none⟩)) (fun wr hwr => by simp only [execOp, (F17.eval 138 (by omega)).trans (show _ = Value.pointer (some ⟨d.kb, 0, none⟩) from by simp [upd, ee0, ee5])]; simp [go_sem, (HALL.out wr hwr).1]) fun F18 => ?_
  refine lcp F18 rfl HD rfl (by omega) (want_yes F18 rfl (e := 135) rfl (by omega) (show _ = Value.bool true from by simp [upd, ee0, ee5])) (g := 33) (args := #[Value.pointer (some ⟨d.p, 0, none⟩)]) (by simp only [execOp, resolve, invoke, List.map_toArray, List.map_cons, List.map_nil, (F18.eval 139 (by omega)).trans (show _ = Value.pointer (some ⟨d.p, 0, none⟩) from by simp [upd, ee0, ee5])]; simp [go_sem, Act.eval]) (HON.out _ HD) ?_
  rintro e9 wE ⟨rfl, HE⟩
  refine ⟨_, rfl, fun F19 => ?_⟩
  refine lyp F19 rfl HE rfl (by omega) (want_yes F19 rfl (e := 135) rfl (by omega) (show _ = Value.bool true from by simp [upd, ee0, ee5])) (v := Value.pointer (some ⟨d.kb, 0, none⟩)) (fun wr hwr => by simp only [execOp, (F19.eval 0 (by omega)).trans (show _ = Value.pointer (some ⟨d.kb, 0, none⟩) from by simp [upd, ee0, ee5])]; first | rfl | simp [go_sem]) fun F20 => ?_
  refine lyp F20 rfl HE rfl (by omega) (want_yes F20 rfl (e := 135) rfl (by omega) (show _ = Value.bool true from by simp [upd, ee0, ee5])) (v := Value.pointer (some ⟨d.kb, 0, none⟩)) (fun wr hwr => by simp only [execOp, (F20.eval 141 (by omega)).trans (show _ = Value.pointer (some ⟨d.kb, 0, none⟩) from by simp [upd, ee0, ee5])]; simp [go_sem]) fun F21 => ?_
  refine lyp F21 rfl HE rfl (by omega) (want_yes F21 rfl (e := 135) rfl (by omega) (show _ = Value.bool true from by simp [upd, ee0, ee5])) (v := Value.pointer (some ⟨d.kb, 3, none⟩)) (fun wr hwr => by simp only [execOp, (F21.eval 142 (by omega)).trans (show _ = Value.pointer (some ⟨d.kb, 0, none⟩) from by simp [upd, ee0, ee5])]; simp [go_sem]) fun F22 => ?_
  refine lyp F22 rfl HE rfl (by omega) (want_yes F22 rfl (e := 135) rfl (by omega) (show _ = Value.bool true from by simp [upd, ee0, ee5])) (v := Value.bool bq) (fun wr hwr => by simp only [execOp, (F22.eval 143 (by omega)).trans (show _ = Value.pointer (some ⟨d.kb, 3, none⟩) from by simp [upd, ee0, ee5])]; simp [go_sem, (HALL.out wr hwr).2.2]) fun F23 => ?_
  refine lyp F23 rfl HE rfl (by omega) (want_yes F23 rfl (e := 135) rfl (by omega) (show _ = Value.bool true from by simp [upd, ee0, ee5])) (v := Value.bool true) (fun wr hwr => by simp only [execOp, (F23.eval 140 (by omega)).trans (show _ = Value.bool bq from by simp [upd, ee0, ee5]), (F23.eval 144 (by omega)).trans (show _ = Value.bool bq from by simp [upd, ee0, ee5])]; simp [go_sem, Act.eval]) fun F24 => ?_
  refine lyp F24 rfl HE rfl (by omega) (wanted_none rfl) (v := Value.bool true) (fun wr hwr => by simp only [execOp, (F24.eval 135 (by omega)).trans (show _ = Value.bool true from by simp [upd, ee0, ee5]), (F24.eval 145 (by omega)).trans (show _ = Value.bool true from by simp [upd, ee0, ee5])]; simp [go_sem, Act.eval]) fun F25 => ?_
  refine lyp F25 rfl HE rfl (by omega) (wanted_none rfl) (v := Value.bool true) (fun wr hwr => by simp only [execOp, (F25.eval 146 (by omega)).trans (show _ = Value.bool true from by simp [upd, ee0, ee5])]; first | rfl | simp [go_sem]) fun F26 => ?_
  refine ⟨fun _ => HE, ?_⟩
  refine hK _ _ ?_
  clear F0 F1 F2 F3 F4 F5 F6 F7 F8 F9 F10 F11 F12 F13 F14 F15 F16 F17 F18 F19 F20 F21 F22 F23 F24 F25 F26 ee0 ee5 HCC
  simp only [Act.put, List.setIfInBounds_toArray, List.set_cons_succ, List.set_cons_zero]
  have HF9 : Held (({ d with on := true, left := d.left, x := { d.x with off := false } } : DK).es L ({ d with on := true, left := d.left, x := { d.x with off := false } } : DK).x (JE L ({ d with on := true, left := d.left, x := { d.x with off := false } } : DK).jb y ({ d with on := true, left := d.left, x := { d.x with off := false } } : DK).dead) (kE KK s :: R)) wE := dk_drop (HF2.out.1.more HE)
  have HF8 : Hid _ := HF9
  have HB8 : Hid (Below L w wE) := HF2.out.2.2.2.2.2.trans (HE.mono (dk_lo HF2.out.1))
  clear HC HD HE HX hby HF9
  go_wp2_with fail
  go_ret
  exact ⟨rfl, ({ d with on := true, left := d.left, x := { d.x with off := false } } : DK), y, s, HF8.out, HF2.out.2.1, HF2.out.2.2.1, HF2.out.2.2.2.1, HF2.out.2.2.2.2.1, HB8.out⟩
theorem played_onOff {σ : Type} {L sb vn vc : Nat} {KK : Keeper σ L sb} {d : DK} {y : JV} {s : σ} {R : List (Ent L)} {vo : Option Addr} (a n : Int) (w : World) (h : Held (d.es L d.x (JE L d.jb y d.dead) (kE KK s :: R)) w) (hd : DKO d y) (hsb : d.sb = sb) (hon : d.on = false) :
    Calls Try.prog 45 #[.pointer (some ⟨d.kb, 0, none⟩), .agg #[.int .i64 7, .int .i64 a, .int .i64 n, .slice vo vn vc]] w (PlQ KK d s R w) := by
  obtain ⟨ob, hob⟩ : ∃ b, b = w.heap.size := ⟨_, rfl⟩
  obtain ⟨w1, hw1⟩ : ∃ X, X = w.alloc (.cells #[.int .i64 7, .int .i64 a, .int .i64 n, .slice vo vn vc] 91) := ⟨_, rfl⟩
  have hL : L ≤ w.heap.size := dk_lo h
  have hb1 : Below L w w1 := by rw [hw1]; exact (Below.refl _ _).alloc hL _
  have h1 : Held (d.es L d.x (JE L d.jb y d.dead) (boxE L ob #[.int .i64 7, .int .i64 a, .int .i64 n, .slice vo vn vc] 91 :: kE KK s :: R)) w1 := by rw [hw1, hob]; exact dk_new h
  have o0 : w1.cell? ⟨ob, 0, none⟩ = some (.int .i64 7) := (dk_ob h1).cell 0
  have o1 : w1.cell? ⟨ob, 1, none⟩ = some (.int .i64 a) := (dk_ob h1).cell 1
  have o2 : w1.cell? ⟨ob, 2, none⟩ = some (.int .i64 n) := (dk_ob h1).cell 2
  have o3 : w1.cell? ⟨ob, 3, none⟩ = some (.slice vo vn vc) := (dk_ob h1).cell 3
  have c0 : w1.cell? ⟨d.kb, 0, none⟩ = some (.pointer (some ⟨d.p, 0, none⟩)) := (dk_box h1).cell 0
  have HL : Hid (Below L w w1 ∧ DKO d y ∧ d.sb = sb) := ⟨hb1, hd, hsb⟩
  have H1 : Hid (Held (d.es L d.x (JE L d.jb y d.dead) (boxE L ob #[.int .i64 7, .int .i64 a, .int .i64 n, .slice vo vn vc] 91 :: kE KK s :: R)) w1) := h1
  have c3 : w1.cell? ⟨d.kb, 3, none⟩ = some (.bool false) := by have := (dk_box h1).cell 3; rw [this]; exact congrArg some (congrArg Value.bool hon)
  have h2 : Held (({ d with left := -1 } : DK).es L d.x (JE L d.jb y d.dead) (boxE L ob #[.int .i64 7, .int .i64 a, .int .i64 n, .slice vo vn vc] 91 :: kE KK s :: R)) (w1.setCell ⟨d.kb, 4, none⟩ (.int .i64 (-1))) := dk_set h1 rfl rfl rfl rfl rfl rfl rfl rfl
  have hb2 : Below L w (w1.setCell ⟨d.kb, 4, none⟩ (.int .i64 (-1))) := hb1.trans (dk_setB h1)
  have c4 : w1.cell? ⟨d.kb, 4, none⟩ = some (.int .i64 d.left) := (dk_box h1).cell 4
  have f4 : w1.frozen? ⟨d.kb, 4, none⟩ = false := (dk_box h1).frozen 4
  obtain ⟨wa, hwa⟩ : ∃ X, X = w1.setCell ⟨d.kb, 4, none⟩ (.int .i64 (-1)) := ⟨_, rfl⟩
  rw [← hwa] at h2 hb2
  have e3 : wa.cell? ⟨d.kb, 3, none⟩ = some (.bool false) := by have := (dk_box h2).cell 3; rw [this]; exact congrArg some (congrArg Value.bool hon)
  have g3 : wa.frozen? ⟨d.kb, 3, none⟩ = false := (dk_box h2).frozen 3
  have h3 : Held (({ d with on := true, left := -1 } : DK).es L d.x (JE L d.jb y d.dead) (boxE L ob #[.int .i64 7, .int .i64 a, .int .i64 n, .slice vo vn vc] 91 :: kE KK s :: R)) (wa.setCell ⟨d.kb, 3, none⟩ (.bool true)) := dk_set (d := ({ d with left := -1 } : DK)) h2 rfl rfl rfl rfl rfl rfl rfl rfl
  have hb3 : Below L w (wa.setCell ⟨d.kb, 3, none⟩ (.bool true)) := hb2.trans (dk_setB (d := ({ d with left := -1 } : DK)) h2)
  obtain ⟨wb, hwb⟩ : ∃ X, X = wa.setCell ⟨d.kb, 3, none⟩ (.bool true) := ⟨_, rfl⟩
  rw [← hwb] at h3 hb3
  have d0 : wb.cell? ⟨d.kb, 0, none⟩ = some (.pointer (some ⟨d.p, 0, none⟩)) := (dk_box h3).cell 0
  have HOF : Hid _ := on_any wb (dk_dm h3)
  have H3 : Hid (Held (({ d with on := true, left := -1 } : DK).es L d.x (JE L d.jb y d.dead) (boxE L ob #[.int .i64 7, .int .i64 a, .int .i64 n, .slice vo vn vc] 91 :: kE KK s :: R)) wb ∧ Below L w wb ∧ d.on = false) := ⟨h3, hb3, hon⟩
  clear h hd hsb hb1 h1 hL o1 o2 o3 h2 hb2 h3 hb3 c0 hon
  go_enter Try.func45, Try.ntmps45
  go_upto_region 1 with fail
  rw [← hw1, ← hob]
  clear hw1 hob
  subst hwa
  go_upto_region 28 with fail
  rw [← hwb]
  clear hwb c3 e3 g3 o0 c4 f4
  go_wp2_with fail
  refine Calls.mono HOF.out ?_
  rintro e w2 ⟨rfl, hD, hC⟩
  obtain ⟨h4, hb4⟩ := dk_dmSet H3.out.1 hD hC
  have hdo := HL.out.2.1
  have hon := H3.out.2.2
  have HF2 : Hid (Held (({ d with on := true, left := -1, x := { d.x with off := false } } : DK).es L ({ d with on := true, left := -1, x := { d.x with off := false } } : DK).x (JE L ({ d with on := true, left := -1, x := { d.x with off := false } } : DK).jb y ({ d with on := true, left := -1, x := { d.x with off := false } } : DK).dead) (boxE L ob #[.int .i64 7, .int .i64 a, .int .i64 n, .slice vo vn vc] 91 :: kE KK s :: R)) w2 ∧ DKO ({ d with on := true, left := -1, x := { d.x with off := false } } : DK) y ∧ DSame d ({ d with on := true, left := -1, x := { d.x with off := false } } : DK) ∧ ({ d with on := true, left := -1, x := { d.x with off := false } } : DK).x.writes ≤ d.x.writes + 17 ∧ KK.cnt s ≤ KK.cnt s + 18 ∧ Below L w w2) := ⟨by
    have := h4
    rw [dk_xi (xi := d.x) (xi' := { d.x with off := false }) rfl rfl] at this
    exact this, ⟨hdo.n1, hdo.n2, rfl, fun e => (by have h9 := (hdo.arm e).1; have h8 := hdo.eon; rw [hon, h9] at h8; cases h8), fun _ => rfl, hdo.wh, hdo.tn, hdo.tb, hdo.ehv, hdo.hl, hdo.le, hdo.live⟩, ⟨rfl, rfl, rfl, rfl, rfl⟩, by show d.x.writes ≤ _; omega, by omega, H3.out.2.1.trans hb4⟩
  clear h4 hb4 hD hC H3 HOF d0 hon
  obtain ⟨ig, ic, N9, bq, _, hf1, hf2, hf3, hf4⟩ := fin_facts d.kb d.p w2 HF2.out.1 HF2.out.2.1 HF2.out.2.2.1.kb HF2.out.2.2.1.p
  have HALL : Hid _ := hf1
  have HIM : Hid _ := hf2
  have HSM : Hid _ := hf3
  have HON : Hid _ := hf4
  have HX : Below w2.heap.size w2 w2 := Below.refl _ _
  clear hf1 hf2 hf3 hf4
  go_wp2_with fail
  rename_i K hK
  try rw [show ∀ a : Act, a.put none undef = a from fun _ => rfl]
  refine wp_region_mix (fun wz : World => Below w2.heap.size w2 wz) (fun i => i == 6 || i == 11 || i == 18 || i == 99) 99 (by kernel_rfl) rfl (by kernel_rfl) (by kernel_rfl) (by kernel_rfl) ?_
  refine withFrP (N := 147) rfl ?_
  intro f0 F0 hff
  have ee0 : f0 0 = Value.pointer (some ⟨d.kb, 0, none⟩) := hff 0
  have ee5 : f0 5 = Value.bool true := hff 5
  clear hff
  have HCC : (fun wz : World => Below w2.heap.size w2 wz) (({ w2 with drawn := w2.drawn + 1 } : World)) := (below_dr HX 1 : Below w2.heap.size w2 (w2.drewN 1))
  refine lyp F0 rfl HCC rfl (by omega) (wanted_none rfl) (v := Value.bool true) (fun wr hwr => by simp only [execOp, (F0.eval 5 (by omega)).trans (show _ = Value.bool true from by simp [upd, ee0, ee5])]; first | rfl | simp [go_sem]) fun F1 => ?_
  refine lyp F1 rfl HCC rfl (by omega) (wanted_none rfl) (v := Value.bool true) (fun wr hwr => by simp only [execOp, (F1.eval 122 (by omega)).trans (show _ = Value.bool true from by simp [upd, ee0, ee5])]; first | rfl | simp [go_sem]) fun F2 => ?_
  refine lyp F2 rfl HCC rfl (by omega) (want_yes F2 rfl (e := 123) rfl (by omega) (show _ = Value.bool true from by simp [upd, ee0, ee5])) (v := Value.pointer (some ⟨d.kb, 0, none⟩)) (fun wr hwr => by simp only [execOp, (F2.eval 0 (by omega)).trans (show _ = Value.pointer (some ⟨d.kb, 0, none⟩) from by simp [upd, ee0, ee5])]; first | rfl | simp [go_sem]) fun F3 => ?_
  refine lyp F3 rfl HCC rfl (by omega) (want_yes F3 rfl (e := 123) rfl (by omega) (show _ = Value.bool true from by simp [upd, ee0, ee5])) (v := Value.pointer (some ⟨d.kb, 0, none⟩)) (fun wr hwr => by simp only [execOp, (F3.eval 124 (by omega)).trans (show _ = Value.pointer (some ⟨d.kb, 0, none⟩) from by simp [upd, ee0, ee5])]; simp [go_sem]) fun F4 => ?_
  refine lyp F4 rfl HCC rfl (by omega) (want_yes F4 rfl (e := 123) rfl (by omega) (show _ = Value.bool true from by simp [upd, ee0, ee5])) (v := Value.pointer (some ⟨d.kb, 0, none⟩)) (fun wr hwr => by simp only [execOp, (F4.eval 125 (by omega)).trans (show _ = Value.pointer (some ⟨d.kb, 0, none⟩) from by simp [upd, ee0, ee5])]; simp [go_sem]) fun F5 => ?_
  refine lyp F5 rfl HCC rfl (by omega) (want_yes F5 rfl (e := 123) rfl (by omega) (show _ = Value.bool true from by simp [upd, ee0, ee5])) (v := Value.pointer (some ⟨d.p, 0, none⟩)) (fun wr hwr => by simp only [execOp, (F5.eval 126 (by omega)).trans (show _ = Value.pointer (some ⟨d.kb, 0, none⟩) from by simp [upd, ee0, ee5])]; simp [go_sem, (HALL.out wr hwr).1]) fun F6 => ?_
  refine lcp F6 rfl HCC rfl (by omega) (want_yes F6 rfl (e := 123) rfl (by omega) (show _ = Value.bool true from by simp [upd, ee0, ee5])) (g := 28) (args := #[Value.pointer (some ⟨d.p, 0, none⟩)]) (by simp only [execOp, resolve, invoke, List.map_toArray, List.map_cons, List.map_nil, (F6.eval 127 (by omega)).trans (show _ = Value.pointer (some ⟨d.p, 0, none⟩) from by simp [upd, ee0, ee5])]; simp [go_sem, Act.eval]) (HIM.out _ HCC) ?_
  rintro e9 wC ⟨vo', vn', vc', rfl, hby, HC⟩
  refine ⟨_, rfl, fun F7 => ?_⟩
  refine lyp F7 rfl HC rfl (by omega) (want_yes F7 rfl (e := 123) rfl (by omega) (show _ = Value.bool true from by simp [upd, ee0, ee5])) (v := Value.pointer (some ⟨d.kb, 0, none⟩)) (fun wr hwr => by simp only [execOp, (F7.eval 0 (by omega)).trans (show _ = Value.pointer (some ⟨d.kb, 0, none⟩) from by simp [upd, ee0, ee5])]; first | rfl | simp [go_sem]) fun F8 => ?_
  refine lyp F8 rfl HC rfl (by omega) (want_yes F8 rfl (e := 123) rfl (by omega) (show _ = Value.bool true from by simp [upd, ee0, ee5])) (v := Value.pointer (some ⟨d.kb, 0, none⟩)) (fun wr hwr => by simp only [execOp, (F8.eval 129 (by omega)).trans (show _ = Value.pointer (some ⟨d.kb, 0, none⟩) from by simp [upd, ee0, ee5])]; simp [go_sem]) fun F9 => ?_
  refine lyp F9 rfl HC rfl (by omega) (want_yes F9 rfl (e := 123) rfl (by omega) (show _ = Value.bool true from by simp [upd, ee0, ee5])) (v := Value.pointer (some ⟨d.kb, 2, none⟩)) (fun wr hwr => by simp only [execOp, (F9.eval 130 (by omega)).trans (show _ = Value.pointer (some ⟨d.kb, 0, none⟩) from by simp [upd, ee0, ee5])]; simp [go_sem]) fun F10 => ?_
  refine lyp F10 rfl HC rfl (by omega) (want_yes F10 rfl (e := 123) rfl (by omega) (show _ = Value.bool true from by simp [upd, ee0, ee5])) (v := Value.slice (some ⟨ig, 0, none⟩) (N9 * 512) ic) (fun wr hwr => by simp only [execOp, (F10.eval 131 (by omega)).trans (show _ = Value.pointer (some ⟨d.kb, 2, none⟩) from by simp [upd, ee0, ee5])]; simp [go_sem, (HALL.out wr hwr).2.1]) fun F11 => ?_
  refine lcp F11 rfl HC rfl (by omega) (want_yes F11 rfl (e := 123) rfl (by omega) (show _ = Value.bool true from by simp [upd, ee0, ee5])) (g := 27) (args := #[Value.slice vo' vn' vc', Value.slice (some ⟨ig, 0, none⟩) (N9 * 512) ic]) (by simp only [execOp, resolve, invoke, List.map_toArray, List.map_cons, List.map_nil, (F11.eval 128 (by omega)).trans (show _ = Value.slice vo' vn' vc' from by simp [upd, ee0, ee5]), (F11.eval 132 (by omega)).trans (show _ = Value.slice (some ⟨ig, 0, none⟩) (N9 * 512) ic from by simp [upd, ee0, ee5])]; simp [go_sem, Act.eval]) (HSM.out _ _ _ _ HC hby) ?_
  rintro e9 wD ⟨rfl, HD⟩
  refine ⟨_, rfl, fun F12 => ?_⟩
  refine lyp F12 rfl HD rfl (by omega) (wanted_none rfl) (v := Value.bool true) (fun wr hwr => by simp only [execOp, (F12.eval 123 (by omega)).trans (show _ = Value.bool true from by simp [upd, ee0, ee5]), (F12.eval 133 (by omega)).trans (show _ = Value.bool true from by simp [upd, ee0, ee5])]; simp [go_sem, Act.eval]) fun F13 => ?_
  refine lyp F13 rfl HD rfl (by omega) (wanted_none rfl) (v := Value.bool true) (fun wr hwr => by simp only [execOp, (F13.eval 134 (by omega)).trans (show _ = Value.bool true from by simp [upd, ee0, ee5])]; first | rfl | simp [go_sem]) fun F14 => ?_
  refine lyp F14 rfl HD rfl (by omega) (want_yes F14 rfl (e := 135) rfl (by omega) (show _ = Value.bool true from by simp [upd, ee0, ee5])) (v := Value.pointer (some ⟨d.kb, 0, none⟩)) (fun wr hwr => by simp only [execOp, (F14.eval 0 (by omega)).trans (show _ = Value.pointer (some ⟨d.kb, 0, none⟩) from by simp [upd, ee0, ee5])]; first | rfl | simp [go_sem]) fun F15 => ?_
  refine lyp F15 rfl HD rfl (by omega) (want_yes F15 rfl (e := 135) rfl (by omega) (show _ = Value.bool true from by simp [upd, ee0, ee5])) (v := Value.pointer (some ⟨d.kb, 0, none⟩)) (fun wr hwr => by simp only [execOp, (F15.eval 136 (by omega)).trans (show _ = Value.pointer (some ⟨d.kb, 0, none⟩) from by simp [upd, ee0, ee5])]; simp [go_sem]) fun F16 => ?_
  refine lyp F16 rfl HD rfl (by omega) (want_yes F16 rfl (e := 135) rfl (by omega) (show _ = Value.bool true from by simp [upd, ee0, ee5])) (v := Value.pointer (some ⟨d.kb, 0, none⟩)) (fun wr hwr => by simp only [execOp, (F16.eval 137 (by omega)).trans (show _ = Value.pointer (some ⟨d.kb, 0, none⟩) from by simp [upd, ee0, ee5])]; simp [go_sem]) fun F17 => ?_
  refine lyp F17 rfl HD rfl (by omega) (want_yes F17 rfl (e := 135) rfl (by omega) (show _ = Value.bool true from by simp [upd, ee0, ee5])) (v := Value.pointer (some ⟨d.p, 0, none⟩)) (fun wr hwr => by simp only [execOp, (F17.eval 138 (by omega)).trans (show _ = Value.pointer (some ⟨d.kb, 0, none⟩) from by simp [upd, ee0, ee5])]; simp [go_sem, (HALL.out wr hwr).1]) fun F18 => ?_
  refine lcp F18 rfl HD rfl (by omega) (want_yes F18 rfl (e := 135) rfl (by omega) (show _ = Value.bool true from by simp [upd, ee0, ee5])) (g := 33) (args := #[Value.pointer (some ⟨d.p, 0, none⟩)]) (by simp only [execOp, resolve, invoke, List.map_toArray, List.map_cons, List.map_nil, (F18.eval 139 (by omega)).trans (show _ = Value.pointer (some ⟨d.p, 0, none⟩) from by simp [upd, ee0, ee5])]; simp [go_sem, Act.eval]) (HON.out _ HD) ?_
  rintro e9 wE ⟨rfl, HE⟩
  refine ⟨_, rfl, fun F19 => ?_⟩
  refine lyp F19 rfl HE rfl (by omega) (want_yes F19 rfl (e := 135) rfl (by omega) (show _ = Value.bool true from by simp [upd, ee0, ee5])) (v := Value.pointer (some ⟨d.kb, 0, none⟩)) (fun wr hwr => by simp only [execOp, (F19.eval 0 (by omega)).trans (show _ = Value.pointer (some ⟨d.kb, 0, none⟩) from by simp [upd, ee0, ee5])]; first | rfl | simp [go_sem]) fun F20 => ?_
  refine lyp F20 rfl HE rfl (by omega) (want_yes F20 rfl (e := 135) rfl (by omega) (show _ = Value.bool true from by simp [upd, ee0, ee5])) (v := Value.pointer (some ⟨d.kb, 0, none⟩)) (fun wr hwr => by simp only [execOp, (F20.eval 141 (by omega)).trans (show _ = Value.pointer (some ⟨d.kb, 0, none⟩) from by simp [upd, ee0, ee5])]; simp [go_sem]) fun F21 => ?_
  refine lyp F21 rfl HE rfl (by omega) (want_yes F21 rfl (e := 135) rfl (by omega) (show _ = Value.bool true from by simp [upd, ee0, ee5])) (v := Value.pointer (some ⟨d.kb, 3, none⟩)) (fun wr hwr => by simp only [execOp, (F21.eval 142 (by omega)).trans (show _ = Value.pointer (some ⟨d.kb, 0, none⟩) from by simp [upd, ee0, ee5])]; simp [go_sem]) fun F22 => ?_
  refine lyp F22 rfl HE rfl (by omega) (want_yes F22 rfl (e := 135) rfl (by omega) (show _ = Value.bool true from by simp [upd, ee0, ee5])) (v := Value.bool bq) (fun wr hwr => by simp only [execOp, (F22.eval 143 (by omega)).trans (show _ = Value.pointer (some ⟨d.kb, 3, none⟩) from by simp [upd, ee0, ee5])]; simp [go_sem, (HALL.out wr hwr).2.2]) fun F23 => ?_
  refine lyp F23 rfl HE rfl (by omega) (want_yes F23 rfl (e := 135) rfl (by omega) (show _ = Value.bool true from by simp [upd, ee0, ee5])) (v := Value.bool true) (fun wr hwr => by simp only [execOp, (F23.eval 140 (by omega)).trans (show _ = Value.bool bq from by simp [upd, ee0, ee5]), (F23.eval 144 (by omega)).trans (show _ = Value.bool bq from by simp [upd, ee0, ee5])]; simp [go_sem, Act.eval]) fun F24 => ?_
  refine lyp F24 rfl HE rfl (by omega) (wanted_none rfl) (v := Value.bool true) (fun wr hwr => by simp only [execOp, (F24.eval 135 (by omega)).trans (show _ = Value.bool true from by simp [upd, ee0, ee5]), (F24.eval 145 (by omega)).trans (show _ = Value.bool true from by simp [upd, ee0, ee5])]; simp [go_sem, Act.eval]) fun F25 => ?_
  refine lyp F25 rfl HE rfl (by omega) (wanted_none rfl) (v := Value.bool true) (fun wr hwr => by simp only [execOp, (F25.eval 146 (by omega)).trans (show _ = Value.bool true from by simp [upd, ee0, ee5])]; first | rfl | simp [go_sem]) fun F26 => ?_
  refine ⟨fun _ => HE, ?_⟩
  refine hK _ _ ?_
  clear F0 F1 F2 F3 F4 F5 F6 F7 F8 F9 F10 F11 F12 F13 F14 F15 F16 F17 F18 F19 F20 F21 F22 F23 F24 F25 F26 ee0 ee5 HCC
  simp only [Act.put, List.setIfInBounds_toArray, List.set_cons_succ, List.set_cons_zero]
  have HF9 : Held (({ d with on := true, left := -1, x := { d.x with off := false } } : DK).es L ({ d with on := true, left := -1, x := { d.x with off := false } } : DK).x (JE L ({ d with on := true, left := -1, x := { d.x with off := false } } : DK).jb y ({ d with on := true, left := -1, x := { d.x with off := false } } : DK).dead) (kE KK s :: R)) wE := dk_drop (HF2.out.1.more HE)
  have HF8 : Hid _ := HF9
  have HB8 : Hid (Below L w wE) := HF2.out.2.2.2.2.2.trans (HE.mono (dk_lo HF2.out.1))
  clear HC HD HE HX hby HF9
  go_wp2_with fail
  go_ret
  exact ⟨rfl, ({ d with on := true, left := -1, x := { d.x with off := false } } : DK), y, s, HF8.out, HF2.out.2.1, HF2.out.2.2.1, HF2.out.2.2.2.1, HF2.out.2.2.2.2.1, HB8.out⟩
end Go.Proofs.Ytcnokgphioigoaa
