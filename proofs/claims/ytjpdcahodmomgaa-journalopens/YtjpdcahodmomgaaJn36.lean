import Derived.Test.YtjpdcahodmomgaaJn35
import Derived.Test.YtjpdcahodmomgaaJn13
import Derived.Test.YtjpdcahodmomgaaMix2
import Derived.Deep.RegionWith
namespace Go.Proofs.Ytjpdcahodmomgaa
open Go.RowKit Go.PlainAid
set_option linter.unusedVariables false
set_option linter.unusedSimpArgs false
set_option maxRecDepth 100000
set_option maxHeartbeats 6400000
theorem open_nil (w : World) : Calls Try.prog 14 #[.pointer none] w fun e w' => e = .returned (.tuple #[.pointer none, .int .i64 1]) ∧ w' = w := by
  go_enter Try.func14, Try.ntmps14
  go_wp2_with fail
  go_ret2
  exact ⟨rfl, rfl⟩
theorem opens_law {z : Int} {v : Value} {bs : List UInt8} (w : World) (hz : -9223372036854775808 ≤ z ∧ z ≤ 9223372036854775807) (hb : By w v bs) :
    Calls Try.prog 7 #[.int .i64 z, v] w fun e w' => e = .returned (.bool true) ∧ Below w.heap.size w w' := by
  have HSH : Hid _ := shaped_any z w hz hb
  obtain ⟨vo, vn, vc, rfl, _⟩ := id hb
  clear hb hz
  go_enter Try.func7, Try.ntmps7
  go_wp2_with fail
  refine Calls.mono HSH.out ?_
  rintro e w1 ⟨n, g, im, hn1, hn2, hil, rfl, ho1, hb1⟩
  clear HSH
  obtain ⟨L, hL⟩ : ∃ L, L = w.heap.size := ⟨_, rfl⟩
  have h1 : Held [rowE L 5 1 (.slice (some ⟨g, 0, none⟩) (n * 512) (n * 512)) (n * 512) (im.map B)] w1 := ⟨fun e he => by rw [List.mem_singleton.1 he, hL]; exact ho1, List.pairwise_singleton ..⟩
  have hbyW : ∀ W, Held [rowE L 5 1 (.slice (some ⟨g, 0, none⟩) (n * 512) (n * 512)) (n * 512) (im.map B)] W → By W (.slice (some ⟨g, 0, none⟩) (n * 512) (n * 512)) im := fun W hW => by
    have h9 : W.ownsRow L 5 1 (.slice (some ⟨g, 0, none⟩) (n * 512) (n * 512)) (n * 512) (im.map B) := hW.all _ (List.mem_cons_self ..)
    exact own_by (L := L) (s := im) (by rw [hil]; exact h9)
  have HBG : Hid _ := begun_any w1 h1 (by rw [hL]; exact hb1.size) (fun W _ hW => hbyW W hW) hil hn1 (by omega) (Nat.le_refl _)
  have HBY : Hid _ := hbyW
  have HB1 : Hid (Below L w w1 ∧ L = w.heap.size) := ⟨by rw [hL]; exact hb1, hL⟩
  have HNI : Hid (im.length = n * 512 ∧ 1 ≤ n ∧ n ≤ 80) := ⟨hil, hn1, hn2⟩
  clear ho1 hb1 h1 hbyW hL hil hn1 hn2
  go_wp2_with fail
  refine Calls.mono HBG.out ?_
  rintro e w2 ⟨x, kb, p, s, sb, jb, y, iv, hv, hs, k, rfl, hx, hF, hJ, hhm, ⟨ho, hc, rfl⟩, hhl, hH, hb2⟩
  clear HBG
  have hle := Upto.le hF.1
  have hH' : Held (deskG L kb p s sb jb x y iv (-1) 0 (.slice ho hs.length hc) hs (itR x.b k).2 (boxE L sb #[.bool false, .slice none 0 0, .slice none 0 0, .slice none 0 0] 87 :: [rowE L 5 1 (.slice (some ⟨g, 0, none⟩) (n * 512) (n * 512)) (n * 512) (im.map B)])) w2 := hH
  have hDO : DOk p x y (.slice ho hs.length hc) hs (itR x.b k).2 := ⟨hJ.p, by rw [hJ.recs, hhm], hJ.next, hJ.fin, by rw [hx.n]; exact hle.2.1, by rw [hx.n]; exact HNI.out.2.1, by rw [hx.n]; have := HNI.out.2.2; omega, fun d hd => hle.2.2 d.2 (by rw [← hJ.recs]; exact List.mem_map_of_mem hd), ⟨ho, hc, rfl⟩, by rw [hhl]; exact hle.1⟩
  have hlen := hDO.len
  have hLw : L ≤ w2.heap.size := desk_lo hH'
  have HON : Hid _ := open_nil w2
  have HALL : Hid (∀ W, Below w2.heap.size w2 W → W.cell? ⟨kb, 0, none⟩ = some (.pointer (some ⟨p, 0, none⟩)) ∧ W.cell? ⟨kb, 1, none⟩ = some (.pointer (some ⟨jb, 0, none⟩)) ∧ W.cell? ⟨kb, 6, none⟩ = some (.slice ho hs.length hc)) := fun W hW => by
    have hB := desk_box (hH'.more hW)
    exact ⟨hB.cell 0, hB.cell 1, hB.cell 6⟩
  have HAB : Hid (∀ W, Below w2.heap.size w2 W → Calls Try.prog 9 #[] W fun e w' => e = .returned (.bool true) ∧ Below w2.heap.size w2 w') := fun W hW => (able_yes W).mono fun e w' ⟨h1, h2⟩ => ⟨h1, hW.trans (h2.mono hW.size)⟩
  have HNM : Hid (∀ W, Below w2.heap.size w2 W → Calls Try.prog 12 #[.int .i64 1] W fun e w' => e = .returned (.int .i64 1) ∧ Below w2.heap.size w2 w') := fun W hW => (num_any 1 W).mono fun e w' ⟨h1, h2⟩ => ⟨h1, by rw [h2]; exact hW⟩
  have HTL : Hid (∀ W, Below w2.heap.size w2 W → Calls Try.prog 19 #[.pointer (some ⟨jb, 0, none⟩), .slice ho hs.length hc] W fun e w' => e = .returned (.bool true) ∧ Below w2.heap.size w2 w') := fun W hW => (tells_yes W (desk_j (hH'.more hW)) hDO.recs hDO.l8 (by rw [hlen]; have := hDO.hl; have := hDO.le; have := hDO.n2; omega) (desk_rows (hH'.more hW))).mono fun e w' ⟨h1, h2⟩ => ⟨h1, hW.trans (h2.mono hW.size)⟩
  have HLK : Hid (∀ W, Below w2.heap.size w2 W → Calls Try.prog 25 #[.pointer (some ⟨kb, 0, none⟩)] W fun e w' => e = .returned (.bool true) ∧ Below w2.heap.size w2 w') := fun W hW => (looks_any (hH'.more hW) hDO).mono fun e w' ⟨h1, q, h2⟩ => ⟨h1, by rw [h2]; exact below_dr hW q⟩
  have HWR : Hid (∀ W, Below w2.heap.size w2 W → Calls Try.prog 26 #[.pointer (some ⟨p, 0, none⟩)] W fun e w' => e = .returned (.int .i64 0) ∧ Below w2.heap.size w2 w') := fun W hW => by
    have h9 := writes_any W (desk_dm (hH'.more hW))
    rw [hx.writes] at h9
    exact h9.mono fun e w' ⟨h1, h2⟩ => ⟨h1, by rw [h2]; exact hW⟩
  have HIM : Hid (∀ W, Below w2.heap.size w2 W → Calls Try.prog 28 #[.pointer (some ⟨p, 0, none⟩)] W fun e w' => ∃ vo vn vc, e = .returned (.slice vo vn vc) ∧ By w' (.slice vo vn vc) im ∧ Below w2.heap.size w2 w') := fun W hW => by
    refine (image_any W (desk_dm (hH'.more hW))).mono ?_
    rintro e w' ⟨v', rfl, h2, h3⟩
    rw [hx.im] at h2
    have hl9 : 512 * x.n = im.length := by rw [hx.n, HNI.out.1]; omega
    rw [hl9] at h2
    obtain ⟨vo, vc, rfl, _⟩ := own_slice h2
    exact ⟨vo, _, vc, rfl, own_by h2, hW.trans (h3.mono hW.size)⟩
  have HSM : Hid (∀ (W : World) (vo : Option Addr) (vn vc : Nat), Below w2.heap.size w2 W → By W (.slice vo vn vc) im → Calls Try.prog 27 #[.slice vo vn vc, .slice (some ⟨g, 0, none⟩) (n * 512) (n * 512)] W fun e w' => e = .returned (.bool true) ∧ Below w2.heap.size w2 w') := fun W vo vn vc hW hby => by
    have h9 : Held [rowE L 5 1 (.slice (some ⟨g, 0, none⟩) (n * 512) (n * 512)) (n * 512) (im.map B)] W := ⟨fun e he => (hH'.more hW).all e (by rw [List.mem_singleton.1 he]; simp [deskG]), List.pairwise_singleton ..⟩
    have h8 := same_any W hby (HBY.out W h9)
    rw [beq_self_eq_true] at h8
    exact h8.mono fun e w' ⟨h1, h2⟩ => ⟨h1, by rw [h2]; exact hW⟩
  have HLL : Hid (Below L w w2 ∧ L ≤ w2.heap.size ∧ L = w.heap.size) := ⟨HB1.out.1.trans hb2, hLw, HB1.out.2⟩
  obtain ⟨hsl, hhsl⟩ : ∃ l, l = hs.length := ⟨_, rfl⟩
  rw [← hhsl] at HALL HTL
  clear hx hF hJ hhm hhl hH hb2 hle hH' hDO hlen hLw HBY HB1 HNI hhsl
  go_wp2_with fail
  refine Calls.mono HON.out ?_
  rintro e wo ⟨rfl, hwo⟩
  replace hwo := hwo.symm
  subst hwo
  clear HON
  go_wp2_with fail
  rename_i K hK
  try rw [show ∀ a : Act, a.put none undef = a from fun _ => rfl]
  refine wp_region_mix (fun wz : World => Below w2.heap.size w2 wz) (fun i => i == 0 || i == 3 || i == 19 || i == 23 || i == 30 || i == 38 || i == 40 || i == 99) 99 (by kernel_rfl) rfl (by kernel_rfl) (by kernel_rfl) (by kernel_rfl) ?_
  refine withFrP (N := 60) rfl ?_
  intro f0 F0 hff
  have ee4 : f0 4 = Value.bool false := hff 4
  have ee5 : f0 5 = Value.slice (some ⟨g, 0, none⟩) (n * 512) (n * 512) := hff 5
  have ee6 : f0 6 = Value.pointer (some ⟨kb, 0, none⟩) := hff 6
  have ee8 : f0 8 = Value.int .i64 1 := hff 8
  clear hff
  have HCC : (fun wz : World => Below w2.heap.size w2 wz) (({ w2 with drawn := w2.drawn + 1 } : World)) := (below_dr (Below.refl _ _) 1 : Below w2.heap.size w2 (w2.drewN 1))
  refine lcp F0 rfl HCC rfl (by omega) (wanted_none rfl) (g := 9) (args := #[]) (by simp only [execOp, resolve, invoke, List.map_toArray, List.map_cons, List.map_nil, ]; simp [go_sem, Act.eval]) (HAB.out _ HCC) ?_
  rintro e9 wA ⟨rfl, HA⟩
  refine ⟨_, rfl, fun F1 => ?_⟩
  refine lyp F1 rfl HA rfl (by omega) (wanted_none rfl) (v := Value.bool true) (fun wr hwr => by simp only [execOp, (F1.eval 18 (by omega)).trans (show _ = Value.bool true from by simp [upd, ee4, ee5, ee6, ee8])]; first | rfl | simp [go_sem]) fun F2 => ?_
  refine lyp F2 rfl HA rfl (by omega) (want_yes F2 rfl (e := 19) rfl (by omega) (show _ = Value.bool true from by simp [upd, ee4, ee5, ee6, ee8])) (v := Value.int .i64 1) (fun wr hwr => by simp only [execOp, (F2.eval 8 (by omega)).trans (show _ = Value.int .i64 1 from by simp [upd, ee4, ee5, ee6, ee8])]; first | rfl | simp [go_sem]) fun F3 => ?_
  refine lcp F3 rfl HA rfl (by omega) (want_yes F3 rfl (e := 19) rfl (by omega) (show _ = Value.bool true from by simp [upd, ee4, ee5, ee6, ee8])) (g := 12) (args := #[Value.int .i64 1]) (by simp only [execOp, resolve, invoke, List.map_toArray, List.map_cons, List.map_nil, (F3.eval 20 (by omega)).trans (show _ = Value.int .i64 1 from by simp [upd, ee4, ee5, ee6, ee8])]; simp [go_sem, Act.eval]) (HNM.out _ HA) ?_
  rintro e9 wB ⟨rfl, HB⟩
  refine ⟨_, rfl, fun F4 => ?_⟩
  refine lyp F4 rfl HB rfl (by omega) (want_yes F4 rfl (e := 19) rfl (by omega) (show _ = Value.bool true from by simp [upd, ee4, ee5, ee6, ee8])) (v := Value.bool true) (fun wr hwr => by simp only [execOp, (F4.eval 21 (by omega)).trans (show _ = Value.int .i64 1 from by simp [upd, ee4, ee5, ee6, ee8])]; simp [go_sem, Act.eval]) fun F5 => ?_
  refine lyp F5 rfl HB rfl (by omega) (wanted_none rfl) (v := Value.bool true) (fun wr hwr => by simp only [execOp, (F5.eval 19 (by omega)).trans (show _ = Value.bool true from by simp [upd, ee4, ee5, ee6, ee8]), (F5.eval 22 (by omega)).trans (show _ = Value.bool true from by simp [upd, ee4, ee5, ee6, ee8])]; simp [go_sem, Act.eval]) fun F6 => ?_
  refine lyp F6 rfl HB rfl (by omega) (wanted_none rfl) (v := Value.bool true) (fun wr hwr => by simp only [execOp, (F6.eval 23 (by omega)).trans (show _ = Value.bool true from by simp [upd, ee4, ee5, ee6, ee8])]; first | rfl | simp [go_sem]) fun F7 => ?_
  refine lyp F7 rfl HB rfl (by omega) (want_yes F7 rfl (e := 24) rfl (by omega) (show _ = Value.bool true from by simp [upd, ee4, ee5, ee6, ee8])) (v := Value.pointer (some ⟨kb, 0, none⟩)) (fun wr hwr => by simp only [execOp, (F7.eval 6 (by omega)).trans (show _ = Value.pointer (some ⟨kb, 0, none⟩) from by simp [upd, ee4, ee5, ee6, ee8])]; first | rfl | simp [go_sem]) fun F8 => ?_
  refine lyp F8 rfl HB rfl (by omega) (want_yes F8 rfl (e := 24) rfl (by omega) (show _ = Value.bool true from by simp [upd, ee4, ee5, ee6, ee8])) (v := Value.bool true) (fun wr hwr => by simp only [execOp, (F8.eval 25 (by omega)).trans (show _ = Value.pointer (some ⟨kb, 0, none⟩) from by simp [upd, ee4, ee5, ee6, ee8])]; simp [go_sem, Act.eval]) fun F9 => ?_
  refine lyp F9 rfl HB rfl (by omega) (wanted_none rfl) (v := Value.bool true) (fun wr hwr => by simp only [execOp, (F9.eval 24 (by omega)).trans (show _ = Value.bool true from by simp [upd, ee4, ee5, ee6, ee8]), (F9.eval 26 (by omega)).trans (show _ = Value.bool true from by simp [upd, ee4, ee5, ee6, ee8])]; simp [go_sem, Act.eval]) fun F10 => ?_
  refine lyp F10 rfl HB rfl (by omega) (wanted_none rfl) (v := Value.bool true) (fun wr hwr => by simp only [execOp, (F10.eval 27 (by omega)).trans (show _ = Value.bool true from by simp [upd, ee4, ee5, ee6, ee8])]; first | rfl | simp [go_sem]) fun F11 => ?_
  refine lyp F11 rfl HB rfl (by omega) (want_yes F11 rfl (e := 28) rfl (by omega) (show _ = Value.bool true from by simp [upd, ee4, ee5, ee6, ee8])) (v := Value.pointer (some ⟨kb, 0, none⟩)) (fun wr hwr => by simp only [execOp, (F11.eval 6 (by omega)).trans (show _ = Value.pointer (some ⟨kb, 0, none⟩) from by simp [upd, ee4, ee5, ee6, ee8])]; first | rfl | simp [go_sem]) fun F12 => ?_
  refine lyp F12 rfl HB rfl (by omega) (want_yes F12 rfl (e := 28) rfl (by omega) (show _ = Value.bool true from by simp [upd, ee4, ee5, ee6, ee8])) (v := Value.pointer (some ⟨kb, 0, none⟩)) (fun wr hwr => by simp only [execOp, (F12.eval 29 (by omega)).trans (show _ = Value.pointer (some ⟨kb, 0, none⟩) from by simp [upd, ee4, ee5, ee6, ee8])]; simp [go_sem]) fun F13 => ?_
  refine lyp F13 rfl HB rfl (by omega) (want_yes F13 rfl (e := 28) rfl (by omega) (show _ = Value.bool true from by simp [upd, ee4, ee5, ee6, ee8])) (v := Value.pointer (some ⟨kb, 1, none⟩)) (fun wr hwr => by simp only [execOp, (F13.eval 30 (by omega)).trans (show _ = Value.pointer (some ⟨kb, 0, none⟩) from by simp [upd, ee4, ee5, ee6, ee8])]; simp [go_sem]) fun F14 => ?_
  refine lyp F14 rfl HB rfl (by omega) (want_yes F14 rfl (e := 28) rfl (by omega) (show _ = Value.bool true from by simp [upd, ee4, ee5, ee6, ee8])) (v := Value.pointer (some ⟨jb, 0, none⟩)) (fun wr hwr => by simp only [execOp, (F14.eval 31 (by omega)).trans (show _ = Value.pointer (some ⟨kb, 1, none⟩) from by simp [upd, ee4, ee5, ee6, ee8])]; simp [go_sem, (HALL.out wr hwr).2.1]) fun F15 => ?_
  refine lyp F15 rfl HB rfl (by omega) (want_yes F15 rfl (e := 28) rfl (by omega) (show _ = Value.bool true from by simp [upd, ee4, ee5, ee6, ee8])) (v := Value.pointer (some ⟨kb, 0, none⟩)) (fun wr hwr => by simp only [execOp, (F15.eval 6 (by omega)).trans (show _ = Value.pointer (some ⟨kb, 0, none⟩) from by simp [upd, ee4, ee5, ee6, ee8])]; first | rfl | simp [go_sem]) fun F16 => ?_
  refine lyp F16 rfl HB rfl (by omega) (want_yes F16 rfl (e := 28) rfl (by omega) (show _ = Value.bool true from by simp [upd, ee4, ee5, ee6, ee8])) (v := Value.pointer (some ⟨kb, 0, none⟩)) (fun wr hwr => by simp only [execOp, (F16.eval 33 (by omega)).trans (show _ = Value.pointer (some ⟨kb, 0, none⟩) from by simp [upd, ee4, ee5, ee6, ee8])]; simp [go_sem]) fun F17 => ?_
  refine lyp F17 rfl HB rfl (by omega) (want_yes F17 rfl (e := 28) rfl (by omega) (show _ = Value.bool true from by simp [upd, ee4, ee5, ee6, ee8])) (v := Value.pointer (some ⟨kb, 6, none⟩)) (fun wr hwr => by simp only [execOp, (F17.eval 34 (by omega)).trans (show _ = Value.pointer (some ⟨kb, 0, none⟩) from by simp [upd, ee4, ee5, ee6, ee8])]; simp [go_sem]) fun F18 => ?_
  refine lyp F18 rfl HB rfl (by omega) (want_yes F18 rfl (e := 28) rfl (by omega) (show _ = Value.bool true from by simp [upd, ee4, ee5, ee6, ee8])) (v := Value.slice ho hsl hc) (fun wr hwr => by simp only [execOp, (F18.eval 35 (by omega)).trans (show _ = Value.pointer (some ⟨kb, 6, none⟩) from by simp [upd, ee4, ee5, ee6, ee8])]; simp [go_sem, (HALL.out wr hwr).2.2]) fun F19 => ?_
  refine lcp F19 rfl HB rfl (by omega) (want_yes F19 rfl (e := 28) rfl (by omega) (show _ = Value.bool true from by simp [upd, ee4, ee5, ee6, ee8])) (g := 19) (args := #[Value.pointer (some ⟨jb, 0, none⟩), Value.slice ho hsl hc]) (by simp only [execOp, resolve, invoke, List.map_toArray, List.map_cons, List.map_nil, (F19.eval 32 (by omega)).trans (show _ = Value.pointer (some ⟨jb, 0, none⟩) from by simp [upd, ee4, ee5, ee6, ee8]), (F19.eval 36 (by omega)).trans (show _ = Value.slice ho hsl hc from by simp [upd, ee4, ee5, ee6, ee8])]; simp [go_sem, Act.eval]) (HTL.out _ HB) ?_
  rintro e9 wC ⟨rfl, HC⟩
  refine ⟨_, rfl, fun F20 => ?_⟩
  refine lyp F20 rfl HC rfl (by omega) (wanted_none rfl) (v := Value.bool true) (fun wr hwr => by simp only [execOp, (F20.eval 28 (by omega)).trans (show _ = Value.bool true from by simp [upd, ee4, ee5, ee6, ee8]), (F20.eval 37 (by omega)).trans (show _ = Value.bool true from by simp [upd, ee4, ee5, ee6, ee8])]; simp [go_sem, Act.eval]) fun F21 => ?_
  refine lyp F21 rfl HC rfl (by omega) (wanted_none rfl) (v := Value.bool true) (fun wr hwr => by simp only [execOp, (F21.eval 38 (by omega)).trans (show _ = Value.bool true from by simp [upd, ee4, ee5, ee6, ee8])]; first | rfl | simp [go_sem]) fun F22 => ?_
  refine lyp F22 rfl HC rfl (by omega) (want_yes F22 rfl (e := 39) rfl (by omega) (show _ = Value.bool true from by simp [upd, ee4, ee5, ee6, ee8])) (v := Value.pointer (some ⟨kb, 0, none⟩)) (fun wr hwr => by simp only [execOp, (F22.eval 6 (by omega)).trans (show _ = Value.pointer (some ⟨kb, 0, none⟩) from by simp [upd, ee4, ee5, ee6, ee8])]; first | rfl | simp [go_sem]) fun F23 => ?_
  refine lcp F23 rfl HC rfl (by omega) (want_yes F23 rfl (e := 39) rfl (by omega) (show _ = Value.bool true from by simp [upd, ee4, ee5, ee6, ee8])) (g := 25) (args := #[Value.pointer (some ⟨kb, 0, none⟩)]) (by simp only [execOp, resolve, invoke, List.map_toArray, List.map_cons, List.map_nil, (F23.eval 40 (by omega)).trans (show _ = Value.pointer (some ⟨kb, 0, none⟩) from by simp [upd, ee4, ee5, ee6, ee8])]; simp [go_sem, Act.eval]) (HLK.out _ HC) ?_
  rintro e9 wD ⟨rfl, HD⟩
  refine ⟨_, rfl, fun F24 => ?_⟩
  refine lyp F24 rfl HD rfl (by omega) (wanted_none rfl) (v := Value.bool true) (fun wr hwr => by simp only [execOp, (F24.eval 39 (by omega)).trans (show _ = Value.bool true from by simp [upd, ee4, ee5, ee6, ee8]), (F24.eval 41 (by omega)).trans (show _ = Value.bool true from by simp [upd, ee4, ee5, ee6, ee8])]; simp [go_sem, Act.eval]) fun F25 => ?_
  refine lyp F25 rfl HD rfl (by omega) (wanted_none rfl) (v := Value.bool true) (fun wr hwr => by simp only [execOp, (F25.eval 42 (by omega)).trans (show _ = Value.bool true from by simp [upd, ee4, ee5, ee6, ee8])]; first | rfl | simp [go_sem]) fun F26 => ?_
  refine lyp F26 rfl HD rfl (by omega) (want_yes F26 rfl (e := 43) rfl (by omega) (show _ = Value.bool true from by simp [upd, ee4, ee5, ee6, ee8])) (v := Value.pointer (some ⟨kb, 0, none⟩)) (fun wr hwr => by simp only [execOp, (F26.eval 6 (by omega)).trans (show _ = Value.pointer (some ⟨kb, 0, none⟩) from by simp [upd, ee4, ee5, ee6, ee8])]; first | rfl | simp [go_sem]) fun F27 => ?_
  refine lyp F27 rfl HD rfl (by omega) (want_yes F27 rfl (e := 43) rfl (by omega) (show _ = Value.bool true from by simp [upd, ee4, ee5, ee6, ee8])) (v := Value.pointer (some ⟨kb, 0, none⟩)) (fun wr hwr => by simp only [execOp, (F27.eval 44 (by omega)).trans (show _ = Value.pointer (some ⟨kb, 0, none⟩) from by simp [upd, ee4, ee5, ee6, ee8])]; simp [go_sem]) fun F28 => ?_
  refine lyp F28 rfl HD rfl (by omega) (want_yes F28 rfl (e := 43) rfl (by omega) (show _ = Value.bool true from by simp [upd, ee4, ee5, ee6, ee8])) (v := Value.pointer (some ⟨kb, 0, none⟩)) (fun wr hwr => by simp only [execOp, (F28.eval 45 (by omega)).trans (show _ = Value.pointer (some ⟨kb, 0, none⟩) from by simp [upd, ee4, ee5, ee6, ee8])]; simp [go_sem]) fun F29 => ?_
  refine lyp F29 rfl HD rfl (by omega) (want_yes F29 rfl (e := 43) rfl (by omega) (show _ = Value.bool true from by simp [upd, ee4, ee5, ee6, ee8])) (v := Value.pointer (some ⟨p, 0, none⟩)) (fun wr hwr => by simp only [execOp, (F29.eval 46 (by omega)).trans (show _ = Value.pointer (some ⟨kb, 0, none⟩) from by simp [upd, ee4, ee5, ee6, ee8])]; simp [go_sem, (HALL.out wr hwr).1]) fun F30 => ?_
  refine lcp F30 rfl HD rfl (by omega) (want_yes F30 rfl (e := 43) rfl (by omega) (show _ = Value.bool true from by simp [upd, ee4, ee5, ee6, ee8])) (g := 26) (args := #[Value.pointer (some ⟨p, 0, none⟩)]) (by simp only [execOp, resolve, invoke, List.map_toArray, List.map_cons, List.map_nil, (F30.eval 47 (by omega)).trans (show _ = Value.pointer (some ⟨p, 0, none⟩) from by simp [upd, ee4, ee5, ee6, ee8])]; simp [go_sem, Act.eval]) (HWR.out _ HD) ?_
  rintro e9 wE ⟨rfl, HE⟩
  refine ⟨_, rfl, fun F31 => ?_⟩
  refine lyp F31 rfl HE rfl (by omega) (want_yes F31 rfl (e := 43) rfl (by omega) (show _ = Value.bool true from by simp [upd, ee4, ee5, ee6, ee8])) (v := Value.bool true) (fun wr hwr => by simp only [execOp, (F31.eval 48 (by omega)).trans (show _ = Value.int .i64 0 from by simp [upd, ee4, ee5, ee6, ee8])]; simp [go_sem, Act.eval]) fun F32 => ?_
  refine lyp F32 rfl HE rfl (by omega) (wanted_none rfl) (v := Value.bool true) (fun wr hwr => by simp only [execOp, (F32.eval 43 (by omega)).trans (show _ = Value.bool true from by simp [upd, ee4, ee5, ee6, ee8]), (F32.eval 49 (by omega)).trans (show _ = Value.bool true from by simp [upd, ee4, ee5, ee6, ee8])]; simp [go_sem, Act.eval]) fun F33 => ?_
  refine lyp F33 rfl HE rfl (by omega) (wanted_none rfl) (v := Value.bool true) (fun wr hwr => by simp only [execOp, (F33.eval 50 (by omega)).trans (show _ = Value.bool true from by simp [upd, ee4, ee5, ee6, ee8])]; first | rfl | simp [go_sem]) fun F34 => ?_
  refine lyp F34 rfl HE rfl (by omega) (want_yes F34 rfl (e := 51) rfl (by omega) (show _ = Value.bool true from by simp [upd, ee4, ee5, ee6, ee8])) (v := Value.pointer (some ⟨kb, 0, none⟩)) (fun wr hwr => by simp only [execOp, (F34.eval 6 (by omega)).trans (show _ = Value.pointer (some ⟨kb, 0, none⟩) from by simp [upd, ee4, ee5, ee6, ee8])]; first | rfl | simp [go_sem]) fun F35 => ?_
  refine lyp F35 rfl HE rfl (by omega) (want_yes F35 rfl (e := 51) rfl (by omega) (show _ = Value.bool true from by simp [upd, ee4, ee5, ee6, ee8])) (v := Value.pointer (some ⟨kb, 0, none⟩)) (fun wr hwr => by simp only [execOp, (F35.eval 52 (by omega)).trans (show _ = Value.pointer (some ⟨kb, 0, none⟩) from by simp [upd, ee4, ee5, ee6, ee8])]; simp [go_sem]) fun F36 => ?_
  refine lyp F36 rfl HE rfl (by omega) (want_yes F36 rfl (e := 51) rfl (by omega) (show _ = Value.bool true from by simp [upd, ee4, ee5, ee6, ee8])) (v := Value.pointer (some ⟨kb, 0, none⟩)) (fun wr hwr => by simp only [execOp, (F36.eval 53 (by omega)).trans (show _ = Value.pointer (some ⟨kb, 0, none⟩) from by simp [upd, ee4, ee5, ee6, ee8])]; simp [go_sem]) fun F37 => ?_
  refine lyp F37 rfl HE rfl (by omega) (want_yes F37 rfl (e := 51) rfl (by omega) (show _ = Value.bool true from by simp [upd, ee4, ee5, ee6, ee8])) (v := Value.pointer (some ⟨p, 0, none⟩)) (fun wr hwr => by simp only [execOp, (F37.eval 54 (by omega)).trans (show _ = Value.pointer (some ⟨kb, 0, none⟩) from by simp [upd, ee4, ee5, ee6, ee8])]; simp [go_sem, (HALL.out wr hwr).1]) fun F38 => ?_
  refine lcp F38 rfl HE rfl (by omega) (want_yes F38 rfl (e := 51) rfl (by omega) (show _ = Value.bool true from by simp [upd, ee4, ee5, ee6, ee8])) (g := 28) (args := #[Value.pointer (some ⟨p, 0, none⟩)]) (by simp only [execOp, resolve, invoke, List.map_toArray, List.map_cons, List.map_nil, (F38.eval 55 (by omega)).trans (show _ = Value.pointer (some ⟨p, 0, none⟩) from by simp [upd, ee4, ee5, ee6, ee8])]; simp [go_sem, Act.eval]) (HIM.out _ HE) ?_
  rintro e9 wF ⟨vo', vn', vc', rfl, hby, HF⟩
  refine ⟨_, rfl, fun F39 => ?_⟩
  refine lyp F39 rfl HF rfl (by omega) (want_yes F39 rfl (e := 51) rfl (by omega) (show _ = Value.bool true from by simp [upd, ee4, ee5, ee6, ee8])) (v := Value.slice (some ⟨g, 0, none⟩) (n * 512) (n * 512)) (fun wr hwr => by simp only [execOp, (F39.eval 5 (by omega)).trans (show _ = Value.slice (some ⟨g, 0, none⟩) (n * 512) (n * 512) from by simp [upd, ee4, ee5, ee6, ee8])]; first | rfl | simp [go_sem]) fun F40 => ?_
  refine lcp F40 rfl HF rfl (by omega) (want_yes F40 rfl (e := 51) rfl (by omega) (show _ = Value.bool true from by simp [upd, ee4, ee5, ee6, ee8])) (g := 27) (args := #[Value.slice vo' vn' vc', Value.slice (some ⟨g, 0, none⟩) (n * 512) (n * 512)]) (by simp only [execOp, resolve, invoke, List.map_toArray, List.map_cons, List.map_nil, (F40.eval 56 (by omega)).trans (show _ = Value.slice vo' vn' vc' from by simp [upd, ee4, ee5, ee6, ee8]), (F40.eval 57 (by omega)).trans (show _ = Value.slice (some ⟨g, 0, none⟩) (n * 512) (n * 512) from by simp [upd, ee4, ee5, ee6, ee8])]; simp [go_sem, Act.eval]) (HSM.out _ _ _ _ HF hby) ?_
  rintro e9 wG ⟨rfl, HG⟩
  refine ⟨_, rfl, fun F41 => ?_⟩
  refine lyp F41 rfl HG rfl (by omega) (wanted_none rfl) (v := Value.bool true) (fun wr hwr => by simp only [execOp, (F41.eval 51 (by omega)).trans (show _ = Value.bool true from by simp [upd, ee4, ee5, ee6, ee8]), (F41.eval 58 (by omega)).trans (show _ = Value.bool true from by simp [upd, ee4, ee5, ee6, ee8])]; simp [go_sem, Act.eval]) fun F42 => ?_
  refine lyp F42 rfl HG rfl (by omega) (wanted_none rfl) (v := Value.bool true) (fun wr hwr => by simp only [execOp, (F42.eval 59 (by omega)).trans (show _ = Value.bool true from by simp [upd, ee4, ee5, ee6, ee8])]; first | rfl | simp [go_sem]) fun F43 => ?_
  refine ⟨fun _ => HG, ?_⟩
  refine hK _ _ ?_
  clear F0 F1 F2 F3 F4 F5 F6 F7 F8 F9 F10 F11 F12 F13 F14 F15 F16 F17 F18 F19 F20 F21 F22 F23 F24 F25 F26 F27 F28 F29 F30 F31 F32 F33 F34 F35 F36 F37 F38 F39 F40 F41 F42 F43 ee4 ee5 ee6 ee8 HCC
  simp only [Act.put, List.setIfInBounds_toArray, List.set_cons_succ, List.set_cons_zero]
  have HF9 : Hid (Below w.heap.size w wG) := by
    have h9 := HLL.out.1.trans (HG.mono HLL.out.2.1)
    rw [HLL.out.2.2] at h9
    exact h9
  clear HA HB HC HD HE HF HG hby
  go_wp2_with fail
  go_ret
  exact ⟨rfl, HF9.out⟩
end Go.Proofs.Ytjpdcahodmomgaa
