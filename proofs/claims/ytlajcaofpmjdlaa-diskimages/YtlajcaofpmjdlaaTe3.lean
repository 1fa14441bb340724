import Derived.Test.YtlajcaofpmjdlaaFt
import Derived.Deep.Cut
namespace Go.Proofs.Ytlajcaofpmjdlaa
open Go.RowKit Go.PlainAid
set_option linter.unusedVariables false
set_option linter.unusedSimpArgs false
section
variable {L pb p s rb : Nat} {S : SV} {lent fv lv : Value} {n : Nat} {x : DV} {r : RV} {R : List (Ent L)} {zs bs : List UInt8}
set_option maxRecDepth 100000 in
set_option maxHeartbeats 6400000 in
theorem tells_from (owho oN oM : Int) {vo : Option Addr} {vn vc : Nat} (w : World) (h : PA L pb p s rb S fv lv lent n zs x r R w) (hk : S.Ok n) (hb : By w (.slice vo vn vc) bs) (hs : vn ≤ 4194304) :
    Calls Try.prog 42 #[.pointer (some ⟨pb, 0, none⟩), .agg #[.int .i64 11, .int .i64 owho, .int .i64 oN, .int .i64 oM, .slice vo vn vc]] w (TelO L pb p s rb fv lv lent n zs x r R w) := by
  obtain ⟨ob, hob⟩ : ∃ b, b = w.heap.size := ⟨_, rfl⟩
  obtain ⟨X, hX⟩ : ∃ X, X = w.alloc (.cells #[.int .i64 11, .int .i64 owho, .int .i64 oN, .int .i64 oM, .slice vo vn vc] 58) := ⟨_, rfl⟩
  have hbX : Below w.heap.size w X := by rw [hX]; exact (Below.refl _ _).alloc (Nat.le_refl _) _
  have hBX : Blk X ob #[.int .i64 11, .int .i64 owho, .int .i64 oN, .int .i64 oM, .slice vo vn vc] 58 := by rw [hX, hob]; exact heap_alloc_new w _
  have hLw : L ≤ w.heap.size := PH.low h
  have hpX : PA L pb p s rb S fv lv lent n zs x r R X := PH.more h hbX
  have HBL : Hid (Below L w X) := hbX.mono hLw
  have o0 : X.cell? ⟨ob, 0, none⟩ = some (.int .i64 11) := hBX.cell 0
  have o4 : X.cell? ⟨ob, 4, none⟩ = some (.slice vo vn vc) := hBX.cell 4
  have HPX : Hid (PA L pb p s rb S fv lv lent n zs x r R X) := hpX
  have HOK : Hid (S.Ok n) := hk
  have hbl : bs.length = vn := by obtain ⟨_, _, _, e, e2, _⟩ := id hb; cases e; exact e2
  have hbyX : By X (.slice vo vn vc) bs := hb.keep hbX
  by_cases hbad : badImg vn
  · have HT : Hid _ := taken_no X hbyX hs hbad
    clear h hk hb hs hbl hbyX hLw hpX hbX hBX hbad
    go_enter Try.func42, Try.ntmps42
    go_upto_region 1 with fail
    rw [← hX, ← hob]
    clear hX hob
    go_wp2_with fail
    refine Calls.mono HT.out ?_
    rintro e w1 ⟨rfl, hb1⟩
    have HF : Hid (PA L pb p s rb S fv lv lent n zs x r R w1 ∧ Below L w w1) := ⟨PH.more HPX.out hb1, HBL.out.trans (hb1.mono (PH.low HPX.out))⟩
    clear HT hb1 o0 o4
    go_wp2_with fail
    go_ret
    exact ⟨rfl, S, n, Nat.le_succ _, HOK.out, HF.out.1, HF.out.2⟩
  · obtain ⟨m, hm⟩ : ∃ m, m = vn / 512 := ⟨_, rfl⟩
    have hvm : vn = m * 512 ∧ 1 ≤ m := by
      unfold badImg at hbad
      omega
    have HT : Hid _ := taken_yes (L := L) X hbyX hs hvm.1 hvm.2 hpX (PH.low hpX)
    have HM : Hid (bs.length = m * 512) := by rw [Hid, hbl]; exact hvm.1
    clear h hk hb hs hbl hbyX hLw hpX hbX hBX hbad hvm hm
    go_enter Try.func42, Try.ntmps42
    go_upto_region 1 with fail
    rw [← hX, ← hob]
    clear hX hob
    go_wp2_with fail
    refine Calls.mono HT.out ?_
    rintro e w1 ⟨pb2, p2, s2, rb2, fv2, rfl, hp1, hb1⟩
    clear HT o0 o4
    have HP1 : Hid (PA L pb2 p2 s2 rb2 sv0 fv2 (.slice none 0 0) (.slice none 0 0) 0 [] (fromX m bs) (rfresh m bs) _ w1) := hp1
    have HF1 : Hid (PA L pb p s rb S fv lv lent n zs x r R w1 ∧ Below L w w1) := ⟨PH.more HPX.out hb1, HBL.out.trans (hb1.mono (PH.low HPX.out))⟩
    have HCX : Hid ((fun wz : World => wz.cell? ⟨pb2, 0, none⟩ = some (Value.pointer (some ⟨p2, 0, none⟩)) ∧ wz.cell? ⟨pb2, 1, none⟩ = some (Value.pointer (some ⟨rb2, 0, none⟩)) ∧ wz.cell? ⟨rb2, 0, none⟩ = some (Value.int .i64 (m : Int))) w1) := ⟨(PH.c0 hp1).1, (PH.c0 hp1).2, (PA.rm hp1).b.cell 0⟩
    have HDM : Hid (∀ w' : World, Below w1.heap.size w1 w' → DM L p2 s2 (fromX m bs) w' ∧ RM L rb2 fv2 (.slice none 0 0) (rfresh m bs) w' ∧ (fun wz : World => wz.cell? ⟨pb2, 0, none⟩ = some (Value.pointer (some ⟨p2, 0, none⟩)) ∧ wz.cell? ⟨pb2, 1, none⟩ = some (Value.pointer (some ⟨rb2, 0, none⟩)) ∧ wz.cell? ⟨rb2, 0, none⟩ = some (Value.int .i64 (m : Int))) w') := fun w' hb => ⟨PA.dm (PH.more hp1 hb), PA.rm (PH.more hp1 hb), (PH.c0 (PH.more hp1 hb)).1, (PH.c0 (PH.more hp1 hb)).2, (PA.rm (PH.more hp1 hb)).b.cell 0⟩
    have HI1 : Hid (∀ w' : World, DM L p2 s2 (fromX m bs) w' → Calls Try.prog 17 #[.pointer (some ⟨p2, 0, none⟩)] w' fun e w2 => e = .returned (.bool true) ∧ w2 = w') := fun w' h => isOn_any w' h
    have HI2 : Hid (∀ w' : World, DM L p2 s2 (fromX m bs) w' → Calls Try.prog 20 #[.pointer (some ⟨p2, 0, none⟩)] w' fun e w2 => e = .returned (.int .i64 0) ∧ w2 = w') := fun w' h => writes_any w' h
    have HI3 : Hid (∀ w' : World, DM L p2 s2 (fromX m bs) w' → Calls Try.prog 25 #[.pointer (some ⟨p2, 0, none⟩)] w' fun e w2 => e = .returned (.int .i64 (m : Int)) ∧ w2 = w') := fun w' h => sectors_any w' h
    clear hp1 hb1 HPX HBL
    go_wp2_with fail
    rename_i K hK
    try rw [show ∀ a : Act, a.put none undef = a from fun _ => rfl]
    refine wp_region_mix (fun wz : World => wz.cell? ⟨pb2, 0, none⟩ = some (Value.pointer (some ⟨p2, 0, none⟩)) ∧ wz.cell? ⟨pb2, 1, none⟩ = some (Value.pointer (some ⟨rb2, 0, none⟩)) ∧ wz.cell? ⟨rb2, 0, none⟩ = some (Value.int .i64 (m : Int))) (fun i => i == 4 || i == 9 || i == 10 || i == 16 || i == 23 || i == 31 || i == 99) 99 (by kernel_rfl) rfl (by kernel_rfl) (by kernel_rfl) (by kernel_rfl) ?_
    refine withFrP (N := 174) rfl ?_
    intro f0 F0 hff
    have ee13 : f0 13 = Value.pointer (some ⟨pb2, 0, none⟩) := hff 13
    clear hff
    have HCC : (fun wz : World => wz.cell? ⟨pb2, 0, none⟩ = some (Value.pointer (some ⟨p2, 0, none⟩)) ∧ wz.cell? ⟨pb2, 1, none⟩ = some (Value.pointer (some ⟨rb2, 0, none⟩)) ∧ wz.cell? ⟨rb2, 0, none⟩ = some (Value.int .i64 (m : Int))) (({ w1 with drawn := w1.drawn + 1 } : World)) := HCX.out
    refine lyp F0 rfl HCC rfl (by omega) (wanted_none rfl) (v := Value.pointer (some ⟨pb2, 0, none⟩)) (fun wr hwr => by simp only [execOp, (F0.eval 13 (by omega)).trans (show _ = Value.pointer (some ⟨pb2, 0, none⟩) from by simp [upd, ee13])]; first | rfl | simp [go_sem]) fun F1 => ?_
    refine lyp F1 rfl HCC rfl (by omega) (wanted_none rfl) (v := Value.pointer (some ⟨pb2, 0, none⟩)) (fun wr hwr => by simp only [execOp, (F1.eval 133 (by omega)).trans (show _ = Value.pointer (some ⟨pb2, 0, none⟩) from by simp [upd, ee13])]; simp [go_sem]) fun F2 => ?_
    refine lyp F2 rfl HCC rfl (by omega) (wanted_none rfl) (v := Value.pointer (some ⟨pb2, 0, none⟩)) (fun wr hwr => by simp only [execOp, (F2.eval 134 (by omega)).trans (show _ = Value.pointer (some ⟨pb2, 0, none⟩) from by simp [upd, ee13])]; simp [go_sem]) fun F3 => ?_
    refine lyp F3 rfl HCC rfl (by omega) (wanted_none rfl) (v := Value.pointer (some ⟨p2, 0, none⟩)) (fun wr hwr => by simp only [execOp, (F3.eval 135 (by omega)).trans (show _ = Value.pointer (some ⟨pb2, 0, none⟩) from by simp [upd, ee13])]; simp [go_sem, hwr.1]) fun F4 => ?_
    refine lcp F4 rfl HCC rfl (by omega) (wanted_none rfl) (g := 21) (args := #[Value.pointer (some ⟨p2, 0, none⟩)]) (by simp only [execOp, resolve, invoke, List.map_toArray, List.map_cons, List.map_nil, (F4.eval 136 (by omega)).trans (show _ = Value.pointer (some ⟨p2, 0, none⟩) from by simp [upd, ee13])]; simp [go_sem, Act.eval]) (image_any (({ w1 with drawn := w1.drawn + 1 } : World)) (HDM.out (({ w1 with drawn := w1.drawn + 1 } : World)) (⟨rfl, rfl, rfl, Nat.le_refl _, fun _ _ => rfl⟩ : Below w1.heap.size w1 (({ w1 with drawn := w1.drawn + 1 } : World)))).1) ?_
    rintro e9 w2 ⟨v2, rfl, hr2, hb2⟩
    rw [imgL_of m _ HM.out] at hr2
    have hB2 : Below w1.heap.size w1 w2 := ⟨hb2.os, hb2.tape, hb2.output, hb2.size, hb2.block⟩
    have hy2 : By w2 v2 bs := own_by (by rw [HM.out]; rw [show 512 * (fromX m bs).n = m * 512 from by show 512 * m = m * 512; omega] at hr2; exact hr2)
    refine ⟨_, rfl, fun F5 => ?_⟩
    have HC1 : (fun wz : World => wz.cell? ⟨pb2, 0, none⟩ = some (Value.pointer (some ⟨p2, 0, none⟩)) ∧ wz.cell? ⟨pb2, 1, none⟩ = some (Value.pointer (some ⟨rb2, 0, none⟩)) ∧ wz.cell? ⟨rb2, 0, none⟩ = some (Value.int .i64 (m : Int))) w2 := (HDM.out w2 hB2).2.2
    refine lyp F5 rfl HC1 rfl (by omega) (wanted_none rfl) (v := Value.pointer (some ⟨pb2, 0, none⟩)) (fun wr hwr => by simp only [execOp, (F5.eval 13 (by omega)).trans (show _ = Value.pointer (some ⟨pb2, 0, none⟩) from by simp [upd, ee13])]; first | rfl | simp [go_sem]) fun F6 => ?_
    refine lyp F6 rfl HC1 rfl (by omega) (wanted_none rfl) (v := Value.pointer (some ⟨pb2, 0, none⟩)) (fun wr hwr => by simp only [execOp, (F6.eval 138 (by omega)).trans (show _ = Value.pointer (some ⟨pb2, 0, none⟩) from by simp [upd, ee13])]; simp [go_sem]) fun F7 => ?_
    refine lyp F7 rfl HC1 rfl (by omega) (wanted_none rfl) (v := Value.pointer (some ⟨pb2, 1, none⟩)) (fun wr hwr => by simp only [execOp, (F7.eval 139 (by omega)).trans (show _ = Value.pointer (some ⟨pb2, 0, none⟩) from by simp [upd, ee13])]; simp [go_sem]) fun F8 => ?_
    refine lyp F8 rfl HC1 rfl (by omega) (wanted_none rfl) (v := Value.pointer (some ⟨rb2, 0, none⟩)) (fun wr hwr => by simp only [execOp, (F8.eval 140 (by omega)).trans (show _ = Value.pointer (some ⟨pb2, 1, none⟩) from by simp [upd, ee13])]; simp [go_sem, hwr.2.1]) fun F9 => ?_
    refine lcp F9 rfl HC1 rfl (by omega) (wanted_none rfl) (g := 54) (args := #[Value.pointer (some ⟨rb2, 0, none⟩)]) (by simp only [execOp, resolve, invoke, List.map_toArray, List.map_cons, List.map_nil, (F9.eval 141 (by omega)).trans (show _ = Value.pointer (some ⟨rb2, 0, none⟩) from by simp [upd, ee13])]; simp [go_sem, Act.eval]) (rimage_any w2 (HDM.out w2 hB2).2.1 (by show 0 ≤ 10000; decide)) ?_
    rintro e9 w3 ⟨v3, rfl, hr3, hb3⟩
    have e3 : (List.range (512 * (rfresh m bs).n)).map (rfresh m bs).b = bs := by rw [← (AgD.fromI m bs HM.out).image]; exact imgL_of m bs HM.out
    rw [e3] at hr3
    have hB3 : Below w1.heap.size w1 w3 := hB2.trans (hb3.mono hB2.size)
    have hy3 : By w3 v3 bs := own_by (by rw [HM.out]; rw [show 512 * (rfresh m bs).n = m * 512 from by show 512 * m = m * 512; omega] at hr3; exact hr3)
    have hsm := same_any w3 (hy2.keep hb3) hy3
    rw [show (bs == bs) = true from by simp] at hsm
    refine ⟨_, rfl, fun F10 => ?_⟩
    have HC2 : (fun wz : World => wz.cell? ⟨pb2, 0, none⟩ = some (Value.pointer (some ⟨p2, 0, none⟩)) ∧ wz.cell? ⟨pb2, 1, none⟩ = some (Value.pointer (some ⟨rb2, 0, none⟩)) ∧ wz.cell? ⟨rb2, 0, none⟩ = some (Value.int .i64 (m : Int))) w3 := (HDM.out w3 hB3).2.2
    refine lcp F10 rfl HC2 rfl (by omega) (wanted_none rfl) (g := 27) (args := #[v2, v3]) (by simp only [execOp, resolve, invoke, List.map_toArray, List.map_cons, List.map_nil, (F10.eval 137 (by omega)).trans (show _ = v2 from by simp [upd, ee13]), (F10.eval 142 (by omega)).trans (show _ = v3 from by simp [upd, ee13])]; simp [go_sem, Act.eval]) hsm ?_
    rintro e9 w4 ⟨rfl, hw4⟩
    have hB4 : Below w1.heap.size w1 w4 := by rw [hw4]; exact hB3
    refine ⟨_, rfl, fun F11 => ?_⟩
    have HC3 : (fun wz : World => wz.cell? ⟨pb2, 0, none⟩ = some (Value.pointer (some ⟨p2, 0, none⟩)) ∧ wz.cell? ⟨pb2, 1, none⟩ = some (Value.pointer (some ⟨rb2, 0, none⟩)) ∧ wz.cell? ⟨rb2, 0, none⟩ = some (Value.int .i64 (m : Int))) w4 := (HDM.out w4 hB4).2.2
    refine lyp F11 rfl HC3 rfl (by omega) (wanted_none rfl) (v := Value.bool true) (fun wr hwr => by simp only [execOp, (F11.eval 143 (by omega)).trans (show _ = Value.bool true from by simp [upd, ee13])]; first | rfl | simp [go_sem]) fun F12 => ?_
    refine lyp F12 rfl HC3 rfl (by omega) (want_yes F12 rfl (e := 144) rfl (by omega) (show _ = Value.bool true from by simp [upd, ee13])) (v := Value.pointer (some ⟨pb2, 0, none⟩)) (fun wr hwr => by simp only [execOp, (F12.eval 13 (by omega)).trans (show _ = Value.pointer (some ⟨pb2, 0, none⟩) from by simp [upd, ee13])]; first | rfl | simp [go_sem]) fun F13 => ?_
    refine lyp F13 rfl HC3 rfl (by omega) (want_yes F13 rfl (e := 144) rfl (by omega) (show _ = Value.bool true from by simp [upd, ee13])) (v := Value.pointer (some ⟨pb2, 0, none⟩)) (fun wr hwr => by simp only [execOp, (F13.eval 145 (by omega)).trans (show _ = Value.pointer (some ⟨pb2, 0, none⟩) from by simp [upd, ee13])]; simp [go_sem]) fun F14 => ?_
    refine lyp F14 rfl HC3 rfl (by omega) (want_yes F14 rfl (e := 144) rfl (by omega) (show _ = Value.bool true from by simp [upd, ee13])) (v := Value.pointer (some ⟨pb2, 0, none⟩)) (fun wr hwr => by simp only [execOp, (F14.eval 146 (by omega)).trans (show _ = Value.pointer (some ⟨pb2, 0, none⟩) from by simp [upd, ee13])]; simp [go_sem]) fun F15 => ?_
    refine lyp F15 rfl HC3 rfl (by omega) (want_yes F15 rfl (e := 144) rfl (by omega) (show _ = Value.bool true from by simp [upd, ee13])) (v := Value.pointer (some ⟨p2, 0, none⟩)) (fun wr hwr => by simp only [execOp, (F15.eval 147 (by omega)).trans (show _ = Value.pointer (some ⟨pb2, 0, none⟩) from by simp [upd, ee13])]; simp [go_sem, hwr.1]) fun F16 => ?_
    refine lcp F16 rfl HC3 rfl (by omega) (want_yes F16 rfl (e := 144) rfl (by omega) (show _ = Value.bool true from by simp [upd, ee13])) (g := 17) (args := #[Value.pointer (some ⟨p2, 0, none⟩)]) (by simp only [execOp, resolve, invoke, List.map_toArray, List.map_cons, List.map_nil, (F16.eval 148 (by omega)).trans (show _ = Value.pointer (some ⟨p2, 0, none⟩) from by simp [upd, ee13])]; simp [go_sem, Act.eval]) (HI1.out w4 (HDM.out w4 hB4).1) ?_
    rintro e9 w5 ⟨rfl, hw5⟩
    have hB5 : Below w1.heap.size w1 w5 := by rw [hw5]; exact hB4
    refine ⟨_, rfl, fun F17 => ?_⟩
    have HC4 : (fun wz : World => wz.cell? ⟨pb2, 0, none⟩ = some (Value.pointer (some ⟨p2, 0, none⟩)) ∧ wz.cell? ⟨pb2, 1, none⟩ = some (Value.pointer (some ⟨rb2, 0, none⟩)) ∧ wz.cell? ⟨rb2, 0, none⟩ = some (Value.int .i64 (m : Int))) w5 := (HDM.out w5 hB5).2.2
    refine lyp F17 rfl HC4 rfl (by omega) (wanted_none rfl) (v := Value.bool true) (fun wr hwr => by simp only [execOp, (F17.eval 144 (by omega)).trans (show _ = Value.bool true from by simp [upd, ee13]), (F17.eval 149 (by omega)).trans (show _ = Value.bool true from by simp [upd, ee13])]; simp [go_sem, Act.eval]) fun F18 => ?_
    refine lyp F18 rfl HC4 rfl (by omega) (wanted_none rfl) (v := Value.bool true) (fun wr hwr => by simp only [execOp, (F18.eval 150 (by omega)).trans (show _ = Value.bool true from by simp [upd, ee13])]; first | rfl | simp [go_sem]) fun F19 => ?_
    refine lyp F19 rfl HC4 rfl (by omega) (want_yes F19 rfl (e := 151) rfl (by omega) (show _ = Value.bool true from by simp [upd, ee13])) (v := Value.pointer (some ⟨pb2, 0, none⟩)) (fun wr hwr => by simp only [execOp, (F19.eval 13 (by omega)).trans (show _ = Value.pointer (some ⟨pb2, 0, none⟩) from by simp [upd, ee13])]; first | rfl | simp [go_sem]) fun F20 => ?_
    refine lyp F20 rfl HC4 rfl (by omega) (want_yes F20 rfl (e := 151) rfl (by omega) (show _ = Value.bool true from by simp [upd, ee13])) (v := Value.pointer (some ⟨pb2, 0, none⟩)) (fun wr hwr => by simp only [execOp, (F20.eval 152 (by omega)).trans (show _ = Value.pointer (some ⟨pb2, 0, none⟩) from by simp [upd, ee13])]; simp [go_sem]) fun F21 => ?_
    refine lyp F21 rfl HC4 rfl (by omega) (want_yes F21 rfl (e := 151) rfl (by omega) (show _ = Value.bool true from by simp [upd, ee13])) (v := Value.pointer (some ⟨pb2, 0, none⟩)) (fun wr hwr => by simp only [execOp, (F21.eval 153 (by omega)).trans (show _ = Value.pointer (some ⟨pb2, 0, none⟩) from by simp [upd, ee13])]; simp [go_sem]) fun F22 => ?_
    refine lyp F22 rfl HC4 rfl (by omega) (want_yes F22 rfl (e := 151) rfl (by omega) (show _ = Value.bool true from by simp [upd, ee13])) (v := Value.pointer (some ⟨p2, 0, none⟩)) (fun wr hwr => by simp only [execOp, (F22.eval 154 (by omega)).trans (show _ = Value.pointer (some ⟨pb2, 0, none⟩) from by simp [upd, ee13])]; simp [go_sem, hwr.1]) fun F23 => ?_
    refine lcp F23 rfl HC4 rfl (by omega) (want_yes F23 rfl (e := 151) rfl (by omega) (show _ = Value.bool true from by simp [upd, ee13])) (g := 20) (args := #[Value.pointer (some ⟨p2, 0, none⟩)]) (by simp only [execOp, resolve, invoke, List.map_toArray, List.map_cons, List.map_nil, (F23.eval 155 (by omega)).trans (show _ = Value.pointer (some ⟨p2, 0, none⟩) from by simp [upd, ee13])]; simp [go_sem, Act.eval]) (HI2.out w5 (HDM.out w5 hB5).1) ?_
    rintro e9 w6 ⟨rfl, hw6⟩
    have hB6 : Below w1.heap.size w1 w6 := by rw [hw6]; exact hB5
    refine ⟨_, rfl, fun F24 => ?_⟩
    have HC5 : (fun wz : World => wz.cell? ⟨pb2, 0, none⟩ = some (Value.pointer (some ⟨p2, 0, none⟩)) ∧ wz.cell? ⟨pb2, 1, none⟩ = some (Value.pointer (some ⟨rb2, 0, none⟩)) ∧ wz.cell? ⟨rb2, 0, none⟩ = some (Value.int .i64 (m : Int))) w6 := (HDM.out w6 hB6).2.2
    refine lyp F24 rfl HC5 rfl (by omega) (want_yes F24 rfl (e := 151) rfl (by omega) (show _ = Value.bool true from by simp [upd, ee13])) (v := Value.bool true) (fun wr hwr => by simp only [execOp, (F24.eval 156 (by omega)).trans (show _ = Value.int .i64 0 from by simp [upd, ee13])]; simp [go_sem, Act.eval]) fun F25 => ?_
    refine lyp F25 rfl HC5 rfl (by omega) (wanted_none rfl) (v := Value.bool true) (fun wr hwr => by simp only [execOp, (F25.eval 151 (by omega)).trans (show _ = Value.bool true from by simp [upd, ee13]), (F25.eval 157 (by omega)).trans (show _ = Value.bool true from by simp [upd, ee13])]; simp [go_sem, Act.eval]) fun F26 => ?_
    refine lyp F26 rfl HC5 rfl (by omega) (wanted_none rfl) (v := Value.bool true) (fun wr hwr => by simp only [execOp, (F26.eval 158 (by omega)).trans (show _ = Value.bool true from by simp [upd, ee13])]; first | rfl | simp [go_sem]) fun F27 => ?_
    refine lyp F27 rfl HC5 rfl (by omega) (want_yes F27 rfl (e := 159) rfl (by omega) (show _ = Value.bool true from by simp [upd, ee13])) (v := Value.pointer (some ⟨pb2, 0, none⟩)) (fun wr hwr => by simp only [execOp, (F27.eval 13 (by omega)).trans (show _ = Value.pointer (some ⟨pb2, 0, none⟩) from by simp [upd, ee13])]; first | rfl | simp [go_sem]) fun F28 => ?_
    refine lyp F28 rfl HC5 rfl (by omega) (want_yes F28 rfl (e := 159) rfl (by omega) (show _ = Value.bool true from by simp [upd, ee13])) (v := Value.pointer (some ⟨pb2, 0, none⟩)) (fun wr hwr => by simp only [execOp, (F28.eval 160 (by omega)).trans (show _ = Value.pointer (some ⟨pb2, 0, none⟩) from by simp [upd, ee13])]; simp [go_sem]) fun F29 => ?_
    refine lyp F29 rfl HC5 rfl (by omega) (want_yes F29 rfl (e := 159) rfl (by omega) (show _ = Value.bool true from by simp [upd, ee13])) (v := Value.pointer (some ⟨pb2, 0, none⟩)) (fun wr hwr => by simp only [execOp, (F29.eval 161 (by omega)).trans (show _ = Value.pointer (some ⟨pb2, 0, none⟩) from by simp [upd, ee13])]; simp [go_sem]) fun F30 => ?_
    refine lyp F30 rfl HC5 rfl (by omega) (want_yes F30 rfl (e := 159) rfl (by omega) (show _ = Value.bool true from by simp [upd, ee13])) (v := Value.pointer (some ⟨p2, 0, none⟩)) (fun wr hwr => by simp only [execOp, (F30.eval 162 (by omega)).trans (show _ = Value.pointer (some ⟨pb2, 0, none⟩) from by simp [upd, ee13])]; simp [go_sem, hwr.1]) fun F31 => ?_
    refine lcp F31 rfl HC5 rfl (by omega) (want_yes F31 rfl (e := 159) rfl (by omega) (show _ = Value.bool true from by simp [upd, ee13])) (g := 25) (args := #[Value.pointer (some ⟨p2, 0, none⟩)]) (by simp only [execOp, resolve, invoke, List.map_toArray, List.map_cons, List.map_nil, (F31.eval 163 (by omega)).trans (show _ = Value.pointer (some ⟨p2, 0, none⟩) from by simp [upd, ee13])]; simp [go_sem, Act.eval]) (HI3.out w6 (HDM.out w6 hB6).1) ?_
    rintro e9 w7 ⟨rfl, hw7⟩
    have hB7 : Below w1.heap.size w1 w7 := by rw [hw7]; exact hB6
    refine ⟨_, rfl, fun F32 => ?_⟩
    have HC6 : (fun wz : World => wz.cell? ⟨pb2, 0, none⟩ = some (Value.pointer (some ⟨p2, 0, none⟩)) ∧ wz.cell? ⟨pb2, 1, none⟩ = some (Value.pointer (some ⟨rb2, 0, none⟩)) ∧ wz.cell? ⟨rb2, 0, none⟩ = some (Value.int .i64 (m : Int))) w7 := (HDM.out w7 hB7).2.2
    refine lyp F32 rfl HC6 rfl (by omega) (want_yes F32 rfl (e := 159) rfl (by omega) (show _ = Value.bool true from by simp [upd, ee13])) (v := Value.pointer (some ⟨pb2, 0, none⟩)) (fun wr hwr => by simp only [execOp, (F32.eval 13 (by omega)).trans (show _ = Value.pointer (some ⟨pb2, 0, none⟩) from by simp [upd, ee13])]; first | rfl | simp [go_sem]) fun F33 => ?_
    refine lyp F33 rfl HC6 rfl (by omega) (want_yes F33 rfl (e := 159) rfl (by omega) (show _ = Value.bool true from by simp [upd, ee13])) (v := Value.pointer (some ⟨pb2, 0, none⟩)) (fun wr hwr => by simp only [execOp, (F33.eval 165 (by omega)).trans (show _ = Value.pointer (some ⟨pb2, 0, none⟩) from by simp [upd, ee13])]; simp [go_sem]) fun F34 => ?_
    refine lyp F34 rfl HC6 rfl (by omega) (want_yes F34 rfl (e := 159) rfl (by omega) (show _ = Value.bool true from by simp [upd, ee13])) (v := Value.pointer (some ⟨pb2, 1, none⟩)) (fun wr hwr => by simp only [execOp, (F34.eval 166 (by omega)).trans (show _ = Value.pointer (some ⟨pb2, 0, none⟩) from by simp [upd, ee13])]; simp [go_sem]) fun F35 => ?_
    refine lyp F35 rfl HC6 rfl (by omega) (want_yes F35 rfl (e := 159) rfl (by omega) (show _ = Value.bool true from by simp [upd, ee13])) (v := Value.pointer (some ⟨rb2, 0, none⟩)) (fun wr hwr => by simp only [execOp, (F35.eval 167 (by omega)).trans (show _ = Value.pointer (some ⟨pb2, 1, none⟩) from by simp [upd, ee13])]; simp [go_sem, hwr.2.1]) fun F36 => ?_
    refine lyp F36 rfl HC6 rfl (by omega) (want_yes F36 rfl (e := 159) rfl (by omega) (show _ = Value.bool true from by simp [upd, ee13])) (v := Value.pointer (some ⟨rb2, 0, none⟩)) (fun wr hwr => by simp only [execOp, (F36.eval 168 (by omega)).trans (show _ = Value.pointer (some ⟨rb2, 0, none⟩) from by simp [upd, ee13])]; simp [go_sem]) fun F37 => ?_
    refine lyp F37 rfl HC6 rfl (by omega) (want_yes F37 rfl (e := 159) rfl (by omega) (show _ = Value.bool true from by simp [upd, ee13])) (v := Value.pointer (some ⟨rb2, 0, none⟩)) (fun wr hwr => by simp only [execOp, (F37.eval 169 (by omega)).trans (show _ = Value.pointer (some ⟨rb2, 0, none⟩) from by simp [upd, ee13])]; simp [go_sem]) fun F38 => ?_
    refine lyp F38 rfl HC6 rfl (by omega) (want_yes F38 rfl (e := 159) rfl (by omega) (show _ = Value.bool true from by simp [upd, ee13])) (v := Value.int .i64 (m : Int)) (fun wr hwr => by simp only [execOp, (F38.eval 170 (by omega)).trans (show _ = Value.pointer (some ⟨rb2, 0, none⟩) from by simp [upd, ee13])]; simp [go_sem, hwr.2.2]) fun F39 => ?_
    refine lyp F39 rfl HC6 rfl (by omega) (want_yes F39 rfl (e := 159) rfl (by omega) (show _ = Value.bool true from by simp [upd, ee13])) (v := Value.bool true) (fun wr hwr => by simp only [execOp, (F39.eval 164 (by omega)).trans (show _ = Value.int .i64 (m : Int) from by simp [upd, ee13]), (F39.eval 171 (by omega)).trans (show _ = Value.int .i64 (m : Int) from by simp [upd, ee13])]; simp [go_sem, Act.eval]) fun F40 => ?_
    refine lyp F40 rfl HC6 rfl (by omega) (wanted_none rfl) (v := Value.bool true) (fun wr hwr => by simp only [execOp, (F40.eval 159 (by omega)).trans (show _ = Value.bool true from by simp [upd, ee13]), (F40.eval 172 (by omega)).trans (show _ = Value.bool true from by simp [upd, ee13])]; simp [go_sem, Act.eval]) fun F41 => ?_
    refine lyp F41 rfl HC6 rfl (by omega) (wanted_none rfl) (v := Value.bool true) (fun wr hwr => by simp only [execOp, (F41.eval 173 (by omega)).trans (show _ = Value.bool true from by simp [upd, ee13])]; first | rfl | simp [go_sem]) fun F42 => ?_
    refine ⟨fun _ => HC6, ?_⟩
    try refine hK _ _ ?_
    clear F0 F1 F2 F3 F4 F5 F6 F7 F8 F9 F10 F11 F12 F13 F14 F15 F16 F17 F18 F19 F20 F21 F22 F23 F24 F25 F26 F27 F28 F29 F30 F31 F32 F33 F34 F35 F36 F37 F38 F39 F40 F41 F42 ee13 HCC HC1 HC2 HC3 HC4 HC5 HC6
    simp only [Act.put, List.setIfInBounds_toArray, List.set_cons_succ, List.set_cons_zero]
    have HF : Hid (PA L pb p s rb S fv lv lent n zs x r R w7 ∧ Below L w w7) := ⟨PH.more HF1.out.1 hB7, HF1.out.2.trans (hB7.mono (PH.low HF1.out.1))⟩
    clear hr2 hb2 hB2 hy2 hr3 e3 hb3 hB3 hy3 hsm hw4 hB4 hw5 hB5 hw6 hB6 hw7 hB7 HCX HDM HP1
    go_wp2_with fail
    go_ret
    exact ⟨rfl, S, n, Nat.le_succ _, HOK.out, HF.out.1, HF.out.2⟩
end
end Go.Proofs.Ytlajcaofpmjdlaa
