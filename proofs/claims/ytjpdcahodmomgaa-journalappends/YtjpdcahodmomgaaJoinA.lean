import Derived.Test.YtjpdcahodmomgaaJoinB
import Derived.Test.YtjpdcahodmomgaaMix2
import Derived.Test.YtjpdcahodmomgaaJn13
import Derived.Test.YtjpdcahodmomgaaJn19
import Derived.Test.YtjpdcahodmomgaaPlan
import Derived.Test.YtjpdcahodmomgaaArgs
namespace Go.Proofs.Ytjpdcahodmomgaa
open Go.RowKit Go.PlainAid
set_option linter.unusedVariables false
set_option linter.unusedSimpArgs false
set_option maxRecDepth 100000
set_option maxHeartbeats 6400000
theorem appends_any {L kb p s sb jb vn vc : Nat} {x : DV} {y : JV} {iv : Value} {torn : Int} {hv : Value} {hs : List (Value × List UInt8)} {next : Nat} {R : List (Ent L)} {vo : Option Addr} {bs : List UInt8} (w : World) (h : Held (deskG L kb p s sb jb x y iv (-1) torn hv hs next R) w) (hd : DOk p x y hv hs next) (hx : XOk x next) (hall : ∀ W, Below L w W → By W (.slice vo vn vc) bs) (hl : bs.length = vn) (hvn : vn ≤ 140737488351232) :
    Calls Try.prog 45 #[.pointer (some ⟨kb, 0, none⟩), .slice vo vn vc] w (ApPost L kb p s sb jb vn x iv torn R w) := by
  by_cases h8 : vn ≤ 8192
  · by_cases hrm : next + kS vn ≤ x.n
    · exact appends_ok w h hd hx hall hl hvn h8 hrm
    · exact appends_space w h hd hx hall hl hvn h8 (by omega)
  · exact appends_big w h hd hx hall hl hvn (by omega)
def PlPost (L kb p s sb jb : Nat) (iv : Value) (torn : Int) (R : List (Ent L)) (w : World) (n : Nat) (e : Ending) (w' : World) : Prop := e = .returned (.bool true) ∧ ∃ x' y' hv' hs' next', Held (deskG L kb p s sb jb x' y' iv (-1) torn hv' hs' next' R) w' ∧ DOk p x' y' hv' hs' next' ∧ XOk x' next' ∧ x'.n = n ∧ Below L w w'
theorem played_one {L kb p s sb jb vn vc : Nat} {x : DV} {y : JV} {iv : Value} {torn : Int} {hv : Value} {hs : List (Value × List UInt8)} {next : Nat} {R : List (Ent L)} {vo : Option Addr} {bs : List UInt8} (w : World) (h : Held (deskG L kb p s sb jb x y iv (-1) torn hv hs next R) w) (hd : DOk p x y hv hs next) (hx : XOk x next) (hall : ∀ W, Below L w W → By W (.slice vo vn vc) bs) (hl : bs.length = vn) (hvn : vn ≤ 140737488351232) :
    Calls Try.prog 29 #[.pointer (some ⟨kb, 0, none⟩), .agg #[.int .i64 1, .int .i64 0, .int .i64 0, .slice vo vn vc]] w (PlPost L kb p s sb jb iv torn R w x.n) := by
  obtain ⟨ob, hob⟩ : ∃ b, b = w.heap.size := ⟨_, rfl⟩
  obtain ⟨w1, hw1⟩ : ∃ X, X = w.alloc (.cells #[.int .i64 1, .int .i64 0, .int .i64 0, .slice vo vn vc] 69) := ⟨_, rfl⟩
  have hL : L ≤ w.heap.size := desk_lo h
  have hb1 : Below w.heap.size w w1 := by rw [hw1]; exact (Below.refl _ _).alloc (Nat.le_refl _) _
  have h1 : Held (deskG L kb p s sb jb x y iv (-1) torn hv hs next (boxE L ob #[.int .i64 1, .int .i64 0, .int .i64 0, .slice vo vn vc] 69 :: R)) w1 := by
    have h2 : Held (boxE L ob #[.int .i64 1, .int .i64 0, .int .i64 0, .slice vo vn vc] 69 :: deskG L kb p s sb jb x y iv (-1) torn hv hs next R) w1 := Held.fresh h hb1 ⟨by rw [hw1, hob]; exact heap_alloc_new w _, by rw [hob]; exact hL⟩ (fun k hk => by have : k = ob := hk; omega)
    refine h2.perm ?_
    have := List.perm_middle (a := boxE L ob #[.int .i64 1, .int .i64 0, .int .i64 0, .slice vo vn vc] 69) (l₁ := boxE L kb (deskC p (.pointer (some ⟨jb, 0, none⟩)) iv true (-1) torn hv next false sb) 64 :: (haveE L hv hs ++ (imE L iv x :: (y.es L jb ++ [dmE L p s x])))) (l₂ := R)
    simpa [deskG, List.append_assoc] using this.symm
  have c0 : w1.cell? ⟨kb, 0, none⟩ = some (.pointer (some ⟨p, 0, none⟩)) := (desk_box h1).cell 0
  have o0 : w1.cell? ⟨ob, 0, none⟩ = some (.int .i64 1) := (h1.all (boxE L ob #[.int .i64 1, .int .i64 0, .int .i64 0, .slice vo vn vc] 69) (by simp [deskG])).1.cell 0
  have o3 : w1.cell? ⟨ob, 3, none⟩ = some (.slice vo vn vc) := (h1.all (boxE L ob #[.int .i64 1, .int .i64 0, .int .i64 0, .slice vo vn vc] 69) (by simp [deskG])).1.cell 3
  have HW0 : Hid _ := writes_any w1 (desk_dm h1)
  have hb1L : Below L w w1 := hb1.mono hL
  have HAP : Hid _ := appends_any w1 h1 hd hx (fun W hW => hall W (hb1L.trans hW)) hl hvn
  have HL1 : Hid (Below L w w1 ∧ x.writes ≤ 1000) := ⟨hb1L, by have := hx.writes; have := hd.le; have := hd.n2; omega⟩
  obtain ⟨W1, hW1⟩ : ∃ m, m = x.writes := ⟨_, rfl⟩
  have HW1 : Hid (W1 = x.writes) := hW1
  rw [← hW1] at HW0
  clear h hd hx hall h1 hb1 hb1L hW1 hL
  go_enter Try.func29, Try.ntmps29
  go_upto_region 1 with fail
  rw [← hw1, ← hob]
  clear hw1 hob
  go_wp2_with fail
  refine Calls.mono HW0.out ?_
  rintro e wo ⟨rfl, hwo⟩
  replace hwo := hwo.symm
  subst hwo
  clear HW0
  go_wp2_with fail
  refine Calls.mono HAP.out ?_
  rintro e w2 ⟨rfl, y', x', hv', hs', next', hH2, hd2, hx2, hn2, hwr2, hb2⟩
  clear HAP c0 o0 o3
  obtain ⟨ig, ic, hie, hq1, hq2⟩ := im_lit (desk_im hH2) hd2.n1
  clear hq1 hq2
  obtain ⟨N9, hN9⟩ : ∃ m, m = x'.n := ⟨_, rfl⟩
  have HALL : Hid (∀ W, Below w2.heap.size w2 W → W.cell? ⟨kb, 0, none⟩ = some (.pointer (some ⟨p, 0, none⟩)) ∧ W.cell? ⟨kb, 2, none⟩ = some (.slice (some ⟨ig, 0, none⟩) (N9 * 512) ic) ∧ W.cell? ⟨kb, 3, none⟩ = some (.bool true) ∧ W.cell? ⟨ob, 3, none⟩ = some (.slice vo vn vc)) := fun W hW => by
    have h9 := hH2.more hW
    have hB := desk_box h9
    exact ⟨hB.cell 0, by rw [hN9, ← hie]; exact hB.cell 2, hB.cell 3, (h9.all (boxE L ob #[.int .i64 1, .int .i64 0, .int .i64 0, .slice vo vn vc] 69) (by simp [deskG])).1.cell 3⟩
  obtain ⟨W2, hW2⟩ : ∃ m, m = x'.writes := ⟨_, rfl⟩
  obtain ⟨mn, hmn⟩ : ∃ m, m = min vn 8192 := ⟨_, rfl⟩
  obtain ⟨kq, hkq⟩ : ∃ m, m = kS mn := ⟨_, rfl⟩
  have HWS : Hid (∀ W, Below w2.heap.size w2 W → Calls Try.prog 26 #[.pointer (some ⟨p, 0, none⟩)] W fun e w' => e = .returned (.int .i64 (W2 : Int)) ∧ Below w2.heap.size w2 w') := fun W hW => by
    rw [hW2]
    exact (writes_any W (desk_dm (hH2.more hW))).mono fun e w' ⟨h1, h2⟩ => ⟨h1, by rw [h2]; exact hW⟩
  have HKC : Hid (∀ W, Below w2.heap.size w2 W → Calls Try.prog 46 #[.int .i64 (mn : Int)] W fun e w' => e = .returned (.int .i64 (kq : Int)) ∧ Below w2.heap.size w2 w') := fun W hW => by
    rw [hkq]
    exact (count_any mn W (by omega)).mono fun e w' ⟨h1, h2⟩ => ⟨h1, by rw [h2]; exact hW⟩
  have HMN : Hid ((if (8192 : Int) < (vn : Int) then 8192 else (vn : Int)) = (mn : Int)) := by rw [Hid, hmn]; split <;> omega
  have HIM : Hid (∀ W, Below w2.heap.size w2 W → Calls Try.prog 28 #[.pointer (some ⟨p, 0, none⟩)] W fun e w' => ∃ vo vn vc, e = .returned (.slice vo vn vc) ∧ By w' (.slice vo vn vc) (imgL x') ∧ Below w2.heap.size w2 w') := fun W hW => by
    refine (image_any W (desk_dm (hH2.more hW))).mono ?_
    rintro e w' ⟨v', rfl, h2, h3⟩
    rw [← imgL_len] at h2
    obtain ⟨vo, vc, rfl, _⟩ := own_slice h2
    exact ⟨vo, _, vc, rfl, own_by h2, hW.trans (h3.mono hW.size)⟩
  have HSM : Hid (∀ (W : World) (vo : Option Addr) (vn vc : Nat), Below w2.heap.size w2 W → By W (.slice vo vn vc) (imgL x') → Calls Try.prog 27 #[.slice vo vn vc, .slice (some ⟨ig, 0, none⟩) (N9 * 512) ic] W fun e w' => e = .returned (.bool true) ∧ Below w2.heap.size w2 w') := fun W vo vn vc hW hby => by
    obtain ⟨g9, c9, e9, _, b9⟩ := im_lit (desk_im (hH2.more hW)) hd2.n1
    rw [hie] at e9
    cases e9
    rw [hN9]
    have h8 := same_any W hby b9
    rw [beq_self_eq_true] at h8
    exact h8.mono fun e w' ⟨h1, h2⟩ => ⟨h1, by rw [h2]; exact hW⟩
  have HON : Hid (∀ W, Below w2.heap.size w2 W → Calls Try.prog 34 #[.pointer (some ⟨p, 0, none⟩)] W fun e w' => e = .returned (.bool true) ∧ Below w2.heap.size w2 w') := fun W hW => by
    have h8 := isOn_any W (desk_dm (hH2.more hW))
    rw [hx2.off] at h8
    exact h8.mono fun e w' ⟨h1, h2⟩ => ⟨h1, by rw [h2]; exact hW⟩
  have hw2b : W2 ≤ W1 + kq := by rw [hW2, hkq, hmn, HW1.out]; exact hwr2
  have hw1b : W1 ≤ 1000 := by rw [HW1.out]; exact HL1.out.2
  have hkqb : kq ≤ 17 := by rw [hkq]; exact kS_le mn (by omega)
  have HFI : Hid ((∀ W, Below w2.heap.size w2 W → Held (deskG L kb p s sb jb x' y' iv (-1) torn hv' hs' next' R) W ∧ Below L w W) ∧ DOk p x' y' hv' hs' next' ∧ XOk x' next' ∧ x'.n = x.n) := ⟨fun W hW => ⟨Held.subl (hH2.more hW) (by
    unfold deskG
    refine List.Sublist.cons_cons _ (List.Sublist.append (List.Sublist.refl _) (List.Sublist.cons_cons _ (List.Sublist.append (List.Sublist.refl _) (List.Sublist.cons_cons _ (List.Sublist.cons _ (List.Sublist.refl _))))))), (HL1.out.1.trans hb2).trans (hW.mono (desk_lo hH2))⟩, hd2, hx2, hn2⟩
  clear hH2 hd2 hx2 hn2 hwr2 hb2 hie hN9 hW2 hmn hkq
  go_wp2_with fail
  rename_i K hK
  try rw [show ∀ a : Act, a.put none undef = a from fun _ => rfl]
  refine wp_region_mix (fun wz : World => Below w2.heap.size w2 wz) (fun i => i == 6 || i == 13 || i == 99) 99 (by kernel_rfl) rfl (by kernel_rfl) (by kernel_rfl) (by kernel_rfl) ?_
  refine withFrP (N := 147) rfl ?_
  intro f0 F0 hff
  have ee0 : f0 0 = Value.pointer (some ⟨kb, 0, none⟩) := hff 0
  have ee3 : f0 3 = Value.pointer (some ⟨ob, 0, none⟩) := hff 3
  have ee5 : f0 5 = Value.bool true := hff 5
  have ee6 : f0 6 = Value.int .i64 (W1 : Int) := hff 6
  clear hff
  have HCC : (fun wz : World => Below w2.heap.size w2 wz) (({ w2 with drawn := w2.drawn + 1 } : World)) := (below_dr (Below.refl _ _) 1 : Below w2.heap.size w2 (w2.drewN 1))
  refine lyp F0 rfl HCC rfl (by omega) (wanted_none rfl) (v := Value.bool true) (fun wr hwr => by simp only [execOp, (F0.eval 5 (by omega)).trans (show _ = Value.bool true from by simp [upd, ee0, ee3, ee5, ee6])]; first | rfl | simp [go_sem]) fun F1 => ?_
  refine lyp F1 rfl HCC rfl (by omega) (wanted_none rfl) (v := Value.bool true) (fun wr hwr => by simp only [execOp, (F1.eval 21 (by omega)).trans (show _ = Value.bool true from by simp [upd, ee0, ee3, ee5, ee6])]; first | rfl | simp [go_sem]) fun F2 => ?_
  refine lyp F2 rfl HCC rfl (by omega) (want_yes F2 rfl (e := 22) rfl (by omega) (show _ = Value.bool true from by simp [upd, ee0, ee3, ee5, ee6])) (v := Value.pointer (some ⟨kb, 0, none⟩)) (fun wr hwr => by simp only [execOp, (F2.eval 0 (by omega)).trans (show _ = Value.pointer (some ⟨kb, 0, none⟩) from by simp [upd, ee0, ee3, ee5, ee6])]; first | rfl | simp [go_sem]) fun F3 => ?_
  refine lyp F3 rfl HCC rfl (by omega) (want_yes F3 rfl (e := 22) rfl (by omega) (show _ = Value.bool true from by simp [upd, ee0, ee3, ee5, ee6])) (v := Value.pointer (some ⟨kb, 0, none⟩)) (fun wr hwr => by simp only [execOp, (F3.eval 23 (by omega)).trans (show _ = Value.pointer (some ⟨kb, 0, none⟩) from by simp [upd, ee0, ee3, ee5, ee6])]; simp [go_sem]) fun F4 => ?_
  refine lyp F4 rfl HCC rfl (by omega) (want_yes F4 rfl (e := 22) rfl (by omega) (show _ = Value.bool true from by simp [upd, ee0, ee3, ee5, ee6])) (v := Value.pointer (some ⟨kb, 0, none⟩)) (fun wr hwr => by simp only [execOp, (F4.eval 24 (by omega)).trans (show _ = Value.pointer (some ⟨kb, 0, none⟩) from by simp [upd, ee0, ee3, ee5, ee6])]; simp [go_sem]) fun F5 => ?_
  refine lyp F5 rfl HCC rfl (by omega) (want_yes F5 rfl (e := 22) rfl (by omega) (show _ = Value.bool true from by simp [upd, ee0, ee3, ee5, ee6])) (v := Value.pointer (some ⟨p, 0, none⟩)) (fun wr hwr => by simp only [execOp, (F5.eval 25 (by omega)).trans (show _ = Value.pointer (some ⟨kb, 0, none⟩) from by simp [upd, ee0, ee3, ee5, ee6])]; simp [go_sem, (HALL.out wr hwr).1]) fun F6 => ?_
  refine lcp F6 rfl HCC rfl (by omega) (want_yes F6 rfl (e := 22) rfl (by omega) (show _ = Value.bool true from by simp [upd, ee0, ee3, ee5, ee6])) (g := 26) (args := #[Value.pointer (some ⟨p, 0, none⟩)]) (by simp only [execOp, resolve, invoke, List.map_toArray, List.map_cons, List.map_nil, (F6.eval 26 (by omega)).trans (show _ = Value.pointer (some ⟨p, 0, none⟩) from by simp [upd, ee0, ee3, ee5, ee6])]; simp [go_sem, Act.eval]) (HWS.out _ HCC) ?_
  rintro e9 wA ⟨rfl, HA⟩
  refine ⟨_, rfl, fun F7 => ?_⟩
  refine lyp F7 rfl HA rfl (by omega) (want_yes F7 rfl (e := 22) rfl (by omega) (show _ = Value.bool true from by simp [upd, ee0, ee3, ee5, ee6])) (v := Value.int .i64 (W1 : Int)) (fun wr hwr => by simp only [execOp, (F7.eval 6 (by omega)).trans (show _ = Value.int .i64 (W1 : Int) from by simp [upd, ee0, ee3, ee5, ee6])]; first | rfl | simp [go_sem]) fun F8 => ?_
  refine lyp F8 rfl HA rfl (by omega) (want_yes F8 rfl (e := 22) rfl (by omega) (show _ = Value.bool true from by simp [upd, ee0, ee3, ee5, ee6])) (v := Value.int .i64 ((W2 : Int) - (W1 : Int))) (fun wr hwr => by simp only [execOp, (F8.eval 27 (by omega)).trans (show _ = Value.int .i64 (W2 : Int) from by simp [upd, ee0, ee3, ee5, ee6]), (F8.eval 28 (by omega)).trans (show _ = Value.int .i64 (W1 : Int) from by simp [upd, ee0, ee3, ee5, ee6])]; simp [go_sem, Act.eval, show IntKind.i64.wrap ((W2 : Int) - (W1 : Int)) = (W2 : Int) - (W1 : Int) from by rw [IntKind.wrap_i64]; omega]) fun F9 => ?_
  refine lyp F9 rfl HA rfl (by omega) (want_yes F9 rfl (e := 22) rfl (by omega) (show _ = Value.bool true from by simp [upd, ee0, ee3, ee5, ee6])) (v := Value.pointer (some ⟨ob, 3, none⟩)) (fun wr hwr => by simp only [execOp, (F9.eval 3 (by omega)).trans (show _ = Value.pointer (some ⟨ob, 0, none⟩) from by simp [upd, ee0, ee3, ee5, ee6])]; simp [go_sem]) fun F10 => ?_
  refine lyp F10 rfl HA rfl (by omega) (want_yes F10 rfl (e := 22) rfl (by omega) (show _ = Value.bool true from by simp [upd, ee0, ee3, ee5, ee6])) (v := Value.slice vo vn vc) (fun wr hwr => by simp only [execOp, (F10.eval 30 (by omega)).trans (show _ = Value.pointer (some ⟨ob, 3, none⟩) from by simp [upd, ee0, ee3, ee5, ee6])]; simp [go_sem, (HALL.out wr hwr).2.2.2]) fun F11 => ?_
  refine lyp F11 rfl HA rfl (by omega) (want_yes F11 rfl (e := 22) rfl (by omega) (show _ = Value.bool true from by simp [upd, ee0, ee3, ee5, ee6])) (v := Value.int .i64 (vn : Nat)) (fun wr hwr => by simp only [execOp, resolve, invoke, builtin, List.map_toArray, List.map_cons, List.map_nil, (F11.eval 31 (by omega)).trans (show _ = Value.slice vo vn vc from by simp [upd, ee0, ee3, ee5, ee6])]; simp [go_sem, Builtin.len_, Builtin.lenOf]) fun F12 => ?_
  refine lyp F12 rfl HA rfl (by omega) (want_yes F12 rfl (e := 22) rfl (by omega) (show _ = Value.bool true from by simp [upd, ee0, ee3, ee5, ee6])) (v := Value.int .i64 (mn : Int)) (fun wr hwr => by simp only [execOp, resolve, invoke, builtin, List.map_toArray, List.map_cons, List.map_nil, (F12.eval 32 (by omega)).trans (show _ = Value.int .i64 (vn : Nat) from by simp [upd, ee0, ee3, ee5, ee6])]; simp [go_sem, Act.eval]; exact HMN.out) fun F13 => ?_
  refine lcp F13 rfl HA rfl (by omega) (want_yes F13 rfl (e := 22) rfl (by omega) (show _ = Value.bool true from by simp [upd, ee0, ee3, ee5, ee6])) (g := 46) (args := #[Value.int .i64 (mn : Int)]) (by simp only [execOp, resolve, invoke, List.map_toArray, List.map_cons, List.map_nil, (F13.eval 33 (by omega)).trans (show _ = Value.int .i64 (mn : Int) from by simp [upd, ee0, ee3, ee5, ee6])]; simp [go_sem, Act.eval]) (HKC.out _ HA) ?_
  rintro e9 wB ⟨rfl, HB⟩
  refine ⟨_, rfl, fun F14 => ?_⟩
  refine lyp F14 rfl HB rfl (by omega) (want_yes F14 rfl (e := 22) rfl (by omega) (show _ = Value.bool true from by simp [upd, ee0, ee3, ee5, ee6])) (v := Value.bool true) (fun wr hwr => by simp only [execOp, (F14.eval 29 (by omega)).trans (show _ = Value.int .i64 ((W2 : Int) - (W1 : Int)) from by simp [upd, ee0, ee3, ee5, ee6]), (F14.eval 34 (by omega)).trans (show _ = Value.int .i64 (kq : Int) from by simp [upd, ee0, ee3, ee5, ee6])]; simp [go_sem, Act.eval]; omega) fun F15 => ?_
  refine lyp F15 rfl HB rfl (by omega) (wanted_none rfl) (v := Value.bool true) (fun wr hwr => by simp only [execOp, (F15.eval 22 (by omega)).trans (show _ = Value.bool true from by simp [upd, ee0, ee3, ee5, ee6]), (F15.eval 35 (by omega)).trans (show _ = Value.bool true from by simp [upd, ee0, ee3, ee5, ee6])]; simp [go_sem, Act.eval]) fun F16 => ?_
  refine lyp F16 rfl HB rfl (by omega) (wanted_none rfl) (v := Value.bool true) (fun wr hwr => by simp only [execOp, (F16.eval 36 (by omega)).trans (show _ = Value.bool true from by simp [upd, ee0, ee3, ee5, ee6])]; first | rfl | simp [go_sem]) fun F17 => ?_
  refine ⟨fun _ => HB, ?_⟩
  refine hK _ _ ?_
  clear F0 F1 F2 F3 F4 F5 F6 F7 F8 F9 F10 F11 F12 F13 F14 F15 F16 F17 ee0 ee3 ee5 ee6 HCC
  simp only [Act.put, List.setIfInBounds_toArray, List.set_cons_succ, List.set_cons_zero]
  clear HA
  have HX : Below w2.heap.size w2 wB := HB
  clear HB HWS HKC HMN
  generalize wB = wX at HX ⊢
  go_wp2_with fail
  rename_i K hK
  try rw [show ∀ a : Act, a.put none undef = a from fun _ => rfl]
  refine wp_region_mix (fun wz : World => Below w2.heap.size w2 wz) (fun i => i == 6 || i == 11 || i == 18 || i == 99) 99 (by kernel_rfl) rfl (by kernel_rfl) (by kernel_rfl) (by kernel_rfl) ?_
  refine withFrP (N := 147) rfl ?_
  intro f0 F0 hff
  have ee0 : f0 0 = Value.pointer (some ⟨kb, 0, none⟩) := hff 0
  have ee5 : f0 5 = Value.bool true := hff 5
  clear hff
  have HCC : (fun wz : World => Below w2.heap.size w2 wz) (({ wX with drawn := wX.drawn + 1 } : World)) := (below_dr HX 1 : Below w2.heap.size w2 (wX.drewN 1))
  refine lyp F0 rfl HCC rfl (by omega) (wanted_none rfl) (v := Value.bool true) (fun wr hwr => by simp only [execOp, (F0.eval 5 (by omega)).trans (show _ = Value.bool true from by simp [upd, ee0, ee5])]; first | rfl | simp [go_sem]) fun F1 => ?_
  refine lyp F1 rfl HCC rfl (by omega) (wanted_none rfl) (v := Value.bool true) (fun wr hwr => by simp only [execOp, (F1.eval 122 (by omega)).trans (show _ = Value.bool true from by simp [upd, ee0, ee5])]; first | rfl | simp [go_sem]) fun F2 => ?_
  refine lyp F2 rfl HCC rfl (by omega) (want_yes F2 rfl (e := 123) rfl (by omega) (show _ = Value.bool true from by simp [upd, ee0, ee5])) (v := Value.pointer (some ⟨kb, 0, none⟩)) (fun wr hwr => by simp only [execOp, (F2.eval 0 (by omega)).trans (show _ = Value.pointer (some ⟨kb, 0, none⟩) from by simp [upd, ee0, ee5])]; first | rfl | simp [go_sem]) fun F3 => ?_
  refine lyp F3 rfl HCC rfl (by omega) (want_yes F3 rfl (e := 123) rfl (by omega) (show _ = Value.bool true from by simp [upd, ee0, ee5])) (v := Value.pointer (some ⟨kb, 0, none⟩)) (fun wr hwr => by simp only [execOp, (F3.eval 124 (by omega)).trans (show _ = Value.pointer (some ⟨kb, 0, none⟩) from by simp [upd, ee0, ee5])]; simp [go_sem]) fun F4 => ?_
  refine lyp F4 rfl HCC rfl (by omega) (want_yes F4 rfl (e := 123) rfl (by omega) (show _ = Value.bool true from by simp [upd, ee0, ee5])) (v := Value.pointer (some ⟨kb, 0, none⟩)) (fun wr hwr => by simp only [execOp, (F4.eval 125 (by omega)).trans (show _ = Value.pointer (some ⟨kb, 0, none⟩) from by simp [upd, ee0, ee5])]; simp [go_sem]) fun F5 => ?_
  refine lyp F5 rfl HCC rfl (by omega) (want_yes F5 rfl (e := 123) rfl (by omega) (show _ = Value.bool true from by simp [upd, ee0, ee5])) (v := Value.pointer (some ⟨p, 0, none⟩)) (fun wr hwr => by simp only [execOp, (F5.eval 126 (by omega)).trans (show _ = Value.pointer (some ⟨kb, 0, none⟩) from by simp [upd, ee0, ee5])]; simp [go_sem, (HALL.out wr hwr).1]) fun F6 => ?_
  refine lcp F6 rfl HCC rfl (by omega) (want_yes F6 rfl (e := 123) rfl (by omega) (show _ = Value.bool true from by simp [upd, ee0, ee5])) (g := 28) (args := #[Value.pointer (some ⟨p, 0, none⟩)]) (by simp only [execOp, resolve, invoke, List.map_toArray, List.map_cons, List.map_nil, (F6.eval 127 (by omega)).trans (show _ = Value.pointer (some ⟨p, 0, none⟩) from by simp [upd, ee0, ee5])]; simp [go_sem, Act.eval]) (HIM.out _ HCC) ?_
  rintro e9 wC ⟨vo', vn', vc', rfl, hby, HC⟩
  refine ⟨_, rfl, fun F7 => ?_⟩
  refine lyp F7 rfl HC rfl (by omega) (want_yes F7 rfl (e := 123) rfl (by omega) (show _ = Value.bool true from by simp [upd, ee0, ee5])) (v := Value.pointer (some ⟨kb, 0, none⟩)) (fun wr hwr => by simp only [execOp, (F7.eval 0 (by omega)).trans (show _ = Value.pointer (some ⟨kb, 0, none⟩) from by simp [upd, ee0, ee5])]; first | rfl | simp [go_sem]) fun F8 => ?_
  refine lyp F8 rfl HC rfl (by omega) (want_yes F8 rfl (e := 123) rfl (by omega) (show _ = Value.bool true from by simp [upd, ee0, ee5])) (v := Value.pointer (some ⟨kb, 0, none⟩)) (fun wr hwr => by simp only [execOp, (F8.eval 129 (by omega)).trans (show _ = Value.pointer (some ⟨kb, 0, none⟩) from by simp [upd, ee0, ee5])]; simp [go_sem]) fun F9 => ?_
  refine lyp F9 rfl HC rfl (by omega) (want_yes F9 rfl (e := 123) rfl (by omega) (show _ = Value.bool true from by simp [upd, ee0, ee5])) (v := Value.pointer (some ⟨kb, 2, none⟩)) (fun wr hwr => by simp only [execOp, (F9.eval 130 (by omega)).trans (show _ = Value.pointer (some ⟨kb, 0, none⟩) from by simp [upd, ee0, ee5])]; simp [go_sem]) fun F10 => ?_
  refine lyp F10 rfl HC rfl (by omega) (want_yes F10 rfl (e := 123) rfl (by omega) (show _ = Value.bool true from by simp [upd, ee0, ee5])) (v := Value.slice (some ⟨ig, 0, none⟩) (N9 * 512) ic) (fun wr hwr => by simp only [execOp, (F10.eval 131 (by omega)).trans (show _ = Value.pointer (some ⟨kb, 2, none⟩) from by simp [upd, ee0, ee5])]; simp [go_sem, (HALL.out wr hwr).2.1]) fun F11 => ?_
  refine lcp F11 rfl HC rfl (by omega) (want_yes F11 rfl (e := 123) rfl (by omega) (show _ = Value.bool true from by simp [upd, ee0, ee5])) (g := 27) (args := #[Value.slice vo' vn' vc', Value.slice (some ⟨ig, 0, none⟩) (N9 * 512) ic]) (by simp only [execOp, resolve, invoke, List.map_toArray, List.map_cons, List.map_nil, (F11.eval 128 (by omega)).trans (show _ = Value.slice vo' vn' vc' from by simp [upd, ee0, ee5]), (F11.eval 132 (by omega)).trans (show _ = Value.slice (some ⟨ig, 0, none⟩) (N9 * 512) ic from by simp [upd, ee0, ee5])]; simp [go_sem, Act.eval]) (HSM.out _ _ _ _ HC hby) ?_
  rintro e9 wD ⟨rfl, HD⟩
  refine ⟨_, rfl, fun F12 => ?_⟩
  refine lyp F12 rfl HD rfl (by omega) (wanted_none rfl) (v := Value.bool true) (fun wr hwr => by simp only [execOp, (F12.eval 123 (by omega)).trans (show _ = Value.bool true from by simp [upd, ee0, ee5]), (F12.eval 133 (by omega)).trans (show _ = Value.bool true from by simp [upd, ee0, ee5])]; simp [go_sem, Act.eval]) fun F13 => ?_
  refine lyp F13 rfl HD rfl (by omega) (wanted_none rfl) (v := Value.bool true) (fun wr hwr => by simp only [execOp, (F13.eval 134 (by omega)).trans (show _ = Value.bool true from by simp [upd, ee0, ee5])]; first | rfl | simp [go_sem]) fun F14 => ?_
  refine lyp F14 rfl HD rfl (by omega) (want_yes F14 rfl (e := 135) rfl (by omega) (show _ = Value.bool true from by simp [upd, ee0, ee5])) (v := Value.pointer (some ⟨kb, 0, none⟩)) (fun wr hwr => by simp only [execOp, (F14.eval 0 (by omega)).trans (show _ = Value.pointer (some ⟨kb, 0, none⟩) from by simp [upd, ee0, ee5])]; first | rfl | simp [go_sem]) fun F15 => ?_
  refine lyp F15 rfl HD rfl (by omega) (want_yes F15 rfl (e := 135) rfl (by omega) (show _ = Value.bool true from by simp [upd, ee0, ee5])) (v := Value.pointer (some ⟨kb, 0, none⟩)) (fun wr hwr => by simp only [execOp, (F15.eval 136 (by omega)).trans (show _ = Value.pointer (some ⟨kb, 0, none⟩) from by simp [upd, ee0, ee5])]; simp [go_sem]) fun F16 => ?_
  refine lyp F16 rfl HD rfl (by omega) (want_yes F16 rfl (e := 135) rfl (by omega) (show _ = Value.bool true from by simp [upd, ee0, ee5])) (v := Value.pointer (some ⟨kb, 0, none⟩)) (fun wr hwr => by simp only [execOp, (F16.eval 137 (by omega)).trans (show _ = Value.pointer (some ⟨kb, 0, none⟩) from by simp [upd, ee0, ee5])]; simp [go_sem]) fun F17 => ?_
  refine lyp F17 rfl HD rfl (by omega) (want_yes F17 rfl (e := 135) rfl (by omega) (show _ = Value.bool true from by simp [upd, ee0, ee5])) (v := Value.pointer (some ⟨p, 0, none⟩)) (fun wr hwr => by simp only [execOp, (F17.eval 138 (by omega)).trans (show _ = Value.pointer (some ⟨kb, 0, none⟩) from by simp [upd, ee0, ee5])]; simp [go_sem, (HALL.out wr hwr).1]) fun F18 => ?_
  refine lcp F18 rfl HD rfl (by omega) (want_yes F18 rfl (e := 135) rfl (by omega) (show _ = Value.bool true from by simp [upd, ee0, ee5])) (g := 34) (args := #[Value.pointer (some ⟨p, 0, none⟩)]) (by simp only [execOp, resolve, invoke, List.map_toArray, List.map_cons, List.map_nil, (F18.eval 139 (by omega)).trans (show _ = Value.pointer (some ⟨p, 0, none⟩) from by simp [upd, ee0, ee5])]; simp [go_sem, Act.eval]) (HON.out _ HD) ?_
  rintro e9 wE ⟨rfl, HE⟩
  refine ⟨_, rfl, fun F19 => ?_⟩
  refine lyp F19 rfl HE rfl (by omega) (want_yes F19 rfl (e := 135) rfl (by omega) (show _ = Value.bool true from by simp [upd, ee0, ee5])) (v := Value.pointer (some ⟨kb, 0, none⟩)) (fun wr hwr => by simp only [execOp, (F19.eval 0 (by omega)).trans (show _ = Value.pointer (some ⟨kb, 0, none⟩) from by simp [upd, ee0, ee5])]; first | rfl | simp [go_sem]) fun F20 => ?_
  refine lyp F20 rfl HE rfl (by omega) (want_yes F20 rfl (e := 135) rfl (by omega) (show _ = Value.bool true from by simp [upd, ee0, ee5])) (v := Value.pointer (some ⟨kb, 0, none⟩)) (fun wr hwr => by simp only [execOp, (F20.eval 141 (by omega)).trans (show _ = Value.pointer (some ⟨kb, 0, none⟩) from by simp [upd, ee0, ee5])]; simp [go_sem]) fun F21 => ?_
  refine lyp F21 rfl HE rfl (by omega) (want_yes F21 rfl (e := 135) rfl (by omega) (show _ = Value.bool true from by simp [upd, ee0, ee5])) (v := Value.pointer (some ⟨kb, 3, none⟩)) (fun wr hwr => by simp only [execOp, (F21.eval 142 (by omega)).trans (show _ = Value.pointer (some ⟨kb, 0, none⟩) from by simp [upd, ee0, ee5])]; simp [go_sem]) fun F22 => ?_
  refine lyp F22 rfl HE rfl (by omega) (want_yes F22 rfl (e := 135) rfl (by omega) (show _ = Value.bool true from by simp [upd, ee0, ee5])) (v := Value.bool true) (fun wr hwr => by simp only [execOp, (F22.eval 143 (by omega)).trans (show _ = Value.pointer (some ⟨kb, 3, none⟩) from by simp [upd, ee0, ee5])]; simp [go_sem, (HALL.out wr hwr).2.2.1]) fun F23 => ?_
  refine lyp F23 rfl HE rfl (by omega) (want_yes F23 rfl (e := 135) rfl (by omega) (show _ = Value.bool true from by simp [upd, ee0, ee5])) (v := Value.bool true) (fun wr hwr => by simp only [execOp, (F23.eval 140 (by omega)).trans (show _ = Value.bool true from by simp [upd, ee0, ee5]), (F23.eval 144 (by omega)).trans (show _ = Value.bool true from by simp [upd, ee0, ee5])]; simp [go_sem, Act.eval]) fun F24 => ?_
  refine lyp F24 rfl HE rfl (by omega) (wanted_none rfl) (v := Value.bool true) (fun wr hwr => by simp only [execOp, (F24.eval 135 (by omega)).trans (show _ = Value.bool true from by simp [upd, ee0, ee5]), (F24.eval 145 (by omega)).trans (show _ = Value.bool true from by simp [upd, ee0, ee5])]; simp [go_sem, Act.eval]) fun F25 => ?_
  refine lyp F25 rfl HE rfl (by omega) (wanted_none rfl) (v := Value.bool true) (fun wr hwr => by simp only [execOp, (F25.eval 146 (by omega)).trans (show _ = Value.bool true from by simp [upd, ee0, ee5])]; first | rfl | simp [go_sem]) fun F26 => ?_
  refine ⟨fun _ => HE, ?_⟩
  refine hK _ _ ?_
  clear F0 F1 F2 F3 F4 F5 F6 F7 F8 F9 F10 F11 F12 F13 F14 F15 F16 F17 F18 F19 F20 F21 F22 F23 F24 F25 F26 ee0 ee5 HCC
  simp only [Act.put, List.setIfInBounds_toArray, List.set_cons_succ, List.set_cons_zero]
  have HF9 : Hid _ := HFI.out.1 wE HE
  clear HC HD HE HX hby
  go_wp2_with fail
  go_ret
  unfold PlPost
  exact ⟨rfl, x', y', hv', hs', next', HF9.out.1, HFI.out.2.1, HFI.out.2.2.1, HFI.out.2.2.2, HF9.out.2⟩
end Go.Proofs.Ytjpdcahodmomgaa
namespace Go.Proofs.Ytjpdcahodmomgaa
open Go.RowKit Go.PlainAid
set_option linter.unusedVariables false
set_option linter.unusedSimpArgs false
set_option maxRecDepth 100000
set_option maxHeartbeats 6400000
/-- The desk behind so many records. -/
def ALS (L kb p s sb : Nat) (iv : Value) (n : Nat) (R : List (Ent L)) (w wr : World) : Prop := ∃ jb x y hv hs next, Held (deskG L kb p s sb jb x y iv (-1) 0 hv hs next R) wr ∧ DOk p x y hv hs next ∧ XOk x next ∧ x.n = n ∧ Below L w wr
theorem again_perm {L : Nat} {A I D : Ent L} {H Y R : List (Ent L)} : (A :: (H ++ (I :: (Y ++ (D :: R))))).Perm (A :: I :: D :: (H ++ (Y ++ R))) := by
  refine List.Perm.cons _ (List.perm_middle.trans (List.Perm.cons _ ?_))
  have := List.perm_middle (a := D) (l₁ := H ++ Y) (l₂ := R)
  simpa [List.append_assoc] using this
/-- Opened anew, the journal tells what the document reads. -/
theorem als_open {L kb p s sb jb next : Nat} {x : DV} {y : JV} {iv hv : Value} {hs : List (Value × List UInt8)} {R : List (Ent L)} (w : World) (h : Held (deskG L kb p s sb jb x y iv (-1) 0 hv hs next R) w) (hd : DOk p x y hv hs next) (hx : XOk x next) :
    Calls Try.prog 30 #[.pointer (some ⟨kb, 0, none⟩)] w fun e w' => e = .returned (.bool true) ∧ ∃ jb' ho' n' hc', Below L w w' ∧ (∀ W, Below w'.heap.size w' W → W.cell? ⟨kb, 1, none⟩ = some (.pointer (some ⟨jb', 0, none⟩)) ∧ W.cell? ⟨kb, 6, none⟩ = some (.slice ho' n' hc') ∧ Calls Try.prog 19 #[.pointer (some ⟨jb', 0, none⟩), .slice ho' n' hc'] W fun e w2 => e = .returned (.bool true) ∧ Below W.heap.size W w2) := by
  refine (opens_any w (h.perm again_perm) hx.off hd.n1 hd.n2).mono ?_
  rintro e w' ⟨rfl, jb', y', k, hv', hs', hF, hJ, hhm, ⟨ho, hc, rfl⟩, hhl, hH, hb⟩
  have hle := Upto.le hF.1
  have hH' : Held (deskG L kb p s sb jb' x y' iv (-1) 0 (.slice ho hs'.length hc) hs' (itR x.b k).2 (haveE L hv hs ++ (y.es L jb ++ R))) w' := hH
  have hDO : DOk p x y' (.slice ho hs'.length hc) hs' (itR x.b k).2 := ⟨hJ.p, by rw [hJ.recs, hhm], hJ.next, hJ.fin, hle.2.1, hd.n1, hd.n2, fun d hd => hle.2.2 d.2 (by rw [← hJ.recs]; exact List.mem_map_of_mem hd), ⟨ho, hc, rfl⟩, by rw [hhl]; exact hle.1⟩
  refine ⟨rfl, jb', ho, hs'.length, hc, hb, fun W hW => ?_⟩
  have hB := desk_box (hH'.more hW)
  exact ⟨hB.cell 1, hB.cell 6, tells_yes W (desk_j (hH'.more hW)) hDO.recs hDO.l8 (by rw [hDO.len]; have := hDO.hl; have := hDO.le; have := hDO.n2; omega) (desk_rows (hH'.more hW))⟩
theorem jappends_law {z : Int} {v : Value} {ls : List (List UInt8)} (w : World) (hz : -9223372036854775808 ≤ z ∧ z ≤ 9223372036854775807) (hv : RowsA w v ls) :
    Calls Try.prog 8 #[.int .i64 z, v] w fun e w' => e = .returned (.bool true) ∧ Below w.heap.size w w' := by
  obtain ⟨o1, c1, rfl, hn1, hrow1⟩ := hv
  have HSH : Hid _ := shaped_any (v := .slice none 0 0) (bs := []) z w hz ⟨none, 0, 0, rfl, rfl, fun _ => ⟨rfl, rfl⟩, fun ad e => by cases e⟩
  obtain ⟨L, hL⟩ : ∃ L, L = w.heap.size := ⟨_, rfl⟩
  have HLE : Hid (L = w.heap.size) := hL
  have HRW : Hid (∀ W, Below L w W → ∀ (i : Nat) bs, ls[i]? = some bs → ∃ b off uo k uc, o1 = some ⟨b, off, none⟩ ∧ W.cell? ⟨b, off + i, none⟩ = some (.slice uo k uc) ∧ (∀ W2, Below L W W2 → By W2 (.slice uo k uc) bs) ∧ bs.length = k ∧ k ≤ 140737488351232) := fun W hW i bs hi => by
    obtain ⟨b, off, uo, k, uc, e1, e2, e3, e4, e5⟩ := hrow1 i bs hi
    have hW' := below_lo hL hW
    have hk : bs.length = k := by obtain ⟨_, _, _, e6, e7, _⟩ := id e3; cases e6; exact e7
    exact ⟨b, off, uo, k, uc, e1, (hW'.cell (World.block_lt_of_cell? _ _ e2)).trans e2, fun W2 h2 => e3.keep (below_lo hL (hW.trans h2)), hk, by omega⟩
  obtain ⟨N1, hN1⟩ : ∃ N, N = ls.length := ⟨_, rfl⟩
  have HN : Hid (N1 = ls.length) := hN1
  rw [← hN1] at hn1 ⊢
  clear hrow1 hz hN1
  rw [← hL]
  clear hL
  go_enter Try.func8, Try.ntmps8
  go_wp2_with fail
  refine Calls.mono HSH.out ?_
  rintro e w1 ⟨n, g, im, hm1, hm2, hil, rfl, ho1, hb1⟩
  clear HSH
  rw [← HLE.out] at ho1 hb1
  have h1 : Held [rowE L 5 1 (.slice (some ⟨g, 0, none⟩) (n * 512) (n * 512)) (n * 512) (im.map B)] w1 := ⟨fun e he => by rw [List.mem_singleton.1 he]; exact ho1, List.pairwise_singleton ..⟩
  have HBG : Hid _ := begun_any w1 h1 (by rw [HLE.out]; exact hb1.size) (fun W _ hW => by
    have h9 : W.ownsRow L 5 1 (.slice (some ⟨g, 0, none⟩) (n * 512) (n * 512)) (n * 512) (im.map B) := hW.all _ (List.mem_cons_self ..)
    exact own_by (L := L) (s := im) (by rw [hil]; exact h9)) hil hm1 (by omega) (Nat.le_refl _)
  have HB1 : Hid (Below L w w1 ∧ 1 ≤ n ∧ n ≤ 80) := ⟨hb1, hm1, hm2⟩
  clear ho1 hb1 h1 hil hm1 hm2
  go_wp2_with fail
  refine Calls.mono HBG.out ?_
  rintro e w2 ⟨x, kb, p, s, sb, jb, y, iv, hv, hs, k, rfl, hx, hF, hJ, hhm, ⟨ho, hc, rfl⟩, hhl, hH, hb2⟩
  clear HBG
  have hle := Upto.le hF.1
  have HS : Hid (∃ R, ∀ W, Below w2.heap.size w2 W → ALS L kb p s sb iv n R w W) := ⟨_, fun W hW => ⟨jb, x, y, .slice ho hs.length hc, hs, (itR x.b k).2, Held.more hH hW, ⟨hJ.p, by rw [hJ.recs, hhm], hJ.next, hJ.fin, by rw [hx.n]; exact hle.2.1, by rw [hx.n]; exact HB1.out.2.1, by rw [hx.n]; have := HB1.out.2.2; omega, fun d hd => hle.2.2 d.2 (by rw [← hJ.recs]; exact List.mem_map_of_mem hd), ⟨ho, hc, rfl⟩, by rw [hhl]; exact hle.1⟩, ⟨hx.off, hx.armed, hx.whole, by rw [hx.writes]; exact Nat.zero_le _⟩, hx.n, (HB1.out.1.trans hb2).trans (hW.mono (Nat.le_trans (by rw [HLE.out]; exact HB1.out.1.size) hb2.size))⟩⟩
  have HAB : Hid _ := able_yes w2
  clear hx hF hJ hhm hhl hH hb2 hle
  go_wp2_with fail
  refine Calls.mono HAB.out ?_
  rintro e w3 ⟨rfl, hb3⟩
  obtain ⟨R, hR⟩ := HS.out
  have HA0 : Hid (ALS L kb p s sb iv n R w w3) := hR w3 hb3
  clear HAB hb3 hR HS
  go_wp2_with fail
  go_loopw [6] (fun s6 wr => ∃ i : Nat, i ≤ N1 ∧ s6 = .int .i64 (i : Int) ∧ ALS L kb p s sb iv n R w wr) (fun s6 _ => N1 - (intOf s6).toNat)
  case atStart => exact ⟨0, Nat.zero_le _, rfl, HA0.out⟩
  case round =>
    clear HA0
    obtain ⟨i, hi, rfl, jb, x, y, hv, hs, next, hH, hd, hxo, hxn, hbl⟩ := hrel
    by_cases hlt : i < N1
    · have hlti : (i : Int) < (N1 : Int) := by omega
      have hbs : ls[i]? = some (ls[i]'(by rw [← HN.out]; exact hlt)) := List.getElem?_eq_getElem _
      obtain ⟨b9, o9, uo, uk, uc, rfl, hcell, hall, hul, huk⟩ := HRW.out wr hbl i _ hbs
      have HPL : Hid _ := played_one wr hH hd hxo hall hul huk
      have HBL : Hid (Below L w wr ∧ x.n = n) := ⟨hbl, hxn⟩
      clear hH hd hxo hall hul hbs hbl hxn
      go_wp2_with fail
      refine Calls.mono HPL.out ?_
      rintro e w5 ⟨rfl, x', y', hv', hs', next', hH5, hd5, hx5, hn5, hb5⟩
      have HLK : Hid _ := looks_any hH5 hd5
      have HN5 : Hid (∀ q, ALS L kb p s sb iv n R w (w5.drewN q)) := fun q => ⟨jb, x', y', hv', hs', next', hH5.drewN q, hd5, hx5, by rw [hn5]; exact HBL.out.2, below_dr (HBL.out.1.trans hb5) q⟩
      clear HPL hH5 hd5 hx5 hn5 hb5 hcell
      go_wp2_with fail
      refine Calls.mono HLK.out ?_
      rintro e w6 ⟨rfl, q, hw6⟩
      have HN6 : Hid (ALS L kb p s sb iv n R w w6) := by rw [hw6]; exact HN5.out q
      clear HLK hw6 HN5
      go_wp2_with fail
      go_roundw
      case rel => exact ⟨i + 1, by omega, by go_num, HN6.out⟩
      case measure => simp [intOf]; omega
    · have hlti : ¬ ((i : Int) < (N1 : Int)) := by omega
      obtain ⟨ho, hc, hve⟩ := hd.ehv
      subst hve
      have hLw : L ≤ wr.heap.size := desk_lo hH
      have HT1 : Hid (∀ W, Below wr.heap.size wr W → Calls Try.prog 19 #[.pointer (some ⟨jb, 0, none⟩), .slice ho hs.length hc] W fun e w' => e = .returned (.bool true) ∧ Below wr.heap.size wr w') := fun W hW => (tells_yes W (desk_j (hH.more hW)) hd.recs hd.l8 (by rw [hd.len]; have := hd.hl; have := hd.le; have := hd.n2; omega) (desk_rows (hH.more hW))).mono fun e w' ⟨h1, h2⟩ => ⟨h1, hW.trans (h2.mono hW.size)⟩
      have HOP : Hid (∀ W, Below wr.heap.size wr W → Calls Try.prog 30 #[.pointer (some ⟨kb, 0, none⟩)] W fun e w' => e = .returned (.bool true) ∧ ∃ jb' ho' n' hc', Below L w w' ∧ (∀ W, Below w'.heap.size w' W → W.cell? ⟨kb, 1, none⟩ = some (.pointer (some ⟨jb', 0, none⟩)) ∧ W.cell? ⟨kb, 6, none⟩ = some (.slice ho' n' hc') ∧ Calls Try.prog 19 #[.pointer (some ⟨jb', 0, none⟩), .slice ho' n' hc'] W fun e w2 => e = .returned (.bool true) ∧ Below L w w2)) := fun W hW => by
        refine (als_open W (hH.more hW) hd hxo).mono ?_
        rintro e w' ⟨rfl, jb', ho', n', hc', k1, k2⟩
        have h5 : Below L w w' := (hbl.trans (hW.mono hLw)).trans k1
        have hLw' : L ≤ w'.heap.size := by have := h5.size; have := HLE.out; omega
        exact ⟨rfl, jb', ho', n', hc', h5, fun W2 hW2 => ⟨(k2 W2 hW2).1, (k2 W2 hW2).2.1, (k2 W2 hW2).2.2.mono fun e w2 ⟨h1, h2⟩ => ⟨h1, (h5.trans (hW2.mono hLw')).trans (h2.mono (by have := hW2.size; omega))⟩⟩⟩
      have d1 : wr.cell? ⟨kb, 1, none⟩ = some (.pointer (some ⟨jb, 0, none⟩)) := (desk_box hH).cell 1
      have d6 : wr.cell? ⟨kb, 6, none⟩ = some (.slice ho hs.length hc) := (desk_box hH).cell 6
      obtain ⟨hln, hhln⟩ : ∃ l, l = hs.length := ⟨_, rfl⟩
      rw [← hhln] at d6 HT1
      clear hH hd hxo hxn hbl hhln hLw HRW HN
      go_wp2_with fail
      rename_i K hK
      have hrest : ∀ (a : Act) (f' : Nat → Value) (V : World), Fr 59 a f' → f' 4 = Value.bool true → Below L w V → K a V := by
        intro a f' V F' k4 hbV
        refine hK _ _ ?_
        rw [F'.lit, show ((List.range 59).map f').toArray = #[f' 0, f' 1, f' 2, f' 3, f' 4, f' 5, f' 6, f' 7, f' 8, f' 9, f' 10, f' 11, f' 12, f' 13, f' 14, f' 15, f' 16, f' 17, f' 18, f' 19, f' 20, f' 21, f' 22, f' 23, f' 24, f' 25, f' 26, f' 27, f' 28, f' 29, f' 30, f' 31, f' 32, f' 33, f' 34, f' 35, f' 36, f' 37, f' 38, f' 39, f' 40, f' 41, f' 42, f' 43, f' 44, f' 45, f' 46, f' 47, f' 48, f' 49, f' 50, f' 51, f' 52, f' 53, f' 54, f' 55, f' 56, f' 57, f' 58] from rfl, k4]
        have HBV : Hid (Below L w V) := hbV
        clear hbV HT1 HOP
        go_wp2_with fail
        go_ret
        exact ⟨rfl, HBV.out⟩
      refine wp_region_plan (fun _ => True) (fun i => i == 3 || i == 7 || i == 8 || i == 11 || i == 17 || i == 21 || i == 22 || i == 99) 99 (.one 0 (.one 1 (.one 2 (.one 4 (.one 5 (.one 6 (.two 3 7 (.one 7 (.one 8 (.one 9 (.one 10 (.one 11 (.one 12 (.one 13 (.one 14 (.one 15 (.one 16 (.one 18 (.one 19 (.one 20 (.two 17 21 (.one 21 (.one 22 (.one 23 (.one 24 (.done))))) (.one 17 (.one 22 (.one 23 (.one 24 (.done))))))))))))))))))) (.one 3 (.one 8 (.one 9 (.one 10 (.one 11 (.one 12 (.one 13 (.one 14 (.one 15 (.one 16 (.one 18 (.one 19 (.one 20 (.two 17 21 (.one 21 (.one 22 (.one 23 (.one 24 (.done))))) (.one 17 (.one 22 (.one 23 (.one 24 (.done)))))))))))))))))))))))))) (by kernel_rfl) rfl (by kernel_rfl) (by kernel_rfl) rfl (by kernel_rfl) ?_
      refine withFrG (N := 59) rfl ?_
      intro a0 f0 F0 hff
      have hs5 : f0 5 = Value.pointer (some ⟨kb, 0, none⟩) := hff 5
      clear hff
      have hd1 : World.cell? ({ wr with drawn := wr.drawn + 1 } : World) ⟨kb, 1, none⟩ = some (.pointer (some ⟨jb, 0, none⟩)) := d1
      have hd6 : World.cell? ({ wr with drawn := wr.drawn + 1 } : World) ⟨kb, 6, none⟩ = some (.slice ho hln hc) := d6
      refine py (k := 0) rfl F0 rfl trivial rfl (by omega) (wanted_none rfl) (v := Value.pointer (some ⟨kb, 0, none⟩)) (fun wr hwr => by simp only [execOp, (F0.eval 5 (by omega)).trans (show _ = Value.pointer (some ⟨kb, 0, none⟩) from by simp [upd, hs5])]; first | rfl | simp [go_sem]) fun a1 F1 => ?_
      refine py (k := 1) rfl F1 rfl trivial rfl (by omega) (wanted_none rfl) (v := Value.pointer (some ⟨kb, 0, none⟩)) (fun wr hwr => by simp only [execOp, (F1.eval 35 (by omega)).trans (show _ = Value.pointer (some ⟨kb, 0, none⟩) from by simp [upd, hs5])]; simp [go_sem]) fun a2 F2 => ?_
      refine py (k := 2) rfl F2 rfl trivial rfl (by omega) (wanted_none rfl) (v := Value.pointer (some ⟨kb, 1, none⟩)) (fun wr hwr => by simp only [execOp, (F2.eval 36 (by omega)).trans (show _ = Value.pointer (some ⟨kb, 0, none⟩) from by simp [upd, hs5])]; simp [go_sem]) fun a3 F3 => ?_
      refine py (k := 4) rfl F3 rfl trivial rfl (by omega) (wanted_none rfl) (v := Value.pointer (some ⟨kb, 0, none⟩)) (fun wr hwr => by simp only [execOp, (F3.eval 5 (by omega)).trans (show _ = Value.pointer (some ⟨kb, 0, none⟩) from by simp [upd, hs5])]; first | rfl | simp [go_sem]) fun a4 F4 => ?_
      refine py (k := 5) rfl F4 rfl trivial rfl (by omega) (wanted_none rfl) (v := Value.pointer (some ⟨kb, 0, none⟩)) (fun wr hwr => by simp only [execOp, (F4.eval 39 (by omega)).trans (show _ = Value.pointer (some ⟨kb, 0, none⟩) from by simp [upd, hs5])]; simp [go_sem]) fun a5 F5 => ?_
      refine py (k := 6) rfl F5 rfl trivial rfl (by omega) (wanted_none rfl) (v := Value.pointer (some ⟨kb, 6, none⟩)) (fun wr hwr => by simp only [execOp, (F5.eval 40 (by omega)).trans (show _ = Value.pointer (some ⟨kb, 0, none⟩) from by simp [upd, hs5])]; simp [go_sem]) fun a6 F6 => ?_
      refine pfork trivial ?_ ?_
      · refine pe' (k := 3) rfl F6 rfl rfl (by omega) (wanted_none rfl) (v := Value.pointer (some ⟨jb, 0, none⟩)) (w1 := ({ wr with drawn := wr.drawn + 1 } : World)) (by simp only [execOp, (F6.eval 37 (by omega)).trans (show _ = Value.pointer (some ⟨kb, 1, none⟩) from by simp [upd, hs5])]; simp [go_sem, d1]) fun aA1 FA1 => ?_
        refine pe (k := 7) rfl FA1 rfl trivial rfl (by omega) (wanted_none rfl) (v := Value.slice ho hln hc) (w1 := ({ wr with drawn := wr.drawn + 1 } : World)) (by simp only [execOp, (FA1.eval 41 (by omega)).trans (show _ = Value.pointer (some ⟨kb, 6, none⟩) from by simp [upd, hs5])]; simp [go_sem, d6]) fun aA2 FA2 => ?_
        refine pc (k := 8) rfl FA2 rfl trivial rfl (by omega) (wanted_none rfl) (g := 19) (args := #[Value.pointer (some ⟨jb, 0, none⟩), Value.slice ho hln hc]) (by simp only [execOp, resolve, invoke, List.map_toArray, List.map_cons, List.map_nil, (FA2.eval 38 (by omega)).trans (show _ = Value.pointer (some ⟨jb, 0, none⟩) from by simp [upd, hs5]), (FA2.eval 42 (by omega)).trans (show _ = Value.slice ho hln hc from by simp [upd, hs5])]; simp [go_sem, Act.eval]) (HT1.out _ (below_dr (Below.refl _ _) 1 : Below wr.heap.size wr (wr.drewN 1))) ?_
        rintro e9 wA ⟨rfl, hT⟩
        refine ⟨_, rfl, fun aA3 FA3 => ?_⟩
        refine py (k := 9) rfl FA3 rfl trivial rfl (by omega) (wanted_none rfl) (v := Value.bool true) (fun wr hwr => by simp only [execOp, (FA3.eval 43 (by omega)).trans (show _ = Value.bool true from by simp [upd, hs5])]; first | rfl | simp [go_sem]) fun aA4 FA4 => ?_
        refine py (k := 10) rfl FA4 rfl trivial rfl (by omega) (want_yes FA4 rfl (e := 44) rfl (by omega) (show _ = Value.bool true from by simp [upd, hs5])) (v := Value.pointer (some ⟨kb, 0, none⟩)) (fun wr hwr => by simp only [execOp, (FA4.eval 5 (by omega)).trans (show _ = Value.pointer (some ⟨kb, 0, none⟩) from by simp [upd, hs5])]; first | rfl | simp [go_sem]) fun aA5 FA5 => ?_
        refine pc (k := 11) rfl FA5 rfl trivial rfl (by omega) (want_yes FA5 rfl (e := 44) rfl (by omega) (show _ = Value.bool true from by simp [upd, hs5])) (g := 30) (args := #[Value.pointer (some ⟨kb, 0, none⟩)]) (by simp only [execOp, resolve, invoke, List.map_toArray, List.map_cons, List.map_nil, (FA5.eval 45 (by omega)).trans (show _ = Value.pointer (some ⟨kb, 0, none⟩) from by simp [upd, hs5])]; simp [go_sem, Act.eval]) (HOP.out _ hT) ?_
        rintro e9 wB ⟨rfl, jb', ho', n', hc', hB7, hT2⟩
        obtain ⟨q1, q6, hT3⟩ := hT2 wB (Below.refl _ _)
        refine ⟨_, rfl, fun aA6 FA6 => ?_⟩
        refine py (k := 12) rfl FA6 rfl trivial rfl (by omega) (wanted_none rfl) (v := Value.bool true) (fun wr hwr => by simp only [execOp, (FA6.eval 44 (by omega)).trans (show _ = Value.bool true from by simp [upd, hs5]), (FA6.eval 46 (by omega)).trans (show _ = Value.bool true from by simp [upd, hs5])]; simp [go_sem, Act.eval]) fun aA7 FA7 => ?_
        refine py (k := 13) rfl FA7 rfl trivial rfl (by omega) (wanted_none rfl) (v := Value.bool true) (fun wr hwr => by simp only [execOp, (FA7.eval 47 (by omega)).trans (show _ = Value.bool true from by simp [upd, hs5])]; first | rfl | simp [go_sem]) fun aA8 FA8 => ?_
        refine py (k := 14) rfl FA8 rfl trivial rfl (by omega) (want_yes FA8 rfl (e := 48) rfl (by omega) (show _ = Value.bool true from by simp [upd, hs5])) (v := Value.pointer (some ⟨kb, 0, none⟩)) (fun wr hwr => by simp only [execOp, (FA8.eval 5 (by omega)).trans (show _ = Value.pointer (some ⟨kb, 0, none⟩) from by simp [upd, hs5])]; first | rfl | simp [go_sem]) fun aA9 FA9 => ?_
        refine py (k := 15) rfl FA9 rfl trivial rfl (by omega) (want_yes FA9 rfl (e := 48) rfl (by omega) (show _ = Value.bool true from by simp [upd, hs5])) (v := Value.pointer (some ⟨kb, 0, none⟩)) (fun wr hwr => by simp only [execOp, (FA9.eval 49 (by omega)).trans (show _ = Value.pointer (some ⟨kb, 0, none⟩) from by simp [upd, hs5])]; simp [go_sem]) fun aA10 FA10 => ?_
        refine py (k := 16) rfl FA10 rfl trivial rfl (by omega) (want_yes FA10 rfl (e := 48) rfl (by omega) (show _ = Value.bool true from by simp [upd, hs5])) (v := Value.pointer (some ⟨kb, 1, none⟩)) (fun wr hwr => by simp only [execOp, (FA10.eval 50 (by omega)).trans (show _ = Value.pointer (some ⟨kb, 0, none⟩) from by simp [upd, hs5])]; simp [go_sem]) fun aA11 FA11 => ?_
        refine py (k := 18) rfl FA11 rfl trivial rfl (by omega) (want_yes FA11 rfl (e := 48) rfl (by omega) (show _ = Value.bool true from by simp [upd, hs5])) (v := Value.pointer (some ⟨kb, 0, none⟩)) (fun wr hwr => by simp only [execOp, (FA11.eval 5 (by omega)).trans (show _ = Value.pointer (some ⟨kb, 0, none⟩) from by simp [upd, hs5])]; first | rfl | simp [go_sem]) fun aA12 FA12 => ?_
        refine py (k := 19) rfl FA12 rfl trivial rfl (by omega) (want_yes FA12 rfl (e := 48) rfl (by omega) (show _ = Value.bool true from by simp [upd, hs5])) (v := Value.pointer (some ⟨kb, 0, none⟩)) (fun wr hwr => by simp only [execOp, (FA12.eval 53 (by omega)).trans (show _ = Value.pointer (some ⟨kb, 0, none⟩) from by simp [upd, hs5])]; simp [go_sem]) fun aA13 FA13 => ?_
        refine py (k := 20) rfl FA13 rfl trivial rfl (by omega) (want_yes FA13 rfl (e := 48) rfl (by omega) (show _ = Value.bool true from by simp [upd, hs5])) (v := Value.pointer (some ⟨kb, 6, none⟩)) (fun wr hwr => by simp only [execOp, (FA13.eval 54 (by omega)).trans (show _ = Value.pointer (some ⟨kb, 0, none⟩) from by simp [upd, hs5])]; simp [go_sem]) fun aA14 FA14 => ?_
        refine pfork trivial ?_ ?_
        · refine pe' (k := 17) rfl FA14 rfl rfl (by omega) (want_yes FA14 rfl (e := 48) rfl (by omega) (show _ = Value.bool true from by simp [upd, hs5])) (v := Value.pointer (some ⟨jb', 0, none⟩)) (w1 := wB) (by simp only [execOp, (FA14.eval 51 (by omega)).trans (show _ = Value.pointer (some ⟨kb, 1, none⟩) from by simp [upd, hs5])]; simp [go_sem, q1]) fun aAp1 FAp1 => ?_
          refine pe (k := 21) rfl FAp1 rfl trivial rfl (by omega) (want_yes FAp1 rfl (e := 48) rfl (by omega) (show _ = Value.bool true from by simp [upd, hs5])) (v := Value.slice ho' n' hc') (w1 := wB) (by simp only [execOp, (FAp1.eval 55 (by omega)).trans (show _ = Value.pointer (some ⟨kb, 6, none⟩) from by simp [upd, hs5])]; simp [go_sem, q6]) fun aAp2 FAp2 => ?_
          refine pc (k := 22) rfl FAp2 rfl trivial rfl (by omega) (want_yes FAp2 rfl (e := 48) rfl (by omega) (show _ = Value.bool true from by simp [upd, hs5])) (g := 19) (args := #[Value.pointer (some ⟨jb', 0, none⟩), Value.slice ho' n' hc']) (by simp only [execOp, resolve, invoke, List.map_toArray, List.map_cons, List.map_nil, (FAp2.eval 52 (by omega)).trans (show _ = Value.pointer (some ⟨jb', 0, none⟩) from by simp [upd, hs5]), (FAp2.eval 56 (by omega)).trans (show _ = Value.slice ho' n' hc' from by simp [upd, hs5])]; simp [go_sem, Act.eval]) hT3 ?_
          rintro e9 w8 ⟨rfl, hB8⟩
          refine ⟨_, rfl, fun aAp3 FAp3 => ?_⟩
          refine py (k := 23) rfl FAp3 rfl trivial rfl (by omega) (wanted_none rfl) (v := Value.bool true) (fun wr hwr => by simp only [execOp, (FAp3.eval 48 (by omega)).trans (show _ = Value.bool true from by simp [upd, hs5]), (FAp3.eval 57 (by omega)).trans (show _ = Value.bool true from by simp [upd, hs5])]; simp [go_sem, Act.eval]) fun aAp4 FAp4 => ?_
          refine py (k := 24) rfl FAp4 rfl trivial rfl (by omega) (wanted_none rfl) (v := Value.bool true) (fun wr hwr => by simp only [execOp, (FAp4.eval 58 (by omega)).trans (show _ = Value.bool true from by simp [upd, hs5])]; first | rfl | simp [go_sem]) fun aAp5 FAp5 => ?_
          refine pdone (fun _ => trivial) ?_
          exact hrest _ _ _ FAp5 (show _ = Value.bool true from by simp [upd]) hB8
        · refine pe' (k := 21) rfl FA14 rfl rfl (by omega) (want_yes FA14 rfl (e := 48) rfl (by omega) (show _ = Value.bool true from by simp [upd, hs5])) (v := Value.slice ho' n' hc') (w1 := wB) (by simp only [execOp, (FA14.eval 55 (by omega)).trans (show _ = Value.pointer (some ⟨kb, 6, none⟩) from by simp [upd, hs5])]; simp [go_sem, q6]) fun aAq1 FAq1 => ?_
          refine pe (k := 17) rfl FAq1 rfl trivial rfl (by omega) (want_yes FAq1 rfl (e := 48) rfl (by omega) (show _ = Value.bool true from by simp [upd, hs5])) (v := Value.pointer (some ⟨jb', 0, none⟩)) (w1 := wB) (by simp only [execOp, (FAq1.eval 51 (by omega)).trans (show _ = Value.pointer (some ⟨kb, 1, none⟩) from by simp [upd, hs5])]; simp [go_sem, q1]) fun aAq2 FAq2 => ?_
          refine pc (k := 22) rfl FAq2 rfl trivial rfl (by omega) (want_yes FAq2 rfl (e := 48) rfl (by omega) (show _ = Value.bool true from by simp [upd, hs5])) (g := 19) (args := #[Value.pointer (some ⟨jb', 0, none⟩), Value.slice ho' n' hc']) (by simp only [execOp, resolve, invoke, List.map_toArray, List.map_cons, List.map_nil, (FAq2.eval 52 (by omega)).trans (show _ = Value.pointer (some ⟨jb', 0, none⟩) from by simp [upd, hs5]), (FAq2.eval 56 (by omega)).trans (show _ = Value.slice ho' n' hc' from by simp [upd, hs5])]; simp [go_sem, Act.eval]) hT3 ?_
          rintro e9 w8 ⟨rfl, hB8⟩
          refine ⟨_, rfl, fun aAq3 FAq3 => ?_⟩
          refine py (k := 23) rfl FAq3 rfl trivial rfl (by omega) (wanted_none rfl) (v := Value.bool true) (fun wr hwr => by simp only [execOp, (FAq3.eval 48 (by omega)).trans (show _ = Value.bool true from by simp [upd, hs5]), (FAq3.eval 57 (by omega)).trans (show _ = Value.bool true from by simp [upd, hs5])]; simp [go_sem, Act.eval]) fun aAq4 FAq4 => ?_
          refine py (k := 24) rfl FAq4 rfl trivial rfl (by omega) (wanted_none rfl) (v := Value.bool true) (fun wr hwr => by simp only [execOp, (FAq4.eval 58 (by omega)).trans (show _ = Value.bool true from by simp [upd, hs5])]; first | rfl | simp [go_sem]) fun aAq5 FAq5 => ?_
          refine pdone (fun _ => trivial) ?_
          exact hrest _ _ _ FAq5 (show _ = Value.bool true from by simp [upd]) hB8
      · refine pe' (k := 7) rfl F6 rfl rfl (by omega) (wanted_none rfl) (v := Value.slice ho hln hc) (w1 := ({ wr with drawn := wr.drawn + 1 } : World)) (by simp only [execOp, (F6.eval 41 (by omega)).trans (show _ = Value.pointer (some ⟨kb, 6, none⟩) from by simp [upd, hs5])]; simp [go_sem, d6]) fun aB1 FB1 => ?_
        refine pe (k := 3) rfl FB1 rfl trivial rfl (by omega) (wanted_none rfl) (v := Value.pointer (some ⟨jb, 0, none⟩)) (w1 := ({ wr with drawn := wr.drawn + 1 } : World)) (by simp only [execOp, (FB1.eval 37 (by omega)).trans (show _ = Value.pointer (some ⟨kb, 1, none⟩) from by simp [upd, hs5])]; simp [go_sem, d1]) fun aB2 FB2 => ?_
        refine pc (k := 8) rfl FB2 rfl trivial rfl (by omega) (wanted_none rfl) (g := 19) (args := #[Value.pointer (some ⟨jb, 0, none⟩), Value.slice ho hln hc]) (by simp only [execOp, resolve, invoke, List.map_toArray, List.map_cons, List.map_nil, (FB2.eval 38 (by omega)).trans (show _ = Value.pointer (some ⟨jb, 0, none⟩) from by simp [upd, hs5]), (FB2.eval 42 (by omega)).trans (show _ = Value.slice ho hln hc from by simp [upd, hs5])]; simp [go_sem, Act.eval]) (HT1.out _ (below_dr (Below.refl _ _) 1 : Below wr.heap.size wr (wr.drewN 1))) ?_
        rintro e9 wA ⟨rfl, hT⟩
        refine ⟨_, rfl, fun aB3 FB3 => ?_⟩
        refine py (k := 9) rfl FB3 rfl trivial rfl (by omega) (wanted_none rfl) (v := Value.bool true) (fun wr hwr => by simp only [execOp, (FB3.eval 43 (by omega)).trans (show _ = Value.bool true from by simp [upd, hs5])]; first | rfl | simp [go_sem]) fun aB4 FB4 => ?_
        refine py (k := 10) rfl FB4 rfl trivial rfl (by omega) (want_yes FB4 rfl (e := 44) rfl (by omega) (show _ = Value.bool true from by simp [upd, hs5])) (v := Value.pointer (some ⟨kb, 0, none⟩)) (fun wr hwr => by simp only [execOp, (FB4.eval 5 (by omega)).trans (show _ = Value.pointer (some ⟨kb, 0, none⟩) from by simp [upd, hs5])]; first | rfl | simp [go_sem]) fun aB5 FB5 => ?_
        refine pc (k := 11) rfl FB5 rfl trivial rfl (by omega) (want_yes FB5 rfl (e := 44) rfl (by omega) (show _ = Value.bool true from by simp [upd, hs5])) (g := 30) (args := #[Value.pointer (some ⟨kb, 0, none⟩)]) (by simp only [execOp, resolve, invoke, List.map_toArray, List.map_cons, List.map_nil, (FB5.eval 45 (by omega)).trans (show _ = Value.pointer (some ⟨kb, 0, none⟩) from by simp [upd, hs5])]; simp [go_sem, Act.eval]) (HOP.out _ hT) ?_
        rintro e9 wB ⟨rfl, jb', ho', n', hc', hB7, hT2⟩
        obtain ⟨q1, q6, hT3⟩ := hT2 wB (Below.refl _ _)
        refine ⟨_, rfl, fun aB6 FB6 => ?_⟩
        refine py (k := 12) rfl FB6 rfl trivial rfl (by omega) (wanted_none rfl) (v := Value.bool true) (fun wr hwr => by simp only [execOp, (FB6.eval 44 (by omega)).trans (show _ = Value.bool true from by simp [upd, hs5]), (FB6.eval 46 (by omega)).trans (show _ = Value.bool true from by simp [upd, hs5])]; simp [go_sem, Act.eval]) fun aB7 FB7 => ?_
        refine py (k := 13) rfl FB7 rfl trivial rfl (by omega) (wanted_none rfl) (v := Value.bool true) (fun wr hwr => by simp only [execOp, (FB7.eval 47 (by omega)).trans (show _ = Value.bool true from by simp [upd, hs5])]; first | rfl | simp [go_sem]) fun aB8 FB8 => ?_
        refine py (k := 14) rfl FB8 rfl trivial rfl (by omega) (want_yes FB8 rfl (e := 48) rfl (by omega) (show _ = Value.bool true from by simp [upd, hs5])) (v := Value.pointer (some ⟨kb, 0, none⟩)) (fun wr hwr => by simp only [execOp, (FB8.eval 5 (by omega)).trans (show _ = Value.pointer (some ⟨kb, 0, none⟩) from by simp [upd, hs5])]; first | rfl | simp [go_sem]) fun aB9 FB9 => ?_
        refine py (k := 15) rfl FB9 rfl trivial rfl (by omega) (want_yes FB9 rfl (e := 48) rfl (by omega) (show _ = Value.bool true from by simp [upd, hs5])) (v := Value.pointer (some ⟨kb, 0, none⟩)) (fun wr hwr => by simp only [execOp, (FB9.eval 49 (by omega)).trans (show _ = Value.pointer (some ⟨kb, 0, none⟩) from by simp [upd, hs5])]; simp [go_sem]) fun aB10 FB10 => ?_
        refine py (k := 16) rfl FB10 rfl trivial rfl (by omega) (want_yes FB10 rfl (e := 48) rfl (by omega) (show _ = Value.bool true from by simp [upd, hs5])) (v := Value.pointer (some ⟨kb, 1, none⟩)) (fun wr hwr => by simp only [execOp, (FB10.eval 50 (by omega)).trans (show _ = Value.pointer (some ⟨kb, 0, none⟩) from by simp [upd, hs5])]; simp [go_sem]) fun aB11 FB11 => ?_
        refine py (k := 18) rfl FB11 rfl trivial rfl (by omega) (want_yes FB11 rfl (e := 48) rfl (by omega) (show _ = Value.bool true from by simp [upd, hs5])) (v := Value.pointer (some ⟨kb, 0, none⟩)) (fun wr hwr => by simp only [execOp, (FB11.eval 5 (by omega)).trans (show _ = Value.pointer (some ⟨kb, 0, none⟩) from by simp [upd, hs5])]; first | rfl | simp [go_sem]) fun aB12 FB12 => ?_
        refine py (k := 19) rfl FB12 rfl trivial rfl (by omega) (want_yes FB12 rfl (e := 48) rfl (by omega) (show _ = Value.bool true from by simp [upd, hs5])) (v := Value.pointer (some ⟨kb, 0, none⟩)) (fun wr hwr => by simp only [execOp, (FB12.eval 53 (by omega)).trans (show _ = Value.pointer (some ⟨kb, 0, none⟩) from by simp [upd, hs5])]; simp [go_sem]) fun aB13 FB13 => ?_
        refine py (k := 20) rfl FB13 rfl trivial rfl (by omega) (want_yes FB13 rfl (e := 48) rfl (by omega) (show _ = Value.bool true from by simp [upd, hs5])) (v := Value.pointer (some ⟨kb, 6, none⟩)) (fun wr hwr => by simp only [execOp, (FB13.eval 54 (by omega)).trans (show _ = Value.pointer (some ⟨kb, 0, none⟩) from by simp [upd, hs5])]; simp [go_sem]) fun aB14 FB14 => ?_
        refine pfork trivial ?_ ?_
        · refine pe' (k := 17) rfl FB14 rfl rfl (by omega) (want_yes FB14 rfl (e := 48) rfl (by omega) (show _ = Value.bool true from by simp [upd, hs5])) (v := Value.pointer (some ⟨jb', 0, none⟩)) (w1 := wB) (by simp only [execOp, (FB14.eval 51 (by omega)).trans (show _ = Value.pointer (some ⟨kb, 1, none⟩) from by simp [upd, hs5])]; simp [go_sem, q1]) fun aBp1 FBp1 => ?_
          refine pe (k := 21) rfl FBp1 rfl trivial rfl (by omega) (want_yes FBp1 rfl (e := 48) rfl (by omega) (show _ = Value.bool true from by simp [upd, hs5])) (v := Value.slice ho' n' hc') (w1 := wB) (by simp only [execOp, (FBp1.eval 55 (by omega)).trans (show _ = Value.pointer (some ⟨kb, 6, none⟩) from by simp [upd, hs5])]; simp [go_sem, q6]) fun aBp2 FBp2 => ?_
          refine pc (k := 22) rfl FBp2 rfl trivial rfl (by omega) (want_yes FBp2 rfl (e := 48) rfl (by omega) (show _ = Value.bool true from by simp [upd, hs5])) (g := 19) (args := #[Value.pointer (some ⟨jb', 0, none⟩), Value.slice ho' n' hc']) (by simp only [execOp, resolve, invoke, List.map_toArray, List.map_cons, List.map_nil, (FBp2.eval 52 (by omega)).trans (show _ = Value.pointer (some ⟨jb', 0, none⟩) from by simp [upd, hs5]), (FBp2.eval 56 (by omega)).trans (show _ = Value.slice ho' n' hc' from by simp [upd, hs5])]; simp [go_sem, Act.eval]) hT3 ?_
          rintro e9 w8 ⟨rfl, hB8⟩
          refine ⟨_, rfl, fun aBp3 FBp3 => ?_⟩
          refine py (k := 23) rfl FBp3 rfl trivial rfl (by omega) (wanted_none rfl) (v := Value.bool true) (fun wr hwr => by simp only [execOp, (FBp3.eval 48 (by omega)).trans (show _ = Value.bool true from by simp [upd, hs5]), (FBp3.eval 57 (by omega)).trans (show _ = Value.bool true from by simp [upd, hs5])]; simp [go_sem, Act.eval]) fun aBp4 FBp4 => ?_
          refine py (k := 24) rfl FBp4 rfl trivial rfl (by omega) (wanted_none rfl) (v := Value.bool true) (fun wr hwr => by simp only [execOp, (FBp4.eval 58 (by omega)).trans (show _ = Value.bool true from by simp [upd, hs5])]; first | rfl | simp [go_sem]) fun aBp5 FBp5 => ?_
          refine pdone (fun _ => trivial) ?_
          exact hrest _ _ _ FBp5 (show _ = Value.bool true from by simp [upd]) hB8
        · refine pe' (k := 21) rfl FB14 rfl rfl (by omega) (want_yes FB14 rfl (e := 48) rfl (by omega) (show _ = Value.bool true from by simp [upd, hs5])) (v := Value.slice ho' n' hc') (w1 := wB) (by simp only [execOp, (FB14.eval 55 (by omega)).trans (show _ = Value.pointer (some ⟨kb, 6, none⟩) from by simp [upd, hs5])]; simp [go_sem, q6]) fun aBq1 FBq1 => ?_
          refine pe (k := 17) rfl FBq1 rfl trivial rfl (by omega) (want_yes FBq1 rfl (e := 48) rfl (by omega) (show _ = Value.bool true from by simp [upd, hs5])) (v := Value.pointer (some ⟨jb', 0, none⟩)) (w1 := wB) (by simp only [execOp, (FBq1.eval 51 (by omega)).trans (show _ = Value.pointer (some ⟨kb, 1, none⟩) from by simp [upd, hs5])]; simp [go_sem, q1]) fun aBq2 FBq2 => ?_
          refine pc (k := 22) rfl FBq2 rfl trivial rfl (by omega) (want_yes FBq2 rfl (e := 48) rfl (by omega) (show _ = Value.bool true from by simp [upd, hs5])) (g := 19) (args := #[Value.pointer (some ⟨jb', 0, none⟩), Value.slice ho' n' hc']) (by simp only [execOp, resolve, invoke, List.map_toArray, List.map_cons, List.map_nil, (FBq2.eval 52 (by omega)).trans (show _ = Value.pointer (some ⟨jb', 0, none⟩) from by simp [upd, hs5]), (FBq2.eval 56 (by omega)).trans (show _ = Value.slice ho' n' hc' from by simp [upd, hs5])]; simp [go_sem, Act.eval]) hT3 ?_
          rintro e9 w8 ⟨rfl, hB8⟩
          refine ⟨_, rfl, fun aBq3 FBq3 => ?_⟩
          refine py (k := 23) rfl FBq3 rfl trivial rfl (by omega) (wanted_none rfl) (v := Value.bool true) (fun wr hwr => by simp only [execOp, (FBq3.eval 48 (by omega)).trans (show _ = Value.bool true from by simp [upd, hs5]), (FBq3.eval 57 (by omega)).trans (show _ = Value.bool true from by simp [upd, hs5])]; simp [go_sem, Act.eval]) fun aBq4 FBq4 => ?_
          refine py (k := 24) rfl FBq4 rfl trivial rfl (by omega) (wanted_none rfl) (v := Value.bool true) (fun wr hwr => by simp only [execOp, (FBq4.eval 58 (by omega)).trans (show _ = Value.bool true from by simp [upd, hs5])]; first | rfl | simp [go_sem]) fun aBq5 FBq5 => ?_
          refine pdone (fun _ => trivial) ?_
          exact hrest _ _ _ FBq5 (show _ = Value.bool true from by simp [upd]) hB8
end Go.Proofs.Ytjpdcahodmomgaa

namespace Go.Proofs.Ytjpdcahodmomgaa.journalAppends
open Go.ChangeShapes Go.WideShapes Go.ChangeAt Go.RowKit Go.WideMaps Go.WideElems

set_option maxRecDepth 100000 in
set_option maxHeartbeats 1600000 in
theorem contract (H : Type) (enc : TypeId × Value → H) (W : World) (base : Nat) (args : Array Value) (ds gs : List (DataW H)) (before : List MemPlace)
    (hval : ∀ (j : Nat) t v, Try.f8.params[j]? = some t → args[j]? = some v → Value.okWide Try.prog W .any base t v)
    (hW : DataW.Whole enc Try.prog Try.f8.params.toList Rows.journalAppendsSpec.vars false W args.toList ds gs before)
    (hsz : (DataW.weightsEach Try.prog (Try.f8.params.toList ++ Rows.journalAppendsSpec.plain.varTypes Try.prog) (ds ++ gs)).all (· ≤ reachBytes) = true) :
    Calls Try.prog 8 args W fun e W' => ∃ v, e = .returned v ∧ Rows.journalAppendsSpec.post enc Try.prog Try.f8 false true false false W args v W' := by
  have hW' := hW
  obtain ⟨p, q, hA0, hV, rfl, hfz, hnd⟩ := hW
  have hA : DataW.TrodAll enc Try.prog W 0 (fun _ => true) true Try.f8.params.toList args.toList ds p := hA0
  rw [Try.params8] at hA hval
  obtain ⟨v0, vs0, d0, ds0, p0, q0, hargs, rfl, rfl, h0, r0⟩ := trodAll_cons hA
  obtain ⟨v1, vs1, d1, ds1, p1, q1, rfl, rfl, rfl, h1, r1⟩ := trodAll_cons r0
  obtain ⟨rfl, rfl, rfl⟩ := trodAll_nil r1
  obtain rfl : args = #[v0, v1] := by cases args; simp_all
  obtain ⟨rfl, rfl⟩ := trodVars_none hV
  clear hA0 r0 r1 hA
  obtain ⟨z0, rfl, rfl, rfl, w0⟩ := open_int Try.underlying3 (hval 0 3 v0 rfl rfl) h0
  have hlt1 : ∀ x ∈ p1, x.block < W.heap.size := fun x hx => hW'.lt x (by simp [hx])
  have hw1 : ∀ n ∈ d1.weights Try.prog 30, n ≤ reachBytes := fun n hn => by
    have := List.all_eq_true.1 hsz n (DataW.weights_mem_each (j := 1) (t := 30) (d := d1) (by rw [Try.params8]; rfl) rfl n hn)
    simpa using this
  obtain ⟨ao1, N1, cap1, os1, rfl, hl1, hncx1, hcmx1, hok1, hnl1, hat1⟩ := open_rows 30 38 1 (fun d : Dv => [d.v]) (fun d : Dv => (∃ uo k uc, d.v = .slice uo k uc ∧ k ≤ uc) ∧ By W d.v d.s ∧ d.s.length ≤ reachBytes) Try.underlying30 cells30 (by decide) (fun _ => rfl) (fun _ _ _ h hw => t_bytesA h hw) (hval 1 30 v1 rfl rfl) h1 hw1
  have hcm1 := And.intro hncx1 hcmx1
  refine (jappends_law W (bounds_i64 w0) (rows_of hl1 hcm1 hok1 hat1)).mono fun e W' ⟨he, hbl⟩ => ?_
  subst he
  exact ⟨_, rfl, _, _, _, [], _, [], hW', trodAll_cons_mk (shut_bool Try.underlying4 _) trodAll_mk0, trodAll_cons_mk (shut_int Try.underlying3 w0) (trodAll_cons_mk (Below.trod laidOut (by kernel_rfl) (of_decide_eq_true (by kernel_rfl)) h1 hbl hlt1) trodAll_mk0), rfl, hbl.frame _, fun h => by cases h⟩

set_option maxRecDepth 100000 in
theorem lifted (os : Os) (started : os.Started) (H : Type) (enc : TypeId × Value → H) :
    ReturnsInHanded {} Try.checked os 8 .any (Rows.journalAppendsSpec.pre6 enc Try.prog Try.f8 Rows.journalAppendsRow.domain false) (Rows.journalAppendsSpec.post enc Try.prog Try.f8 false true false false) := by
  refine returnsInHanded_of_change_sized (C := Try.checked) (s := Rows.journalAppendsSpec) own started (by kernel_rfl) Try.func8
    (ChangeSpec.witness6 (enc := enc) (C := Try.checked) (s := Rows.journalAppendsSpec) false ⟨#[], #[.int .i64 0, .slice none 0 0], []⟩ 8 (by kernel_rfl) (by kernel_rfl) (by kernel_rfl) (by kernel_rfl)) ?_
  intro W base args ds gs before hval hW _ hsz _
  exact contract H enc W base args ds gs before hval hW hsz

theorem said : Rows.JournalAppendsSaid :=
  OpenClaim.holds_of_wide 8 Try.f8 rfl rfl rfl rfl rfl rfl rfl ⟨rfl, rfl, rfl, rfl, rfl⟩ rfl rfl rfl rfl rfl (by kernel_rfl) Try.func8 (by kernel_rfl)
    (of_decide_eq_true (by kernel_rfl)) (by unfold Func.isWrapper; first | (rw [if_pos (by decide +kernel)]; kernel_rfl) | (rw [if_neg (by decide +kernel)]; exact ⟨rfl, rfl⟩))
    (fun os started H enc _ => lifted os started H enc)
end Go.Proofs.Ytjpdcahodmomgaa.journalAppends

namespace Go.Proofs.Ytjpdcahodmomgaa
theorem journalAppends_said : Rows.JournalAppendsSaid := journalAppends.said
end Go.Proofs.Ytjpdcahodmomgaa
