import Derived.Test.YtifgmefdlmjocaaJoinA
import Derived.Test.YtifgmefdlmjocaaPlan
import Derived.Test.YtifgmefdlmjocaaBg
namespace Go.Proofs.Ytifgmefdlmjocaa
open Go.RowKit Go.PlainAid Go.MapKept
set_option linter.unusedVariables false
set_option linter.unusedSimpArgs false
theorem info41s : (Try.prog.info? 41).map (·.size) = some 2 := by kernel_rfl
theorem zero41 (w : World) : (zeroValue 41).run Try.prog w = .ok (.agg #[.int .i64 0, .slice none 0 0]) w := by kernel_rfl
theorem set2_below {L : Nat} {W0 W : World} {bx : Nat} (h : Below L W0 W) (hl : L ≤ bx) (v0 v1 : Value) : Below L W0 ((W.setCell ⟨bx, 0, none⟩ v0).setCell ⟨bx, 1, none⟩ v1) := by
  have s1 : ∀ (W : World) (j : Nat) (v : Value), Below L W0 W → Below L W0 (W.setCell ⟨bx, j, none⟩ v) := fun W j v h => h.trans ⟨rfl, rfl, rfl, by simp [World.setCell], fun k hk => Below.heap_setCell _ _ _ _ (Nat.ne_of_lt (Nat.lt_of_lt_of_le hk hl))⟩
  exact s1 _ _ _ (s1 _ _ _ h)
theorem store2 {W : World} {bx : Nat} {c0 c1 : Value} (h : Blk W bx #[c0, c1] 41) (q : Int) (ao : Option Addr) (k c : Nat) {ev : Operand → Value} {o : Oper} {x y : Operand} (ho : o.op = .store 41 x y) (hx : ev x = .pointer (some ⟨bx, 0, none⟩)) (hy : ev y = .agg #[.int .i64 q, .slice ao k c]) : (execOp ev o).run Try.prog W = .ok .skip ((W.setCell ⟨bx, 0, none⟩ (.int .i64 q)).setCell ⟨bx, 1, none⟩ (.slice ao k c)) := by
  have f0 : World.frozen? W ⟨bx, 0, none⟩ = false := h.frozen 0
  have d0 : World.cell? W ⟨bx, 0, none⟩ = some c0 := h.cell 0
  have b1 := h.set 0 (.int .i64 q)
  have f1 : World.frozen? (W.setCell ⟨bx, 0, none⟩ (.int .i64 q)) ⟨bx, 1, none⟩ = false := b1.frozen 1
  have d1 : World.cell? (W.setCell ⟨bx, 0, none⟩ (.int .i64 q)) ⟨bx, 1, none⟩ = some c1 := b1.cell 1
  clear b1
  simp only [execOp, ho, hx, hy]
  simp [go_sem, f0, d0, f1, d1]
set_option maxRecDepth 100000 in
set_option maxHeartbeats 6400000 in
theorem step2_any {L tb vr vc n K r : Nat} {hb mb : Nat → Nat} {LV : Nat → List Ent} {hv : Nat → Value} {Hs : Nat → List Ent} {sv : Value} {ls : List LT} (kd who a nn d u h : Int) (w : World) (hS : MS L tb vr vc n K hb mb LV hv Hs sv ls w) (hn : 2 ≤ n ∧ n ≤ 8) (hK : K ≤ 1000) (hrn : r < n) (hwho : wx who (n : Int) = (r : Int)) (hkd : wx kd 3 = 2) (hkr : -9223372036854775808 ≤ kd ∧ kd ≤ 9223372036854775807) (hwr : -9223372036854775808 ≤ who ∧ who ≤ 9223372036854775807) (har : -9223372036854775808 ≤ a ∧ a ≤ 9223372036854775807) :
    Calls Try.prog 12 #[.pointer (some ⟨tb, 0, none⟩), .agg #[.int .i64 kd, .int .i64 who, .int .i64 a, .int .i64 nn, .int .i64 d, .int .i64 u, .int .i64 h]] w fun e w' => e = .returned (.bool true) ∧ ∃ LV', MS L tb vr vc n (K + 1) hb mb LV' hv Hs sv ls w' ∧ Below L w w' := by
  have hw0 : ∀ W, Calls Try.prog 10 #[.int .i64 who, .int .i64 0, .int .i64 ((n : Int) - 1)] W fun e w' => e = .returned (.int .i64 (r : Int)) ∧ w' = W := fun W => by
    have := within_any who 0 ((n : Int) - 1) W (by omega) (by omega) (by omega) (by omega) (by omega)
    rw [show (0 : Int) + wx who ((n : Int) - 1 - 0 + 1) = (r : Int) from by rw [Int.zero_add, show (n : Int) - 1 - 0 + 1 = (n : Int) from by omega]; exact hwho] at this
    exact this
  have hw2 : ∀ W, Calls Try.prog 10 #[.int .i64 kd, .int .i64 0, .int .i64 2] W fun e w' => e = .returned (.int .i64 2) ∧ w' = W := fun W => by
    have := within_any kd 0 2 W (by omega) (by omega) (by omega) (by omega) (by omega)
    rw [show (0 : Int) + wx kd (2 - 0 + 1) = 2 from by rw [Int.zero_add]; exact hkd] at this
    exact this
  have HS : Hid (MS L tb vr vc n K hb mb LV hv Hs sv ls w) := hS
  obtain ⟨X, hX⟩ : ∃ X, X = w.alloc (.cells #[.int .i64 kd, .int .i64 who, .int .i64 a, .int .i64 nn, .int .i64 d, .int .i64 u, .int .i64 h] 29) := ⟨_, rfl⟩
  have hbX : Below w.heap.size w X := by rw [hX]; exact (Below.refl _ _).alloc (Nat.le_refl _) _
  obtain ⟨sb, hsb⟩ : ∃ sb, sb = w.heap.size := ⟨_, rfl⟩
  have hBs : Blk X sb #[.int .i64 kd, .int .i64 who, .int .i64 a, .int .i64 nn, .int .i64 d, .int .i64 u, .int .i64 h] 29 := by rw [hX, hsb]; exact heap_alloc_new w _
  have HBX : Hid (Below w.heap.size w X) := hbX
  have HSX : Hid (MS L tb vr vc n K hb mb LV hv Hs sv ls X) := hS.more hbX
  have x0 : X.cell? ⟨sb, 0, none⟩ = some (.int .i64 kd) := hBs.cell 0
  have x1 : X.cell? ⟨sb, 1, none⟩ = some (.int .i64 who) := hBs.cell 1
  have x2 : X.cell? ⟨sb, 2, none⟩ = some (.int .i64 a) := hBs.cell 2
  obtain ⟨tc0, tcr, tck⟩ := hS.tg.more hbX |>.cellr hrn
  have hwn : IntKind.i64.wrap ((n : Int) - 1) = (n : Int) - 1 := by rw [IntKind.wrap_i64]; omega
  have HN : Hid (2 ≤ n ∧ n ≤ 8) := hn
  have HLS : Hid (ls.length ≤ 1000) := Nat.le_trans hS.ll hK
  obtain ⟨C, hBt, _, _, cs⟩ := HSX.out.tg.tk
  obtain ⟨sa, sc, hsv, _⟩ := own_slice HSX.out.row
  have c33 : X.cell? ⟨tb, 33, none⟩ = some sv := (hBt.cell 33).trans cs
  rw [hsv] at c33
  have HRW : Hid (X.ownsRow L 41 2 (.slice sa ls.length sc) ls.length (flatL ls)) := show X.ownsRow L 41 2 (.slice sa ls.length sc) ls.length (flatL ls) from by rw [← hsv]; exact HSX.out.row
  have HST : Hid (∃ LV', MS L tb vr vc n (K + 1) hb mb LV' hv Hs sv ls X ∧ Below L w X) := ⟨LV, HSX.out.mono, HBX.out.mono hS.low⟩
  clear hS hbX hBs hn tck tcr hwho hkd hkr hwr hsv cs hBt
  go_enter Try.func12, Try.ntmps12
  go_upto_region 1 with fail
  rw [← hX, ← hsb]
  clear hX hsb
  go_wp2_with fail
  refine (hw0 _).mono ?_
  rintro e w' ⟨rfl, hw'⟩
  replace hw' := hw'.symm
  subst hw'
  go_wp2_with fail
  refine (hw2 _).mono ?_
  rintro e w' ⟨rfl, hw'⟩
  replace hw' := hw'.symm
  subst hw'
  clear hw0 hw2
  by_cases h0 : ls.length = 0
  · rw [h0] at c33
    clear HRW
    go_wp2_with fail
    go_ret
    exact ⟨rfl, HST.out⟩
  · have hwi := wx_in a (ls.length : Int) (by omega)
    obtain ⟨j, hj⟩ : ∃ j : Nat, wx a (ls.length : Int) = j := ⟨(wx a (ls.length : Int)).toNat, by omega⟩
    have hjn : j < ls.length := by omega
    obtain ⟨y, hy⟩ : ∃ y, ls[j]? = some y := ⟨_, List.getElem?_eq_getElem hjn⟩
    have hym := List.mem_of_getElem? hy
    have HY : Hid (y ∈ ls) := hym
    obtain ⟨yl, yD, yR⟩ := HSX.out.lt y hym
    obtain ⟨ya, yc, hyv, _⟩ := own_slice yR
    have hsa : ∃ sg, sa = some ⟨sg, 0, none⟩ := by
      obtain ⟨ao2, cap2, e2, _, _, hrd⟩ := own_read HRW.out
      cases e2
      obtain ⟨g, hg, _⟩ := hrd (by omega)
      exact ⟨g, hg⟩
    obtain ⟨sg, rfl⟩ := hsa
    obtain ⟨q0, q1⟩ := flatL_get ls j y hy
    have j0c : X.cell? ⟨sg, j * 2, none⟩ = some (.int .i64 (y.1 : Int)) := by
      obtain ⟨ao2, cap2, e2, _, _, hrd⟩ := own_read HRW.out
      cases e2
      obtain ⟨g, hg, _, _, hc⟩ := hrd (by omega)
      cases hg
      exact hc _ _ q0
    have j1c : X.cell? ⟨sg, j * 2 + 1, none⟩ = some (.slice ya y.2.2.length yc) := by
      obtain ⟨ao2, cap2, e2, _, _, hrd⟩ := own_read HRW.out
      cases e2
      obtain ⟨g, hg, _, _, hc⟩ := hrd (by omega)
      cases hg
      rw [← hyv]
      exact hc _ _ q1
    obtain ⟨lm, hlm⟩ : ∃ lm, ls.length = lm + 1 := ⟨ls.length - 1, by omega⟩
    have hlm1 : lm ≤ 1000 := by have := HLS.out; omega
    have hwa : ∀ W, Calls Try.prog 10 #[.int .i64 a, .int .i64 0, .int .i64 (lm : Nat)] W fun e w' => e = .returned (.int .i64 (j : Int)) ∧ w' = W := fun W => by
      have := within_any a 0 (lm : Int) W (by omega) (by omega) (by omega) (by omega) (by omega)
      rw [show (0 : Int) + wx a ((lm : Int) - 0 + 1) = (j : Int) from by rw [Int.zero_add, show (lm : Int) - 0 + 1 = (ls.length : Int) from by omega]; exact hj] at this
      exact this
    have HYR : Hid (X.ownsRow L 46 7 (.slice ya y.2.2.length yc) y.2.2.length (flatV y.2.2)) := show X.ownsRow L 46 7 (.slice ya y.2.2.length yc) y.2.2.length (flatV y.2.2) from by rw [← hyv]; exact yR
    have HYD : Hid (DgM Hs y.1 y.2.2) := yD
    have hyl : y.1 < n := yl
    rw [hlm] at c33
    have hjl : j < lm + 1 := by omega
    clear hwi hj hym yR yD yl hyv hy q0 q1 HRW h0 hjn hlm x0 x1
    go_wp2_with fail
    rename_i K9 hK9
    try rw [show ∀ a : Act, a.put none undef = a from fun _ => rfl]
    have hrest : ∀ (a : Act) (f' : Nat → Value) (Y : World) (bx : Nat), Fr 197 a f' → f' 0 = Value.pointer (some ⟨tb, 0, none⟩) → f' 6 = Value.int .i64 (r : Int) → f' 15 = Value.pointer (some ⟨bx, 0, none⟩) → Blk Y bx #[.int .i64 (y.1 : Int), .slice ya y.2.2.length yc] 41 → X.heap.size ≤ bx → Below X.heap.size X Y → K9 a Y := by
      intro a f' Y bx F' k0 k6 k15 hBx hlx hCx
      refine hK9 _ _ ?_
      rw [F'.lit, show ((List.range 197).map f').toArray = #[f' 0, f' 1, f' 2, f' 3, f' 4, f' 5, f' 6, f' 7, f' 8, f' 9, f' 10, f' 11, f' 12, f' 13, f' 14, f' 15, f' 16, f' 17, f' 18, f' 19, f' 20, f' 21, f' 22, f' 23, f' 24, f' 25, f' 26, f' 27, f' 28, f' 29, f' 30, f' 31, f' 32, f' 33, f' 34, f' 35, f' 36, f' 37, f' 38, f' 39, f' 40, f' 41, f' 42, f' 43, f' 44, f' 45, f' 46, f' 47, f' 48, f' 49, f' 50, f' 51, f' 52, f' 53, f' 54, f' 55, f' 56, f' 57, f' 58, f' 59, f' 60, f' 61, f' 62, f' 63, f' 64, f' 65, f' 66, f' 67, f' 68, f' 69, f' 70, f' 71, f' 72, f' 73, f' 74, f' 75, f' 76, f' 77, f' 78, f' 79, f' 80, f' 81, f' 82, f' 83, f' 84, f' 85, f' 86, f' 87, f' 88, f' 89, f' 90, f' 91, f' 92, f' 93, f' 94, f' 95, f' 96, f' 97, f' 98, f' 99, f' 100, f' 101, f' 102, f' 103, f' 104, f' 105, f' 106, f' 107, f' 108, f' 109, f' 110, f' 111, f' 112, f' 113, f' 114, f' 115, f' 116, f' 117, f' 118, f' 119, f' 120, f' 121, f' 122, f' 123, f' 124, f' 125, f' 126, f' 127, f' 128, f' 129, f' 130, f' 131, f' 132, f' 133, f' 134, f' 135, f' 136, f' 137, f' 138, f' 139, f' 140, f' 141, f' 142, f' 143, f' 144, f' 145, f' 146, f' 147, f' 148, f' 149, f' 150, f' 151, f' 152, f' 153, f' 154, f' 155, f' 156, f' 157, f' 158, f' 159, f' 160, f' 161, f' 162, f' 163, f' 164, f' 165, f' 166, f' 167, f' 168, f' 169, f' 170, f' 171, f' 172, f' 173, f' 174, f' 175, f' 176, f' 177, f' 178, f' 179, f' 180, f' 181, f' 182, f' 183, f' 184, f' 185, f' 186, f' 187, f' 188, f' 189, f' 190, f' 191, f' 192, f' 193, f' 194, f' 195, f' 196] from rfl, k0, k6, k15]
      have HBY : Hid (Below X.heap.size X Y) := hCx
      have b0 : Y.cell? ⟨bx, 0, none⟩ = some (.int .i64 (y.1 : Int)) := hBx.cell 0
      have b1 : Y.cell? ⟨bx, 1, none⟩ = some (.slice ya y.2.2.length yc) := hBx.cell 1
      have HSY : Hid (MS L tb vr vc n K hb mb LV hv Hs sv ls Y) := HSX.out.more hCx
      have HWY : Hid (Below L w Y) := (HBX.out.trans (hCx.mono HBX.out.size)).mono HS.out.low
      have HYY : Hid (Y.ownsRow L 46 7 (.slice ya y.2.2.length yc) y.2.2.length (flatV y.2.2)) := row_more hCx HYR.out
      clear hK9 F' k0 k6 k15 hCx c33 x2 j0c j1c hwa
      by_cases hyr : y.1 = r
      · have hb1 : (((y.1 : Nat) : Int) == (r : Int)) = true := by rw [beq_iff_eq]; omega
        generalize f' = ff at *
        go_wp2_with fail
        go_ret
        exact ⟨rfl, LV, HSY.out.mono, HWY.out⟩
      · have hb1 : (((y.1 : Nat) : Int) == (r : Int)) = false := by rw [beq_eq_false_iff_ne]; omega
        have HCM : Hid _ := comes_any (r := r) (q := y.1) Y HSY.out.tg HSY.out.mi HN.out hK hrn hyl hyr HYY.out HYD.out
        go_wp2_with fail
        refine Calls.mono HCM.out ?_
        rintro e9 V ⟨rfl, hTV, hcV⟩
        have HMV : Hid (MS L tb vr vc n (K + 1) hb mb (updL LV r (takeNext (r : Int) (n : Int) (y.1 : Int) (LV r) y.2.2).1) hv Hs sv ls V) := HSY.out.rest hrn (hcV.mono (fun b _ e => Or.inr (Or.inl e))) hTV (HSY.out.mi.take hrn hyl hyr HYD.out).2.2 (fun i => ⟨[], by simp⟩) (fun k hk b hb => Or.inl hb)
        have HWV : Hid (Below L w V) := HWY.out.trans (hcV.below HSY.out.low (fun k hk => by subst hk; exact HSY.out.tg.lo.2 r hrn))
        clear hTV hcV HCM
        go_wp2_with fail
        go_ret
        exact ⟨rfl, _, HMV.out, HWV.out⟩
    refine wp_region_plan (fun wq => Below X.heap.size X wq) (fun i => i == 12 || i == 15 || i == 16) 16 (.one 0 (.one 1 (.one 2 (.one 3 (.one 4 (.one 5 (.one 6 (.one 7 (.one 8 (.one 9 (.one 10 (.one 11 (.two 12 15 (.one 13 (.one 14 (.one 15 (.one 16 (.done))))) (.one 12 (.one 13 (.one 14 (.one 16 (.done)))))))))))))))))) (by kernel_rfl) rfl (by kernel_rfl) (by kernel_rfl) rfl (by kernel_rfl) ?_
    refine withFrG (N := 197) rfl ?_
    intro a0 f0 F0 hff
    have hs0 : f0 0 = Value.pointer (some ⟨tb, 0, none⟩) := hff 0
    have hs3 : f0 3 = Value.pointer (some ⟨sb, 0, none⟩) := hff 3
    have hs6 : f0 6 = Value.int .i64 (r : Int) := hff 6
    clear hff
    have hC0 : (fun wq => Below X.heap.size X wq) ({ X with drawn := X.drawn + 1 } : World) := Below.drew (Below.refl X.heap.size X)
    have r33 : ∀ wr, Below X.heap.size X wr → wr.cell? ⟨tb, 33, none⟩ = some (Value.slice (some ⟨sg, 0, none⟩) (lm + 1) sc) := fun wr hw => cell_below hw c33
    have r2 : ∀ wr, Below X.heap.size X wr → wr.cell? ⟨sb, 2, none⟩ = some (.int .i64 a) := fun wr hw => cell_below hw x2
    have rj0 : ∀ wr, Below X.heap.size X wr → wr.cell? ⟨sg, j * 2, none⟩ = some (.int .i64 (y.1 : Int)) := fun wr hw => cell_below hw j0c
    have rj1 : ∀ wr, Below X.heap.size X wr → wr.cell? ⟨sg, j * 2 + 1, none⟩ = some (.slice ya y.2.2.length yc) := fun wr hw => cell_below hw j1c
    refine py (k := 0) rfl F0 rfl hC0 rfl (by omega) (wanted_none rfl) (v := Value.pointer (some ⟨tb, 0, none⟩)) (fun wr hwr => by simp only [execOp, (F0.eval 0 (by omega)).trans (show _ = Value.pointer (some ⟨tb, 0, none⟩) from by simp [upd, hs0, hs3])]; first | rfl | simp [go_sem]) fun a1 F1 => ?_
    refine py (k := 1) rfl F1 rfl hC0 rfl (by omega) (wanted_none rfl) (v := Value.pointer (some ⟨tb, 0, none⟩)) (fun wr hwr => by simp only [execOp, (F1.eval 172 (by omega)).trans (show _ = Value.pointer (some ⟨tb, 0, none⟩) from by simp [upd, hs0, hs3])]; simp [go_sem]) fun a2 F2 => ?_
    refine py (k := 2) rfl F2 rfl hC0 rfl (by omega) (wanted_none rfl) (v := Value.pointer (some ⟨tb, 33, none⟩)) (fun wr hwr => by simp only [execOp, (F2.eval 173 (by omega)).trans (show _ = Value.pointer (some ⟨tb, 0, none⟩) from by simp [upd, hs0, hs3])]; simp [go_sem]) fun a3 F3 => ?_
    refine py (k := 3) rfl F3 rfl hC0 rfl (by omega) (wanted_none rfl) (v := Value.slice (some ⟨sg, 0, none⟩) (lm + 1) sc) (fun wr hwr => by simp only [execOp, (F3.eval 174 (by omega)).trans (show _ = Value.pointer (some ⟨tb, 33, none⟩) from by simp [upd, hs0, hs3])]; simp [go_sem, r33 wr hwr]) fun a4 F4 => ?_
    refine py (k := 4) rfl F4 rfl hC0 rfl (by omega) (wanted_none rfl) (v := Value.pointer (some ⟨sb, 2, none⟩)) (fun wr hwr => by simp only [execOp, (F4.eval 3 (by omega)).trans (show _ = Value.pointer (some ⟨sb, 0, none⟩) from by simp [upd, hs0, hs3])]; simp [go_sem]) fun a5 F5 => ?_
    refine py (k := 5) rfl F5 rfl hC0 rfl (by omega) (wanted_none rfl) (v := Value.int .i64 a) (fun wr hwr => by simp only [execOp, (F5.eval 176 (by omega)).trans (show _ = Value.pointer (some ⟨sb, 2, none⟩) from by simp [upd, hs0, hs3])]; simp [go_sem, r2 wr hwr]) fun a6 F6 => ?_
    refine py (k := 6) rfl F6 rfl hC0 rfl (by omega) (wanted_none rfl) (v := Value.pointer (some ⟨tb, 0, none⟩)) (fun wr hwr => by simp only [execOp, (F6.eval 0 (by omega)).trans (show _ = Value.pointer (some ⟨tb, 0, none⟩) from by simp [upd, hs0, hs3])]; first | rfl | simp [go_sem]) fun a7 F7 => ?_
    refine py (k := 7) rfl F7 rfl hC0 rfl (by omega) (wanted_none rfl) (v := Value.pointer (some ⟨tb, 0, none⟩)) (fun wr hwr => by simp only [execOp, (F7.eval 178 (by omega)).trans (show _ = Value.pointer (some ⟨tb, 0, none⟩) from by simp [upd, hs0, hs3])]; simp [go_sem]) fun a8 F8 => ?_
    refine py (k := 8) rfl F8 rfl hC0 rfl (by omega) (wanted_none rfl) (v := Value.pointer (some ⟨tb, 33, none⟩)) (fun wr hwr => by simp only [execOp, (F8.eval 179 (by omega)).trans (show _ = Value.pointer (some ⟨tb, 0, none⟩) from by simp [upd, hs0, hs3])]; simp [go_sem]) fun a9 F9 => ?_
    refine py (k := 9) rfl F9 rfl hC0 rfl (by omega) (wanted_none rfl) (v := Value.slice (some ⟨sg, 0, none⟩) (lm + 1) sc) (fun wr hwr => by simp only [execOp, (F9.eval 180 (by omega)).trans (show _ = Value.pointer (some ⟨tb, 33, none⟩) from by simp [upd, hs0, hs3])]; simp [go_sem, r33 wr hwr]) fun a10 F10 => ?_
    refine py (k := 10) rfl F10 rfl hC0 rfl (by omega) (wanted_none rfl) (v := Value.int .i64 ((lm + 1) : Nat)) (fun wr hwr => by simp only [execOp, resolve, invoke, builtin, List.map_toArray, List.map_cons, List.map_nil, (F10.eval 181 (by omega)).trans (show _ = Value.slice (some ⟨sg, 0, none⟩) (lm + 1) sc from by simp [upd, hs0, hs3])]; simp [go_sem, Builtin.len_, Builtin.lenOf]) fun a11 F11 => ?_
    refine py (k := 11) rfl F11 rfl hC0 rfl (by omega) (wanted_none rfl) (v := Value.int .i64 (lm : Nat)) (fun wr hwr => by simp only [execOp, (F11.eval 182 (by omega)).trans (show _ = Value.int .i64 ((lm + 1) : Nat) from by simp [upd, hs0, hs3])]; simp [go_sem, Act.eval, show IntKind.i64.wrap (lm : Int) = (lm : Int) from by rw [IntKind.wrap_i64]; omega]) fun a12 F12 => ?_
    refine pfork hC0 ?_ ?_
    · refine pc' (k := 12) rfl F12 rfl rfl (by omega) (wanted_none rfl) (g := 10) (args := #[.int .i64 a, .int .i64 0, .int .i64 (lm : Nat)]) (by simp only [execOp, resolve, invoke, List.map_toArray, List.map_cons, List.map_nil, (F12.eval 177 (by omega)).trans (show _ = Value.int .i64 a from by simp [upd, hs0, hs3]), (F12.eval 183 (by omega)).trans (show _ = Value.int .i64 (lm : Nat) from by simp [upd, hs0, hs3])]; simp [go_sem, Act.eval]) (hwa ({ X with drawn := X.drawn + 1 } : World)) ?_
      rintro e9 wz ⟨rfl, hwz⟩
      replace hwz := hwz.symm
      subst hwz
      refine ⟨_, rfl, fun aA1 FA1 => ?_⟩
      refine py (k := 13) rfl FA1 rfl hC0 rfl (by omega) (wanted_none rfl) (v := Value.pointer (some ⟨sg, j * 2, none⟩)) (fun wr hwr => by simp only [execOp, (FA1.eval 175 (by omega)).trans (show _ = Value.slice (some ⟨sg, 0, none⟩) (lm + 1) sc from by simp [upd, hs0, hs3]), (FA1.eval 184 (by omega)).trans (show _ = Value.int .i64 (j : Int) from by simp [upd, hs0, hs3])]; simp only [Sem.run_bind, Sem.run_pure, Result.andThen_ok, idx_run 36 41 2 Try.underlying36 info41s wr sg 0 (lm + 1) sc j hjl, Nat.zero_add]; try rfl) fun aA2 FA2 => ?_
      refine py (k := 14) rfl FA2 rfl hC0 rfl (by omega) (wanted_none rfl) (v := Value.agg #[.int .i64 (y.1 : Int), .slice ya y.2.2.length yc]) (fun wr hwr => by simp only [execOp, (FA2.eval 185 (by omega)).trans (show _ = Value.pointer (some ⟨sg, j * 2, none⟩) from by simp [upd, hs0, hs3])]; simp [go_sem, rj0 wr hwr, rj1 wr hwr]) fun aA3 FA3 => ?_
      refine pe (k := 15) rfl FA3 rfl hC0 rfl (by omega) (wanted_none rfl) (v := Value.pointer (some ⟨({ X with drawn := X.drawn + 1 } : World).heap.size, 0, none⟩)) (w1 := ({ X with drawn := X.drawn + 1 } : World).alloc (.cells #[.int .i64 0, .slice none 0 0] 41)) (by simp only [execOp]; simp [go_sem, zero41]) fun aA4 FA4 => ?_
      have hBz : Blk (({ X with drawn := X.drawn + 1 } : World).alloc (.cells #[.int .i64 0, .slice none 0 0] 41)) ({ X with drawn := X.drawn + 1 } : World).heap.size #[.int .i64 0, .slice none 0 0] 41 := heap_alloc_new ({ X with drawn := X.drawn + 1 } : World) _
      have HCz : (fun wq => Below X.heap.size X wq) (({ X with drawn := X.drawn + 1 } : World).alloc (.cells #[.int .i64 0, .slice none 0 0] 41)) := hC0.alloc hC0.size _
      have hlz : X.heap.size ≤ ({ X with drawn := X.drawn + 1 } : World).heap.size := hC0.size
      obtain ⟨Y, hY⟩ : ∃ Y, Y = ((World.setCell (({ X with drawn := X.drawn + 1 } : World).alloc (.cells #[.int .i64 0, .slice none 0 0] 41)) ⟨({ X with drawn := X.drawn + 1 } : World).heap.size, 0, none⟩ (.int .i64 (y.1 : Int))).setCell ⟨({ X with drawn := X.drawn + 1 } : World).heap.size, 1, none⟩ (.slice ya y.2.2.length yc)) := ⟨_, rfl⟩
      have hBy : Blk Y ({ X with drawn := X.drawn + 1 } : World).heap.size #[.int .i64 (y.1 : Int), .slice ya y.2.2.length yc] 41 := by rw [hY]; exact (Blk.set hBz 0 (.int .i64 (y.1 : Int))).set 1 (.slice ya y.2.2.length yc)
      have hCy : (fun wq => Below X.heap.size X wq) Y := by rw [hY]; exact set2_below HCz hlz _ _
      refine ps (k := 16) rfl rfl HCz rfl (wanted_none rfl) (w1 := Y) (by rw [hY]; exact store2 hBz (y.1 : Int) ya y.2.2.length yc rfl ((FA4.eval 15 (by omega)).trans (show _ = Value.pointer (some ⟨({ X with drawn := X.drawn + 1 } : World).heap.size, 0, none⟩) from by simp [upd, hs0, hs3])) ((FA4.eval 186 (by omega)).trans (show _ = Value.agg #[.int .i64 (y.1 : Int), .slice ya y.2.2.length yc] from by simp [upd, hs0, hs3]))) ?_
      refine pdone (fun _ => hCy) ?_
      exact hrest _ _ Y ({ X with drawn := X.drawn + 1 } : World).heap.size FA4 (show _ = Value.pointer (some ⟨tb, 0, none⟩) from by simp [upd, hs0, hs3]) (show _ = Value.int .i64 (r : Int) from by simp [upd, hs0, hs3, hs6]) (show _ = Value.pointer (some ⟨({ X with drawn := X.drawn + 1 } : World).heap.size, 0, none⟩) from by simp [upd, hs0, hs3]) hBy hlz hCy
    · refine pe' (k := 15) rfl F12 rfl rfl (by omega) (wanted_none rfl) (v := Value.pointer (some ⟨({ X with drawn := X.drawn + 1 } : World).heap.size, 0, none⟩)) (w1 := ({ X with drawn := X.drawn + 1 } : World).alloc (.cells #[.int .i64 0, .slice none 0 0] 41)) (by simp only [execOp]; simp [go_sem, zero41]) fun aB1 FB1 => ?_
      have hBz : Blk (({ X with drawn := X.drawn + 1 } : World).alloc (.cells #[.int .i64 0, .slice none 0 0] 41)) ({ X with drawn := X.drawn + 1 } : World).heap.size #[.int .i64 0, .slice none 0 0] 41 := heap_alloc_new ({ X with drawn := X.drawn + 1 } : World) _
      have HCz : (fun wq => Below X.heap.size X wq) (({ X with drawn := X.drawn + 1 } : World).alloc (.cells #[.int .i64 0, .slice none 0 0] 41)) := hC0.alloc hC0.size _
      have hlz : X.heap.size ≤ ({ X with drawn := X.drawn + 1 } : World).heap.size := hC0.size
      refine pc (k := 12) rfl FB1 rfl HCz rfl (by omega) (wanted_none rfl) (g := 10) (args := #[.int .i64 a, .int .i64 0, .int .i64 (lm : Nat)]) (by simp only [execOp, resolve, invoke, List.map_toArray, List.map_cons, List.map_nil, (FB1.eval 177 (by omega)).trans (show _ = Value.int .i64 a from by simp [upd, hs0, hs3]), (FB1.eval 183 (by omega)).trans (show _ = Value.int .i64 (lm : Nat) from by simp [upd, hs0, hs3])]; simp [go_sem, Act.eval]) (hwa (({ X with drawn := X.drawn + 1 } : World).alloc (.cells #[.int .i64 0, .slice none 0 0] 41))) ?_
      rintro e9 wz ⟨rfl, hwz⟩
      replace hwz := hwz.symm
      subst hwz
      refine ⟨_, rfl, fun aB2 FB2 => ?_⟩
      refine py (k := 13) rfl FB2 rfl HCz rfl (by omega) (wanted_none rfl) (v := Value.pointer (some ⟨sg, j * 2, none⟩)) (fun wr hwr => by simp only [execOp, (FB2.eval 175 (by omega)).trans (show _ = Value.slice (some ⟨sg, 0, none⟩) (lm + 1) sc from by simp [upd, hs0, hs3]), (FB2.eval 184 (by omega)).trans (show _ = Value.int .i64 (j : Int) from by simp [upd, hs0, hs3])]; simp only [Sem.run_bind, Sem.run_pure, Result.andThen_ok, idx_run 36 41 2 Try.underlying36 info41s wr sg 0 (lm + 1) sc j hjl, Nat.zero_add]; try rfl) fun aB3 FB3 => ?_
      refine py (k := 14) rfl FB3 rfl HCz rfl (by omega) (wanted_none rfl) (v := Value.agg #[.int .i64 (y.1 : Int), .slice ya y.2.2.length yc]) (fun wr hwr => by simp only [execOp, (FB3.eval 185 (by omega)).trans (show _ = Value.pointer (some ⟨sg, j * 2, none⟩) from by simp [upd, hs0, hs3])]; simp [go_sem, rj0 wr hwr, rj1 wr hwr]) fun aB4 FB4 => ?_
      obtain ⟨Y, hY⟩ : ∃ Y, Y = ((World.setCell (({ X with drawn := X.drawn + 1 } : World).alloc (.cells #[.int .i64 0, .slice none 0 0] 41)) ⟨({ X with drawn := X.drawn + 1 } : World).heap.size, 0, none⟩ (.int .i64 (y.1 : Int))).setCell ⟨({ X with drawn := X.drawn + 1 } : World).heap.size, 1, none⟩ (.slice ya y.2.2.length yc)) := ⟨_, rfl⟩
      have hBy : Blk Y ({ X with drawn := X.drawn + 1 } : World).heap.size #[.int .i64 (y.1 : Int), .slice ya y.2.2.length yc] 41 := by rw [hY]; exact (Blk.set hBz 0 (.int .i64 (y.1 : Int))).set 1 (.slice ya y.2.2.length yc)
      have hCy : (fun wq => Below X.heap.size X wq) Y := by rw [hY]; exact set2_below HCz hlz _ _
      refine ps (k := 16) rfl rfl HCz rfl (wanted_none rfl) (w1 := Y) (by rw [hY]; exact store2 hBz (y.1 : Int) ya y.2.2.length yc rfl ((FB4.eval 15 (by omega)).trans (show _ = Value.pointer (some ⟨({ X with drawn := X.drawn + 1 } : World).heap.size, 0, none⟩) from by simp [upd, hs0, hs3])) ((FB4.eval 186 (by omega)).trans (show _ = Value.agg #[.int .i64 (y.1 : Int), .slice ya y.2.2.length yc] from by simp [upd, hs0, hs3]))) ?_
      refine pdone (fun _ => hCy) ?_
      exact hrest _ _ Y ({ X with drawn := X.drawn + 1 } : World).heap.size FB4 (show _ = Value.pointer (some ⟨tb, 0, none⟩) from by simp [upd, hs0, hs3]) (show _ = Value.int .i64 (r : Int) from by simp [upd, hs0, hs3, hs6]) (show _ = Value.pointer (some ⟨({ X with drawn := X.drawn + 1 } : World).heap.size, 0, none⟩) from by simp [upd, hs0, hs3]) hBy hlz hCy
end Go.Proofs.Ytifgmefdlmjocaa
namespace Go.Proofs.Ytifgmefdlmjocaa
open Go.RowKit Go.PlainAid Go.MapKept
set_option linter.unusedVariables false
set_option linter.unusedSimpArgs false
/-- The talk behind k steps. -/
def RelM (L tb vr vc n : Nat) (hb mb : Nat → Nat) (W : World) (K : Nat) (w : World) : Prop := ∃ LV hv Hs sv ls, MS L tb vr vc n K hb mb LV hv Hs sv ls w ∧ Below W.heap.size W w
theorem RelM.start {L tb vr vc n : Nat} {hb mb : Nat → Nat} {W w : World} (hT : TG L tb vr vc n hb mb (fun _ => []) (fun _ => .slice none 0 0) (fun _ => []) (.slice none 0 0) w) (hbl : Below W.heap.size W w) : RelM L tb vr vc n hb mb W 0 w :=
  ⟨_, _, _, _, [], ⟨hT, ⟨fun _ _ => List.Pairwise.nil, fun _ _ e he => (by cases he), fun _ _ _ _ => rfl, fun _ _ _ _ p x h => (by simp at h), fun _ => Nat.le_refl _, fun _ _ => Nat.le_refl _⟩, World.ownsRow_nil _ _ _ _, (fun x hx => by cases hx), (fun x hx => by cases hx), Nat.le_refl _⟩, hbl⟩
theorem step_relM {L tb vr vc n q : Nat} {hb mb : Nat → Nat} {W wr : World} (s : SayA) (hR : RelM L tb vr vc n hb mb W q wr) (hLW : W.heap.size ≤ L) (hn : 2 ≤ n ∧ n ≤ 8) (hq : q ≤ 900) (rg : i64 s.nm ∧ i64 s.d ∧ i64 s.u ∧ i64 s.h) (ro : i64 s.w ∧ i64 s.k ∧ i64 s.a) :
    Calls Try.prog 12 #[.pointer (some ⟨tb, 0, none⟩), .agg #[.int .i64 s.k, .int .i64 s.w, .int .i64 s.a, .int .i64 s.nm, .int .i64 s.d, .int .i64 s.u, .int .i64 s.h]] wr fun e w' => e = .returned (.bool true) ∧ RelM L tb vr vc n hb mb W (q + 1) w' := by
  obtain ⟨LV, hv, Hs, sv, ls, hS, hbel⟩ := hR
  have a4 := wx_in s.w (n : Int) (by omega)
  obtain ⟨r, hr⟩ : ∃ r : Nat, wx s.w (n : Int) = r := ⟨(wx s.w (n : Int)).toNat, by omega⟩
  have hrn : r < n := by omega
  have ak := wx_in s.k 3 (by decide)
  rcases (by omega : wx s.k 3 = 0 ∨ wx s.k 3 = 1 ∨ wx s.k 3 = 2) with hk | hk | hk
  · have hj := wx_in s.nm 4 (by decide)
    have hj4 : (wx s.nm 4).toNat < 4 := by omega
    obtain ⟨hc, hm⟩ := hS.mi.tell hrn hj4 (wx_in s.d 31 (by decide)) (wx_in s.u 31 (by decide)) (wx_in s.h 31 (by decide))
    refine (stepK_any s.k s.w s.a s.nm s.d s.u s.h wr hk ro.2.1 hS.tg hn hrn hr (by have := hS.mi.ll r hrn; omega) (fun e he => by have := hS.mi.vers hrn he; omega) (fun k hk => by have := hS.mi.len k; omega) ⟨rg.1, rg.2.1, rg.2.2.1, rg.2.2.2, ro.1⟩ hc).mono ?_
    rintro e w' ⟨rfl, hcg, hv', hT', ha'⟩
    exact ⟨rfl, _, hv', _, sv, ls, hS.rest hrn hcg hT' hm (growH_upd _ _) ha', hbel.trans ((hS.tg.tb' hrn hcg).mono hLW)⟩
  · refine (step1_any s.k s.w s.a s.nm s.d s.u s.h wr hS hn (by omega) hrn hr hk ro.2.1 ro.1).mono ?_
    rintro e w' ⟨rfl, sv', u', D', hS', hb'⟩
    exact ⟨rfl, _, _, _, _, _, hS', hbel.trans (hb'.mono hLW)⟩
  · refine (step2_any s.k s.w s.a s.nm s.d s.u s.h wr hS hn (by omega) hrn hr hk ro.2.1 ro.1 ro.2.2).mono ?_
    rintro e w' ⟨rfl, LV', hS', hb'⟩
    exact ⟨rfl, _, _, _, _, _, hS', hbel.trans (hb'.mono hLW)⟩
/-- Where all replicas are to meet: those ahead of (p, q) have taken the last digest. -/
def EndM (L tb vr vc n : Nat) (hb mb : Nat → Nat) (hv : Nat → Value) (Hs : Nat → List Ent) (sv : Value) (ls : List LT) (W : World) (K p q : Nat) (w : World) : Prop := ∃ LV, MS L tb vr vc n K hb mb LV hv Hs sv ls w ∧ Below W.heap.size W w ∧ ∀ r u, r < n → u < n → (r < p ∨ (r = p ∧ u < q)) → Meets LV Hs r u
section
variable {L tb vr vc n K p q : Nat} {hb mb : Nat → Nat} {hv : Nat → Value} {Hs : Nat → List Ent} {sv : Value} {ls : List LT} {W w w' : World}
theorem EndM.more (h : EndM L tb vr vc n hb mb hv Hs sv ls W K p q w) (hb' : Below w.heap.size w w') : EndM L tb vr vc n hb mb hv Hs sv ls W K p q w' := by
  obtain ⟨LV, h1, h2, h3⟩ := h
  exact ⟨LV, h1.more hb', h2.trans (hb'.mono h2.size), h3⟩
theorem EndM.self (h : EndM L tb vr vc n hb mb hv Hs sv ls W K p p w) (hp : p < n) : EndM L tb vr vc n hb mb hv Hs sv ls W (K + 1) p (p + 1) w := by
  obtain ⟨LV, h1, h2, h3⟩ := h
  refine ⟨LV, h1.mono, h2, fun r u hr hu hh => ?_⟩
  by_cases he : r = p ∧ u = p
  · obtain ⟨rfl, rfl⟩ := he
    exact fun j hj => h1.mi.own _ hr j hj
  · exact h3 r u hr hu (by omega)
theorem EndM.row (h : EndM L tb vr vc n hb mb hv Hs sv ls W K p n w) : EndM L tb vr vc n hb mb hv Hs sv ls W K (p + 1) 0 w := by
  obtain ⟨LV, h1, h2, h3⟩ := h
  exact ⟨LV, h1, h2, fun r u hr hu hh => h3 r u hr hu (by omega)⟩
/-- The digest of q, and it comes to p. -/
theorem EndM.comes (h : EndM L tb vr vc n hb mb hv Hs sv ls W K p q w) (hn : 2 ≤ n ∧ n ≤ 8) (hK : K ≤ 1000) (hLW : W.heap.size ≤ L) (hp : p < n) (hq : q < n) (hne : q ≠ p) :
    Calls Try.prog 14 #[.pointer (some ⟨hb q, 0, none⟩)] w fun e w1 => ∃ da dl dc, e = .returned (.slice da dl dc) ∧ Calls Try.prog 13 #[.pointer (some ⟨tb, 0, none⟩), .int .i64 (p : Int), .agg #[.int .i64 (q : Int), .slice da dl dc]] w1 fun e w2 => e = .returned (.bool true) ∧ EndM L tb vr vc n hb mb hv Hs sv ls W (K + 1) p (q + 1) w2 := by
  obtain ⟨LV, h1, h2, h3⟩ := h
  refine (digest_any w (h1.tg.vs q hq) (by have := h1.mi.ll q hq; omega)).mono ?_
  rintro e w1 ⟨dv, D, rfl, hTo, hro, hbY⟩
  obtain ⟨hDe, hDM⟩ := h1.mi.digest hq hTo
  obtain ⟨da, dc, hdv, _⟩ := own_slice hro
  subst hdv
  refine ⟨da, _, dc, rfl, ?_⟩
  have hS1 := h1.more hbY
  refine (comes_any w1 hS1.tg hS1.mi hn hK hp hq hne hro hDM).mono ?_
  rintro e w2 ⟨rfl, hT2, hc2⟩
  refine ⟨rfl, _, hS1.rest hp (hc2.mono (fun b _ e => Or.inr (Or.inl e))) hT2 (hS1.mi.take hp hq hne hDM).2.2 (fun i => ⟨[], by simp⟩) (fun k hk b hb => Or.inl hb), ?_, fun r u hr hu hh => ?_⟩
  · have h4 : Below L w w1 := hbY.mono h1.low
    have h5 : Below L w1 w2 := hc2.below hS1.low (fun k hk => by subst hk; exact hS1.tg.lo.2 p hp)
    exact h2.trans ((h4.trans h5).mono hLW)
  · by_cases he : r = p ∧ u = q
    · obtain ⟨rfl, rfl⟩ := he
      exact h1.mi.meets_take hr hu hne hDM hDe
    · exact h1.mi.meets_other hp hq hne hDM (h3 r u hr hu (by omega)) he
end
/-- What the replicas have had last, of one name. -/
def lastE (Hs : Nat → List Ent) (k u : Nat) : Ent := (lastH Hs u k).getD zed
def sumM (Hs : Nat → List Ent) (k : Nat) : Nat → Int
  | 0 => 0
  | u + 1 => sumM Hs k u + (lastE Hs k u).d
def isM (Hs : Nat → List Ent) (k : Nat) : Nat → Bool
  | 0 => false
  | u + 1 => isM Hs k u || (lastH Hs u k).isSome
def lstM (Hs : Nat → List Ent) (k n : Nat) : List (Int × Int) := (List.range n).map fun u => ((lastE Hs k u).d, (lastE Hs k u).u)
theorem lstM_succ (Hs : Nat → List Ent) (k n : Nat) : lstM Hs k (n + 1) = lstM Hs k n ++ [((lastE Hs k n).d, (lastE Hs k n).u)] := by unfold lstM; rw [List.range_succ, List.map_append]; rfl
theorem lstM_len (Hs : Nat → List Ent) (k n : Nat) : (lstM Hs k n).length = n := by simp [lstM]
section
variable {LV Hs : Nat → List Ent} {r k n K : Nat}
theorem meet_look (hm : ∀ u, u < n → Meets LV Hs r u) (hk : k < 4) {u : Nat} (hu : u < n) : look (u : Int) (nm4 k) (LV r) = lastH Hs u k ∧ lookD (u : Int) (nm4 k) (LV r) = lastE Hs k u := by
  have h1 := hm u hu k hk
  refine ⟨h1, ?_⟩
  unfold lookD lastE
  rw [h1]
theorem meet_about (hk : k < 4) : ∀ m, m ≤ n → (∀ u, u < n → Meets LV Hs r u) → aboutS (nm4 k) (LV r) m = sumM Hs k m ∧ aboutK (nm4 k) (LV r) m = isM Hs k m
  | 0, _, _ => ⟨rfl, rfl⟩
  | m + 1, h, hm => by
    obtain ⟨i1, i2⟩ := meet_about hk m (by omega) hm
    obtain ⟨l1, l2⟩ := meet_look hm hk (u := m) (by omega)
    constructor
    · show aboutS (nm4 k) (LV r) m + (lookD (m : Int) (nm4 k) (LV r)).d = _
      rw [i1, l2]
      rfl
    · show (aboutK (nm4 k) (LV r) m || (look (m : Int) (nm4 k) (LV r)).isSome) = _
      rw [i2, l1]
      rfl
theorem meet_known (hk : k < 4) (hm : ∀ u, u < n → Meets LV Hs r u) : knownL (nm4 k) (LV r) n = lstM Hs k n := by
  unfold knownL lstM
  refine List.map_congr_left fun u hu => ?_
  rw [(meet_look hm hk (List.mem_range.1 hu)).2]
theorem MI.lastE_d (h : MI n K LV Hs) (hk : k < 4) {u : Nat} (hu : u < n) : (0 ≤ (lastE Hs k u).d ∧ (lastE Hs k u).d < 31) ∧ 0 ≤ (lastE Hs k u).u ∧ (lastE Hs k u).u < 31 := by
  unfold lastE
  cases hl : lastH Hs u k with
  | none => simp [zed]
  | some e =>
    obtain ⟨_, hi⟩ := h.lastN hu hk hl
    obtain ⟨_, _, _, _, _, _, f7, f8, _⟩ := h.facts hu hk hi
    exact ⟨f7, f8⟩
theorem MI.sum_le (h : MI n K LV Hs) (hk : k < 4) : ∀ m, m ≤ n → 0 ≤ sumM Hs k m ∧ sumM Hs k m ≤ 30 * m
  | 0, _ => by simp [sumM]
  | m + 1, hm => by
    have ih := h.sum_le hk m (by omega)
    have hd := (h.lastE_d hk (u := m) (by omega)).1
    unfold sumM
    omega
end
end Go.Proofs.Ytifgmefdlmjocaa
