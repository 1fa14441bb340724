import Derived.Test.YtbjlaloofpdbfaaP8
namespace Go.Proofs.Ytbjlaloofpdbfaa
open Go.RowKit Go.PlainAid
set_option linter.unusedVariables false
def rowA : Array Value := #[.int .i64 1, .string ⟨#[97]⟩, .int .i64 0, .int .i64 0, .int .i64 0, .string ⟨#[]⟩, .int .i64 0, .int .i64 0, .int .i64 1, .string ⟨#[98]⟩, .int .i64 0, .int .i64 0, .int .i64 0, .string ⟨#[]⟩, .int .i64 0, .int .i64 0, .int .i64 2, .string ⟨#[99]⟩, .int .i64 0, .int .i64 0, .int .i64 0, .string ⟨#[]⟩, .int .i64 0, .int .i64 0, .int .i64 6, .string ⟨#[]⟩, .int .i64 0, .int .i64 0, .int .i64 0, .string ⟨#[]⟩, .int .i64 0, .int .i64 0, .int .i64 5, .string ⟨#[99]⟩, .int .i64 0, .int .i64 0, .int .i64 0, .string ⟨#[]⟩, .int .i64 0, .int .i64 0, .int .i64 3, .string ⟨#[]⟩, .int .i64 4, .int .i64 1, .int .i64 7, .string ⟨#[113]⟩, .int .i64 0, .int .i64 0, .int .i64 7, .string ⟨#[]⟩, .int .i64 0, .int .i64 0, .int .i64 0, .string ⟨#[]⟩, .int .i64 0, .int .i64 0, .int .i64 4, .string ⟨#[]⟩, .int .i64 4, .int .i64 1, .int .i64 0, .string ⟨#[]⟩, .int .i64 0, .int .i64 0]
def scrS (S0 pb hb mh mw B rb : Nat) : Nat → World → Prop
  | 0, w => AP S0 pb hb mh mw B rb 0 3 1 (KNof 3 []) [] [] [] 0 (.slice none 0 0) (.slice none 0 0) (.slice none 0 0) (.slice none 0 0) w
  | 1, w => AP S0 pb hb mh mw B rb 0 3 1 (KNof 3 [[97]]) [] [[97]] [] 0 (.slice none 0 0) (.slice none 0 0) (.slice none 0 0) (.slice none 0 0) w
  | 2, w => AP S0 pb hb mh mw B rb 0 3 1 (KNof 3 [[97]]) [] [[97]] [] 0 (.slice none 0 0) (.slice none 0 0) (.slice none 0 0) (.slice none 0 0) w
  | 3, w => AP S0 pb hb mh mw B rb 0 3 1 (KNof 3 [[97], [99]]) [] [[97], [99]] [] 0 (.slice none 0 0) (.slice none 0 0) (.slice none 0 0) (.slice none 0 0) w
  | 4, w => ∃ x y, AP S0 pb hb mh mw B rb 0 3 1 (KNof 3 [[97], [99]]) [] [[97], [99]] [] 1 x y (.slice none 0 0) (.slice none 0 0) w
  | 5, w => ∃ x y, AP S0 pb hb mh mw B rb 0 3 1 (KNof 3 [[97], [99]]) [] [[97], [99]] [] 1 x y (.slice none 0 0) (.slice none 0 0) w
  | 6, w => ∃ x y, AP S0 pb hb mh mw B rb 0 3 1 (KNof 3 [[97], [99]]) [((4, 1), qop)] [[97], [99]] [((4, 1), qop)] 1 x y (.slice none 0 0) (.slice none 0 0) w
  | 7, w => ∃ x y z u, AP S0 pb hb mh mw B rb 0 3 1 (KNof 3 [[97], [99]]) [((4, 1), qop)] [[97], [99]] [((4, 1), qop)] 2 x y z u w
  | 8, w => ∃ x y z u, AP S0 pb hb mh mw B rb 0 3 1 (KNof 3 [[97], [99]]) [] [[97], [99]] [] 2 x y z u w
  | _, _ => False
set_option maxRecDepth 100000 in
set_option maxHeartbeats 6400000 in
theorem alive_any (w : World) : Calls Try.prog 9 #[] w fun e w' => e = .returned (.bool true) ∧ Below w.heap.size w w' := by
  have HM : Hid _ := made_yes 0 3 1 w (by decide)
  go_enter Try.func9, Try.ntmps9
  go_wp2_with fail
  refine Calls.mono HM.out ?_
  rintro e w2 ⟨hb, mh, mw, rb, pb, B, rfl, hl1, hl2, hl3, hl4, hl5, hT, hR, hB, hb2⟩
  have HA : Hid (AP w.heap.size pb hb mh mw B rb 0 3 1 (KNof 3 []) [] [] [] 0 (.slice none 0 0) (.slice none 0 0) (.slice none 0 0) (.slice none 0 0) w2) := ⟨hB, hT, ⟨_, _, hR⟩, ⟨Nat.le_trans hl4 hl5, hl2, hl3, hl4⟩, hb2.size⟩
  have HB2 : Hid (Below w.heap.size w w2) := hb2
  clear hT hR hB hb2 hl1 hl2 hl3 hl4 hl5 HM
  go_wp2_with fail
  obtain ⟨X, hX⟩ : ∃ X, X = (w2.alloc (.cells #[.int .i64 4, .int .i64 1] 37)).alloc (.cells #[.int .i64 1, .string ⟨#[97]⟩, .int .i64 0, .int .i64 0, .int .i64 0, .string ⟨#[]⟩, .int .i64 0, .int .i64 0, .int .i64 1, .string ⟨#[98]⟩, .int .i64 0, .int .i64 0, .int .i64 0, .string ⟨#[]⟩, .int .i64 0, .int .i64 0, .int .i64 2, .string ⟨#[99]⟩, .int .i64 0, .int .i64 0, .int .i64 0, .string ⟨#[]⟩, .int .i64 0, .int .i64 0, .int .i64 6, .string ⟨#[]⟩, .int .i64 0, .int .i64 0, .int .i64 0, .string ⟨#[]⟩, .int .i64 0, .int .i64 0, .int .i64 5, .string ⟨#[99]⟩, .int .i64 0, .int .i64 0, .int .i64 0, .string ⟨#[]⟩, .int .i64 0, .int .i64 0, .int .i64 3, .string ⟨#[]⟩, .int .i64 4, .int .i64 1, .int .i64 7, .string ⟨#[113]⟩, .int .i64 0, .int .i64 0, .int .i64 7, .string ⟨#[]⟩, .int .i64 0, .int .i64 0, .int .i64 0, .string ⟨#[]⟩, .int .i64 0, .int .i64 0, .int .i64 4, .string ⟨#[]⟩, .int .i64 4, .int .i64 1, .int .i64 0, .string ⟨#[]⟩, .int .i64 0, .int .i64 0] 41) := ⟨_, rfl⟩
  have hbX : Below w2.heap.size w2 X := by rw [hX]; exact ((Below.refl _ _).alloc (Nat.le_refl _) _).alloc (by rw [World.size_alloc]; omega) _
  obtain ⟨bb, hbb⟩ : ∃ bb, bb = w2.heap.size + 1 := ⟨_, rfl⟩
  have HX : Hid (Blk X bb rowA 41) := show Blk X bb rowA 41 from by rw [hX, hbb]; have := heap_alloc_new (w2.alloc (.cells #[.int .i64 4, .int .i64 1] 37)) (.cells #[.int .i64 1, .string ⟨#[97]⟩, .int .i64 0, .int .i64 0, .int .i64 0, .string ⟨#[]⟩, .int .i64 0, .int .i64 0, .int .i64 1, .string ⟨#[98]⟩, .int .i64 0, .int .i64 0, .int .i64 0, .string ⟨#[]⟩, .int .i64 0, .int .i64 0, .int .i64 2, .string ⟨#[99]⟩, .int .i64 0, .int .i64 0, .int .i64 0, .string ⟨#[]⟩, .int .i64 0, .int .i64 0, .int .i64 6, .string ⟨#[]⟩, .int .i64 0, .int .i64 0, .int .i64 0, .string ⟨#[]⟩, .int .i64 0, .int .i64 0, .int .i64 5, .string ⟨#[99]⟩, .int .i64 0, .int .i64 0, .int .i64 0, .string ⟨#[]⟩, .int .i64 0, .int .i64 0, .int .i64 3, .string ⟨#[]⟩, .int .i64 4, .int .i64 1, .int .i64 7, .string ⟨#[113]⟩, .int .i64 0, .int .i64 0, .int .i64 7, .string ⟨#[]⟩, .int .i64 0, .int .i64 0, .int .i64 0, .string ⟨#[]⟩, .int .i64 0, .int .i64 0, .int .i64 4, .string ⟨#[]⟩, .int .i64 4, .int .i64 1, .int .i64 0, .string ⟨#[]⟩, .int .i64 0, .int .i64 0] 41); rw [World.size_alloc] at this; exact this
  have HAX : Hid (scrS w.heap.size pb hb mh mw B rb 0 X) := HA.out.more hbX
  have HSX : Hid (BK w.heap.size w2 X) := BK.of hbX HA.out.low
  rw [← hX, ← hbb]
  clear hX hbX hbb HA
  go_loopw [5] (fun s5 wr => ∃ q : Nat, q ≤ 8 ∧ s5 = .int .i64 q ∧ scrS w.heap.size pb hb mh mw B rb q wr ∧ Blk wr bb rowA 41 ∧ Below w.heap.size w wr) (fun s5 _ => 8 - (intOf s5).toNat)
  case atStart => exact ⟨0, by omega, rfl, HAX.out, HX.out, HB2.out.trans HSX.out.lo⟩
  case round =>
    obtain ⟨q, hq, rfl, hS, hx, hbel⟩ := hrel
    have hq9 : q = 0 ∨ q = 1 ∨ q = 2 ∨ q = 3 ∨ q = 4 ∨ q = 5 ∨ q = 6 ∨ q = 7 ∨ q = 8 := by omega
    have HS : Hid (scrS w.heap.size pb hb mh mw B rb q wr) := hS
    have HXR : Hid (Blk wr bb rowA 41) := hx
    have HBL : Hid _ := hbel
    clear hS hx hbel HX HAX HSX HB2
    rcases hq9 with rfl | rfl | rfl | rfl | rfl | rfl | rfl | rfl | rfl
    · have b0 : wr.cell? ⟨bb, 0, none⟩ = some (.int .i64 1) := Blk.cell HXR.out 0
      have b1 : wr.cell? ⟨bb, 1, none⟩ = some (.string ⟨#[97]⟩) := Blk.cell HXR.out 1
      have b2 : wr.cell? ⟨bb, 2, none⟩ = some (.int .i64 0) := Blk.cell HXR.out 2
      have b3 : wr.cell? ⟨bb, 3, none⟩ = some (.int .i64 0) := Blk.cell HXR.out 3
      have b4 : wr.cell? ⟨bb, 4, none⟩ = some (.int .i64 0) := Blk.cell HXR.out 4
      have b5 : wr.cell? ⟨bb, 5, none⟩ = some (.string ⟨#[]⟩) := Blk.cell HXR.out 5
      have b6 : wr.cell? ⟨bb, 6, none⟩ = some (.int .i64 0) := Blk.cell HXR.out 6
      have b7 : wr.cell? ⟨bb, 7, none⟩ = some (.int .i64 0) := Blk.cell HXR.out 7
      go_wp2_with fail
      refine Calls.mono (scr0 HS.out) ?_
      rintro e w3 ⟨rfl, hA3, hk3⟩
      have HN : Hid (scrS w.heap.size pb hb mh mw B rb 1 w3) := hA3
      have HK : Hid _ := hk3
      clear hA3 hk3 b0 b1 b2 b3 b4 b5 b6 b7
      go_wp2_with fail
      go_roundw
      case rel => exact ⟨1, by omega, by rfl, HN.out, HK.out.op _ _ HXR.out, HBL.out.trans HK.out.lo⟩
      case measure => simp [intOf]
    · have b0 : wr.cell? ⟨bb, 8, none⟩ = some (.int .i64 1) := Blk.cell HXR.out 8
      have b1 : wr.cell? ⟨bb, 9, none⟩ = some (.string ⟨#[98]⟩) := Blk.cell HXR.out 9
      have b2 : wr.cell? ⟨bb, 10, none⟩ = some (.int .i64 0) := Blk.cell HXR.out 10
      have b3 : wr.cell? ⟨bb, 11, none⟩ = some (.int .i64 0) := Blk.cell HXR.out 11
      have b4 : wr.cell? ⟨bb, 12, none⟩ = some (.int .i64 0) := Blk.cell HXR.out 12
      have b5 : wr.cell? ⟨bb, 13, none⟩ = some (.string ⟨#[]⟩) := Blk.cell HXR.out 13
      have b6 : wr.cell? ⟨bb, 14, none⟩ = some (.int .i64 0) := Blk.cell HXR.out 14
      have b7 : wr.cell? ⟨bb, 15, none⟩ = some (.int .i64 0) := Blk.cell HXR.out 15
      go_wp2_with fail
      refine Calls.mono (scr1 HS.out) ?_
      rintro e w3 ⟨rfl, hA3, hk3⟩
      have HN : Hid (scrS w.heap.size pb hb mh mw B rb 2 w3) := hA3
      have HK : Hid _ := hk3
      clear hA3 hk3 b0 b1 b2 b3 b4 b5 b6 b7
      go_wp2_with fail
      go_roundw
      case rel => exact ⟨2, by omega, by rfl, HN.out, HK.out.op _ _ HXR.out, HBL.out.trans HK.out.lo⟩
      case measure => simp [intOf]
    · have b0 : wr.cell? ⟨bb, 16, none⟩ = some (.int .i64 2) := Blk.cell HXR.out 16
      have b1 : wr.cell? ⟨bb, 17, none⟩ = some (.string ⟨#[99]⟩) := Blk.cell HXR.out 17
      have b2 : wr.cell? ⟨bb, 18, none⟩ = some (.int .i64 0) := Blk.cell HXR.out 18
      have b3 : wr.cell? ⟨bb, 19, none⟩ = some (.int .i64 0) := Blk.cell HXR.out 19
      have b4 : wr.cell? ⟨bb, 20, none⟩ = some (.int .i64 0) := Blk.cell HXR.out 20
      have b5 : wr.cell? ⟨bb, 21, none⟩ = some (.string ⟨#[]⟩) := Blk.cell HXR.out 21
      have b6 : wr.cell? ⟨bb, 22, none⟩ = some (.int .i64 0) := Blk.cell HXR.out 22
      have b7 : wr.cell? ⟨bb, 23, none⟩ = some (.int .i64 0) := Blk.cell HXR.out 23
      go_wp2_with fail
      refine Calls.mono (scr2 HS.out) ?_
      rintro e w3 ⟨rfl, hA3, hk3⟩
      have HN : Hid (scrS w.heap.size pb hb mh mw B rb 3 w3) := hA3
      have HK : Hid _ := hk3
      clear hA3 hk3 b0 b1 b2 b3 b4 b5 b6 b7
      go_wp2_with fail
      go_roundw
      case rel => exact ⟨3, by omega, by rfl, HN.out, HK.out.op _ _ HXR.out, HBL.out.trans HK.out.lo⟩
      case measure => simp [intOf]
    · have b0 : wr.cell? ⟨bb, 24, none⟩ = some (.int .i64 6) := Blk.cell HXR.out 24
      have b1 : wr.cell? ⟨bb, 25, none⟩ = some (.string ⟨#[]⟩) := Blk.cell HXR.out 25
      have b2 : wr.cell? ⟨bb, 26, none⟩ = some (.int .i64 0) := Blk.cell HXR.out 26
      have b3 : wr.cell? ⟨bb, 27, none⟩ = some (.int .i64 0) := Blk.cell HXR.out 27
      have b4 : wr.cell? ⟨bb, 28, none⟩ = some (.int .i64 0) := Blk.cell HXR.out 28
      have b5 : wr.cell? ⟨bb, 29, none⟩ = some (.string ⟨#[]⟩) := Blk.cell HXR.out 29
      have b6 : wr.cell? ⟨bb, 30, none⟩ = some (.int .i64 0) := Blk.cell HXR.out 30
      have b7 : wr.cell? ⟨bb, 31, none⟩ = some (.int .i64 0) := Blk.cell HXR.out 31
      go_wp2_with fail
      refine Calls.mono (scr3 HS.out) ?_
      rintro e w3 ⟨rfl, hA3, hk3⟩
      have HN : Hid (scrS w.heap.size pb hb mh mw B rb 4 w3) := hA3
      have HK : Hid _ := hk3
      clear hA3 hk3 b0 b1 b2 b3 b4 b5 b6 b7
      go_wp2_with fail
      go_roundw
      case rel => exact ⟨4, by omega, by rfl, HN.out, HK.out.op _ _ HXR.out, HBL.out.trans HK.out.lo⟩
      case measure => simp [intOf]
    · have b0 : wr.cell? ⟨bb, 32, none⟩ = some (.int .i64 5) := Blk.cell HXR.out 32
      have b1 : wr.cell? ⟨bb, 33, none⟩ = some (.string ⟨#[99]⟩) := Blk.cell HXR.out 33
      have b2 : wr.cell? ⟨bb, 34, none⟩ = some (.int .i64 0) := Blk.cell HXR.out 34
      have b3 : wr.cell? ⟨bb, 35, none⟩ = some (.int .i64 0) := Blk.cell HXR.out 35
      have b4 : wr.cell? ⟨bb, 36, none⟩ = some (.int .i64 0) := Blk.cell HXR.out 36
      have b5 : wr.cell? ⟨bb, 37, none⟩ = some (.string ⟨#[]⟩) := Blk.cell HXR.out 37
      have b6 : wr.cell? ⟨bb, 38, none⟩ = some (.int .i64 0) := Blk.cell HXR.out 38
      have b7 : wr.cell? ⟨bb, 39, none⟩ = some (.int .i64 0) := Blk.cell HXR.out 39
      go_wp2_with fail
      refine Calls.mono (scr4 HS.out) ?_
      rintro e w3 ⟨rfl, hA3, hk3⟩
      have HN : Hid (scrS w.heap.size pb hb mh mw B rb 5 w3) := hA3
      have HK : Hid _ := hk3
      clear hA3 hk3 b0 b1 b2 b3 b4 b5 b6 b7
      go_wp2_with fail
      go_roundw
      case rel => exact ⟨5, by omega, by rfl, HN.out, HK.out.op _ _ HXR.out, HBL.out.trans HK.out.lo⟩
      case measure => simp [intOf]
    · have b0 : wr.cell? ⟨bb, 40, none⟩ = some (.int .i64 3) := Blk.cell HXR.out 40
      have b1 : wr.cell? ⟨bb, 41, none⟩ = some (.string ⟨#[]⟩) := Blk.cell HXR.out 41
      have b2 : wr.cell? ⟨bb, 42, none⟩ = some (.int .i64 4) := Blk.cell HXR.out 42
      have b3 : wr.cell? ⟨bb, 43, none⟩ = some (.int .i64 1) := Blk.cell HXR.out 43
      have b4 : wr.cell? ⟨bb, 44, none⟩ = some (.int .i64 7) := Blk.cell HXR.out 44
      have b5 : wr.cell? ⟨bb, 45, none⟩ = some (.string ⟨#[113]⟩) := Blk.cell HXR.out 45
      have b6 : wr.cell? ⟨bb, 46, none⟩ = some (.int .i64 0) := Blk.cell HXR.out 46
      have b7 : wr.cell? ⟨bb, 47, none⟩ = some (.int .i64 0) := Blk.cell HXR.out 47
      go_wp2_with fail
      refine Calls.mono (scr5 HS.out) ?_
      rintro e w3 ⟨rfl, hA3, hk3⟩
      have HN : Hid (scrS w.heap.size pb hb mh mw B rb 6 w3) := hA3
      have HK : Hid _ := hk3
      clear hA3 hk3 b0 b1 b2 b3 b4 b5 b6 b7
      go_wp2_with fail
      go_roundw
      case rel => exact ⟨6, by omega, by rfl, HN.out, HK.out.op _ _ HXR.out, HBL.out.trans HK.out.lo⟩
      case measure => simp [intOf]
    · have b0 : wr.cell? ⟨bb, 48, none⟩ = some (.int .i64 7) := Blk.cell HXR.out 48
      have b1 : wr.cell? ⟨bb, 49, none⟩ = some (.string ⟨#[]⟩) := Blk.cell HXR.out 49
      have b2 : wr.cell? ⟨bb, 50, none⟩ = some (.int .i64 0) := Blk.cell HXR.out 50
      have b3 : wr.cell? ⟨bb, 51, none⟩ = some (.int .i64 0) := Blk.cell HXR.out 51
      have b4 : wr.cell? ⟨bb, 52, none⟩ = some (.int .i64 0) := Blk.cell HXR.out 52
      have b5 : wr.cell? ⟨bb, 53, none⟩ = some (.string ⟨#[]⟩) := Blk.cell HXR.out 53
      have b6 : wr.cell? ⟨bb, 54, none⟩ = some (.int .i64 0) := Blk.cell HXR.out 54
      have b7 : wr.cell? ⟨bb, 55, none⟩ = some (.int .i64 0) := Blk.cell HXR.out 55
      go_wp2_with fail
      refine Calls.mono (scr6 HS.out) ?_
      rintro e w3 ⟨rfl, hA3, hk3⟩
      have HN : Hid (scrS w.heap.size pb hb mh mw B rb 7 w3) := hA3
      have HK : Hid _ := hk3
      clear hA3 hk3 b0 b1 b2 b3 b4 b5 b6 b7
      go_wp2_with fail
      go_roundw
      case rel => exact ⟨7, by omega, by rfl, HN.out, HK.out.op _ _ HXR.out, HBL.out.trans HK.out.lo⟩
      case measure => simp [intOf]
    · have b0 : wr.cell? ⟨bb, 56, none⟩ = some (.int .i64 4) := Blk.cell HXR.out 56
      have b1 : wr.cell? ⟨bb, 57, none⟩ = some (.string ⟨#[]⟩) := Blk.cell HXR.out 57
      have b2 : wr.cell? ⟨bb, 58, none⟩ = some (.int .i64 4) := Blk.cell HXR.out 58
      have b3 : wr.cell? ⟨bb, 59, none⟩ = some (.int .i64 1) := Blk.cell HXR.out 59
      have b4 : wr.cell? ⟨bb, 60, none⟩ = some (.int .i64 0) := Blk.cell HXR.out 60
      have b5 : wr.cell? ⟨bb, 61, none⟩ = some (.string ⟨#[]⟩) := Blk.cell HXR.out 61
      have b6 : wr.cell? ⟨bb, 62, none⟩ = some (.int .i64 0) := Blk.cell HXR.out 62
      have b7 : wr.cell? ⟨bb, 63, none⟩ = some (.int .i64 0) := Blk.cell HXR.out 63
      go_wp2_with fail
      refine Calls.mono (scr7 HS.out) ?_
      rintro e w3 ⟨rfl, hA3, hk3⟩
      have HN : Hid (scrS w.heap.size pb hb mh mw B rb 8 w3) := hA3
      have HK : Hid _ := hk3
      clear hA3 hk3 b0 b1 b2 b3 b4 b5 b6 b7
      go_wp2_with fail
      go_roundw
      case rel => exact ⟨8, by omega, by rfl, HN.out, HK.out.op _ _ HXR.out, HBL.out.trans HK.out.lo⟩
      case measure => simp [intOf]
    · obtain ⟨x, y, z, u, hA⟩ := HS.out
      have c0 : wr.cell? ⟨pb, 0, none⟩ = some (.pointer (some ⟨hb, 0, none⟩)) := hA.p.cell 0
      have HK1 : Hid (Calls Try.prog 23 #[.pointer (some ⟨hb, 0, none⟩), .string ⟨#[97]⟩] wr fun q w' => q = .returned (.bool true) ∧ w' = wr) := by
        have := knows_any [97] wr hA.t
        rw [show knows [97] (KNof 3 [[97], [99]]) = true from by decide] at this
        exact this
      have HK2 : Hid (Calls Try.prog 23 #[.pointer (some ⟨hb, 0, none⟩), .string ⟨#[98]⟩] wr fun q w' => q = .returned (.bool false) ∧ w' = wr) := by
        have := knows_any [98] wr hA.t
        rw [show knows [98] (KNof 3 [[97], [99]]) = false from by decide] at this
        exact this
      clear hA HS HXR
      go_wp2_with fail
      refine Calls.mono HK1.out ?_
      rintro e w4 ⟨rfl, hw4⟩
      subst hw4
      go_wp2_with fail
      refine Calls.mono HK2.out ?_
      rintro e w5 ⟨rfl, hw5⟩
      subst hw5
      go_wp2_with fail
      go_ret
      exact ⟨rfl, HBL.out⟩
end Go.Proofs.Ytbjlaloofpdbfaa
