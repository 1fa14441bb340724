import Derived.Test.YtkdndfdofhnagaaDoorJK
import Derived.Test.YtkdndfdofhnagaaDoorC1
import Derived.Test.YtkdndfdofhnagaaDoorC2
import Derived.Test.YtkdndfdofhnagaaDoorC6
import Derived.Test.YtkdndfdofhnagaaDoorC8
import Derived.Test.YtkdndfdofhnagaaDoorJL
namespace Go.Proofs.YtkdndfdofhnagaaDoor
open Go.RowKit Go.PlainAid
set_option linter.unusedVariables false
set_option linter.unusedSimpArgs false
theorem call_any {S : Sens} {L : Nat} {a : PA} {p : PS} {n : Nat} (w : World) (h : PInv S L a p p.c w) (hG : Gd n p) (hn : n ≤ 2000) (K A B : Int) (o : Bool) (hA : IntKind.i64.wrap A = A) (hB : IntKind.i64.wrap B = B) :
    Calls Tryd.prog 30 #[.pointer (some ⟨a.pb, 0, none⟩), .agg #[.int .i64 K, .int .i64 A, .int .i64 B, .bool o]] w fun r w' => r = .returned (.bool true) ∧ CPost S L a p n (p.c.play K A B o) w w' := by
  by_cases hk : 1 ≤ K ∧ K ≤ 11
  · have hc : K = 1 ∨ K = 2 ∨ K = 3 ∨ K = 4 ∨ K = 5 ∨ K = 6 ∨ K = 7 ∨ K = 8 ∨ K = 9 ∨ K = 10 ∨ K = 11 := by omega
    rcases hc with rfl | rfl | rfl | rfl | rfl | rfl | rfl | rfl | rfl | rfl | rfl
    · cases o
      · exact call1f w h hG hn A B hA hB
      · exact call1t w h hG hn A B hA hB
    · cases o
      · exact call2f w h hG hn A B hA
      · exact call2t w h hG hn A B hA
    · cases o
      · exact call3f w h hG hn A B hA
      · exact call3t w h hG hn A B hA
    · cases o
      · exact call4f w h hG hn A B hA
      · exact call4t w h hG hn A B hA
    · cases o
      · exact call5f w h hG hn A B hA
      · exact call5t w h hG hn A B hA
    · cases o
      · exact call6f w h hG hn A B hA hB
      · exact call6t w h hG hn A B hA hB
    · cases o
      · exact call7f w h hG hn A B hA hB
      · exact call7t w h hG hn A B hA hB
    · cases o
      · exact call8f w h hG hn A B hA hB
      · exact call8t w h hG hn A B hA hB
    · cases o
      · exact call9f w h hG hn A B hA hB
      · exact call9t w h hG hn A B hA hB
    · cases o
      · exact call10f w h hG hn A B hA hB
      · exact call10t w h hG hn A B hA hB
    · cases o
      · exact call11f w h hG hn A B hA hB
      · exact call11t w h hG hn A B hA hB
  · cases o
    · exact call0f w h hG K A B hk
    · exact call0t w h hG K A B hk
theorem CPost.more {S : Sens} {L : Nat} {a : PA} {p : PS} {n : Nat} {c' : CS} {w w1 w' : World} (h : CPost S L a p n c' w w1) (hb : Below w1.heap.size w1 w') : CPost S L a p n c' w w' := by
  obtain ⟨p', h1, h2, h3, h4⟩ := h.ex
  exact ⟨p', h1.below hb, h2.trans (PStp.ofBelow hb), h3, h4⟩
set_option maxRecDepth 100000 in
set_option maxHeartbeats 1600000 in
theorem plays_any {S : Sens} {L : Nat} {a : PA} {p : PS} {n : Nat} (w : World) (h : PInv S L a p p.c w) (hG : Gd n p) (hn : n ≤ 2000) (K A B : Int) (o : Bool) (hA : IntKind.i64.wrap A = A) (hB : IntKind.i64.wrap B = B) :
    Calls Tryd.prog 10 #[.pointer (some ⟨a.pb, 0, none⟩), .agg #[.int .i64 K, .int .i64 A, .int .i64 B, .bool o]] w fun r w' => r = .returned (.bool true) ∧ CPost S L a p n (p.c.play K A B o) w w' := by
  have hgr : Below w.heap.size w (w.alloc (.cells #[.int .i64 K, .int .i64 A, .int .i64 B, .bool o] 29)) := (Below.refl _ _).alloc (Nat.le_refl _) _
  have HC : Hid _ := call_any _ (h.below hgr) hG hn K A B o hA hB
  have HB : Hid _ := hgr
  clear h hgr hG hA hB
  generalize p.c.play K A B o = cc at *
  go_enter Tryd.func10, Tryd.ntmps10
  go_wp2_with fail
  refine Calls.mono HC.out ?_
  rintro e w1 ⟨rfl, hp⟩
  have hp1 := hp.below HB.out
  obtain ⟨p', h1, h2, h3, h4⟩ := hp1.ex
  have HS : Hid _ := same_any w1 h1
  have HP : Hid _ := hp1
  have HI : Hid _ := h1
  have HG : Hid _ := h3
  clear hp hp1 h1 h2 h3 h4
  go_wp2_with fail
  refine Calls.mono HS.out ?_
  rintro e w2 ⟨rfl, hb2⟩
  have hI2 := HI.out.below hb2
  have HT : Hid _ := stands_any w2 hI2.sh HG.out.full hI2.c6 hI2.c7
  have HP2 : Hid _ := HP.out.more hb2
  clear hb2 hI2
  go_wp2_with fail
  refine Calls.mono HT.out ?_
  rintro e w3 ⟨rfl, q, rfl⟩
  have HP3 : Hid _ := HP2.out.more (below_drewN q (Below.refl _ _))
  go_wp2_with fail
  go_ret
  exact ⟨rfl, HP3.out⟩
end Go.Proofs.YtkdndfdofhnagaaDoor
