import Derived.Test.YtkdndfdofhnagaaDoorE2
import Derived.Test.YtkdndfdofhnagaaDoorE3
import Derived.Test.YtkdndfdofhnagaaDoorE4
import Derived.Test.YtkdndfdofhnagaaDoorE5
namespace Go.Proofs.YtkdndfdofhnagaaDoor
open Go.RowKit Go.PlainAid
set_option linter.unusedVariables false
set_option linter.unusedSimpArgs false
theorem CPost.below {S : Sens} {L : Nat} {a : PA} {p : PS} {n : Nat} {c' : CS} {w w0 w' : World} (h : CPost S L a p n c' w0 w') (hb : Below w.heap.size w w0) : CPost S L a p n c' w w' := by
  obtain ⟨p', h1, h2, h3, h4⟩ := h.ex
  exact ⟨p', h1, (PStp.ofBelow hb).trans h2, h3, h4⟩
set_option maxRecDepth 100000 in
set_option maxHeartbeats 3200000 in
theorem call2f {S : Sens} {L : Nat} {a : PA} {p : PS} {n : Nat} (w : World) (h : PInv S L a p p.c w) (hG : Gd n p) (hn : n ≤ 2000) (A B : Int) (hA : IntKind.i64.wrap A = A) :
    Calls Tryd.prog 30 #[.pointer (some ⟨a.pb, 0, none⟩), .agg #[.int .i64 2, .int .i64 A, .int .i64 B, .bool false]] w fun r w' => r = .returned (.bool true) ∧ CPost S L a p n (p.c.play 2 A B false) w w' := by
  have hgr : Below w.heap.size w (w.alloc (.cells #[.int .i64 2, .int .i64 A, .int .i64 B, .bool false] 29)) := (Below.refl _ _).alloc (Nat.le_refl _) _
  have HE : Hid _ := ends2f _ (h.below hgr) hG hn A B hA
  have HB : Hid _ := hgr
  clear h hgr hG hA
  generalize p.c.play 2 A B false = cc at *
  go_enter Tryd.func30, Tryd.ntmps30
  go_wp2_with fail
  refine Calls.mono HE.out ?_
  rintro e w1 ⟨rfl, hp⟩
  have HF : Hid _ := hp.below HB.out
  clear hp
  go_wp2_with fail
  go_ret
  exact ⟨rfl, HF.out⟩
set_option maxRecDepth 100000 in
set_option maxHeartbeats 3200000 in
theorem call2t {S : Sens} {L : Nat} {a : PA} {p : PS} {n : Nat} (w : World) (h : PInv S L a p p.c w) (hG : Gd n p) (hn : n ≤ 2000) (A B : Int) (hA : IntKind.i64.wrap A = A) :
    Calls Tryd.prog 30 #[.pointer (some ⟨a.pb, 0, none⟩), .agg #[.int .i64 2, .int .i64 A, .int .i64 B, .bool true]] w fun r w' => r = .returned (.bool true) ∧ CPost S L a p n (p.c.play 2 A B true) w w' := by
  have hgr : Below w.heap.size w (w.alloc (.cells #[.int .i64 2, .int .i64 A, .int .i64 B, .bool true] 29)) := (Below.refl _ _).alloc (Nat.le_refl _) _
  have HE : Hid _ := ends2t _ (h.below hgr) hG hn A B hA
  have HB : Hid _ := hgr
  clear h hgr hG hA
  generalize p.c.play 2 A B true = cc at *
  go_enter Tryd.func30, Tryd.ntmps30
  go_wp2_with fail
  refine Calls.mono HE.out ?_
  rintro e w1 ⟨rfl, hp⟩
  have HF : Hid _ := hp.below HB.out
  clear hp
  go_wp2_with fail
  go_ret
  exact ⟨rfl, HF.out⟩
set_option maxRecDepth 100000 in
set_option maxHeartbeats 3200000 in
theorem call3f {S : Sens} {L : Nat} {a : PA} {p : PS} {n : Nat} (w : World) (h : PInv S L a p p.c w) (hG : Gd n p) (hn : n ≤ 2000) (A B : Int) (hA : IntKind.i64.wrap A = A) :
    Calls Tryd.prog 30 #[.pointer (some ⟨a.pb, 0, none⟩), .agg #[.int .i64 3, .int .i64 A, .int .i64 B, .bool false]] w fun r w' => r = .returned (.bool true) ∧ CPost S L a p n (p.c.play 3 A B false) w w' := by
  have hgr : Below w.heap.size w (w.alloc (.cells #[.int .i64 3, .int .i64 A, .int .i64 B, .bool false] 29)) := (Below.refl _ _).alloc (Nat.le_refl _) _
  have HE : Hid _ := ends3f _ (h.below hgr) hG hn A B hA
  have HB : Hid _ := hgr
  clear h hgr hG hA
  generalize p.c.play 3 A B false = cc at *
  go_enter Tryd.func30, Tryd.ntmps30
  go_wp2_with fail
  refine Calls.mono HE.out ?_
  rintro e w1 ⟨rfl, hp⟩
  have HF : Hid _ := hp.below HB.out
  clear hp
  go_wp2_with fail
  go_ret
  exact ⟨rfl, HF.out⟩
set_option maxRecDepth 100000 in
set_option maxHeartbeats 3200000 in
theorem call3t {S : Sens} {L : Nat} {a : PA} {p : PS} {n : Nat} (w : World) (h : PInv S L a p p.c w) (hG : Gd n p) (hn : n ≤ 2000) (A B : Int) (hA : IntKind.i64.wrap A = A) :
    Calls Tryd.prog 30 #[.pointer (some ⟨a.pb, 0, none⟩), .agg #[.int .i64 3, .int .i64 A, .int .i64 B, .bool true]] w fun r w' => r = .returned (.bool true) ∧ CPost S L a p n (p.c.play 3 A B true) w w' := by
  have hgr : Below w.heap.size w (w.alloc (.cells #[.int .i64 3, .int .i64 A, .int .i64 B, .bool true] 29)) := (Below.refl _ _).alloc (Nat.le_refl _) _
  have HE : Hid _ := ends3t _ (h.below hgr) hG hn A B hA
  have HB : Hid _ := hgr
  clear h hgr hG hA
  generalize p.c.play 3 A B true = cc at *
  go_enter Tryd.func30, Tryd.ntmps30
  go_wp2_with fail
  refine Calls.mono HE.out ?_
  rintro e w1 ⟨rfl, hp⟩
  have HF : Hid _ := hp.below HB.out
  clear hp
  go_wp2_with fail
  go_ret
  exact ⟨rfl, HF.out⟩
set_option maxRecDepth 100000 in
set_option maxHeartbeats 3200000 in
theorem call4f {S : Sens} {L : Nat} {a : PA} {p : PS} {n : Nat} (w : World) (h : PInv S L a p p.c w) (hG : Gd n p) (hn : n ≤ 2000) (A B : Int) (hA : IntKind.i64.wrap A = A) :
    Calls Tryd.prog 30 #[.pointer (some ⟨a.pb, 0, none⟩), .agg #[.int .i64 4, .int .i64 A, .int .i64 B, .bool false]] w fun r w' => r = .returned (.bool true) ∧ CPost S L a p n (p.c.play 4 A B false) w w' := by
  have hgr : Below w.heap.size w (w.alloc (.cells #[.int .i64 4, .int .i64 A, .int .i64 B, .bool false] 29)) := (Below.refl _ _).alloc (Nat.le_refl _) _
  have HE : Hid _ := ends4f _ (h.below hgr) hG hn A B hA
  have HB : Hid _ := hgr
  clear h hgr hG hA
  generalize p.c.play 4 A B false = cc at *
  go_enter Tryd.func30, Tryd.ntmps30
  go_wp2_with fail
  refine Calls.mono HE.out ?_
  rintro e w1 ⟨rfl, hp⟩
  have HF : Hid _ := hp.below HB.out
  clear hp
  go_wp2_with fail
  go_ret
  exact ⟨rfl, HF.out⟩
set_option maxRecDepth 100000 in
set_option maxHeartbeats 3200000 in
theorem call4t {S : Sens} {L : Nat} {a : PA} {p : PS} {n : Nat} (w : World) (h : PInv S L a p p.c w) (hG : Gd n p) (hn : n ≤ 2000) (A B : Int) (hA : IntKind.i64.wrap A = A) :
    Calls Tryd.prog 30 #[.pointer (some ⟨a.pb, 0, none⟩), .agg #[.int .i64 4, .int .i64 A, .int .i64 B, .bool true]] w fun r w' => r = .returned (.bool true) ∧ CPost S L a p n (p.c.play 4 A B true) w w' := by
  have hgr : Below w.heap.size w (w.alloc (.cells #[.int .i64 4, .int .i64 A, .int .i64 B, .bool true] 29)) := (Below.refl _ _).alloc (Nat.le_refl _) _
  have HE : Hid _ := ends4t _ (h.below hgr) hG hn A B hA
  have HB : Hid _ := hgr
  clear h hgr hG hA
  generalize p.c.play 4 A B true = cc at *
  go_enter Tryd.func30, Tryd.ntmps30
  go_wp2_with fail
  refine Calls.mono HE.out ?_
  rintro e w1 ⟨rfl, hp⟩
  have HF : Hid _ := hp.below HB.out
  clear hp
  go_wp2_with fail
  go_ret
  exact ⟨rfl, HF.out⟩
set_option maxRecDepth 100000 in
set_option maxHeartbeats 3200000 in
theorem call5f {S : Sens} {L : Nat} {a : PA} {p : PS} {n : Nat} (w : World) (h : PInv S L a p p.c w) (hG : Gd n p) (hn : n ≤ 2000) (A B : Int) (hA : IntKind.i64.wrap A = A) :
    Calls Tryd.prog 30 #[.pointer (some ⟨a.pb, 0, none⟩), .agg #[.int .i64 5, .int .i64 A, .int .i64 B, .bool false]] w fun r w' => r = .returned (.bool true) ∧ CPost S L a p n (p.c.play 5 A B false) w w' := by
  have hgr : Below w.heap.size w (w.alloc (.cells #[.int .i64 5, .int .i64 A, .int .i64 B, .bool false] 29)) := (Below.refl _ _).alloc (Nat.le_refl _) _
  have HE : Hid _ := ends5f _ (h.below hgr) hG hn A B hA
  have HB : Hid _ := hgr
  clear h hgr hG hA
  generalize p.c.play 5 A B false = cc at *
  go_enter Tryd.func30, Tryd.ntmps30
  go_wp2_with fail
  refine Calls.mono HE.out ?_
  rintro e w1 ⟨rfl, hp⟩
  have HF : Hid _ := hp.below HB.out
  clear hp
  go_wp2_with fail
  go_ret
  exact ⟨rfl, HF.out⟩
set_option maxRecDepth 100000 in
set_option maxHeartbeats 3200000 in
theorem call5t {S : Sens} {L : Nat} {a : PA} {p : PS} {n : Nat} (w : World) (h : PInv S L a p p.c w) (hG : Gd n p) (hn : n ≤ 2000) (A B : Int) (hA : IntKind.i64.wrap A = A) :
    Calls Tryd.prog 30 #[.pointer (some ⟨a.pb, 0, none⟩), .agg #[.int .i64 5, .int .i64 A, .int .i64 B, .bool true]] w fun r w' => r = .returned (.bool true) ∧ CPost S L a p n (p.c.play 5 A B true) w w' := by
  have hgr : Below w.heap.size w (w.alloc (.cells #[.int .i64 5, .int .i64 A, .int .i64 B, .bool true] 29)) := (Below.refl _ _).alloc (Nat.le_refl _) _
  have HE : Hid _ := ends5t _ (h.below hgr) hG hn A B hA
  have HB : Hid _ := hgr
  clear h hgr hG hA
  generalize p.c.play 5 A B true = cc at *
  go_enter Tryd.func30, Tryd.ntmps30
  go_wp2_with fail
  refine Calls.mono HE.out ?_
  rintro e w1 ⟨rfl, hp⟩
  have HF : Hid _ := hp.below HB.out
  clear hp
  go_wp2_with fail
  go_ret
  exact ⟨rfl, HF.out⟩
end Go.Proofs.YtkdndfdofhnagaaDoor
