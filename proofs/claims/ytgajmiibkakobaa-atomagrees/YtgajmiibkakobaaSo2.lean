import Derived.Test.YtgajmiibkakobaaSo1
import Derived.Deep.Cut
namespace Go.Proofs.Ytgajmiibkakobaa
open Go.RowKit Go.PlainAid Go.MapKept
set_option linter.unusedVariables false
set_option linter.unusedSimpArgs false
set_option maxRecDepth 100000 in
set_option maxHeartbeats 3200000 in
theorem fit_1 (A B : Int) (hB : 0 ≤ B ∧ B ≤ 1099511627776) (n : List UInt8) (w : World) :
    Calls Try.prog 18 #[.agg #[.int .i64 1, .string ⟨n.toArray⟩, .int .i64 A, .int .i64 B], .int .i64 0, .agg #[.int .i64 0, .int .i64 0, .int .i64 0, .bool false], .agg #[.int .i64 B, .int .i64 0, .int .i64 A, .bool true]] w fun e w' => e = .returned (.bool true) ∧ Below w.heap.size w w' := by
  obtain ⟨ob, hob⟩ : ∃ b, b = w.heap.size := ⟨_, rfl⟩
  obtain ⟨xa, hxa⟩ : ∃ b, b = w.heap.size + 1 := ⟨_, rfl⟩
  obtain ⟨xb, hxb⟩ : ∃ b, b = w.heap.size + 1 + 1 := ⟨_, rfl⟩
  obtain ⟨X, hX⟩ : ∃ X, X = (((w.alloc (.cells #[.int .i64 1, .string ⟨n.toArray⟩, .int .i64 A, .int .i64 B] 31)).alloc (.cells #[.int .i64 0, .int .i64 0, .int .i64 0, .bool false] 45)).alloc (.cells #[.int .i64 B, .int .i64 0, .int .i64 A, .bool true] 45)) := ⟨_, rfl⟩
  have HBX : Hid (Below w.heap.size w X) := show Below w.heap.size w X from by rw [hX]; exact ((((Below.refl _ _).alloc (by first | exact Nat.le_refl _ | (simp; try omega)) _).alloc (by first | exact Nat.le_refl _ | (simp; try omega)) _).alloc (by first | exact Nat.le_refl _ | (simp; try omega)) _)
  have Bob : Blk X ob #[.int .i64 1, .string ⟨n.toArray⟩, .int .i64 A, .int .i64 B] 31 := by rw [hX]; exact (blk_alloc (blk_alloc (show Blk (w.alloc (.cells #[.int .i64 1, .string ⟨n.toArray⟩, .int .i64 A, .int .i64 B] 31)) ob #[.int .i64 1, .string ⟨n.toArray⟩, .int .i64 A, .int .i64 B] 31 from by rw [hob]; have h := heap_alloc_new w (.cells #[.int .i64 1, .string ⟨n.toArray⟩, .int .i64 A, .int .i64 B] 31); exact h) _) _)
  have Bxa : Blk X xa #[.int .i64 0, .int .i64 0, .int .i64 0, .bool false] 45 := by rw [hX]; exact (blk_alloc (show Blk ((w.alloc (.cells #[.int .i64 1, .string ⟨n.toArray⟩, .int .i64 A, .int .i64 B] 31)).alloc (.cells #[.int .i64 0, .int .i64 0, .int .i64 0, .bool false] 45)) xa #[.int .i64 0, .int .i64 0, .int .i64 0, .bool false] 45 from by rw [hxa]; have h := heap_alloc_new (w.alloc (.cells #[.int .i64 1, .string ⟨n.toArray⟩, .int .i64 A, .int .i64 B] 31)) (.cells #[.int .i64 0, .int .i64 0, .int .i64 0, .bool false] 45); simp only [World.size_alloc] at h; exact h) _)
  have Bxb : Blk X xb #[.int .i64 B, .int .i64 0, .int .i64 A, .bool true] 45 := by rw [hX]; exact (show Blk (((w.alloc (.cells #[.int .i64 1, .string ⟨n.toArray⟩, .int .i64 A, .int .i64 B] 31)).alloc (.cells #[.int .i64 0, .int .i64 0, .int .i64 0, .bool false] 45)).alloc (.cells #[.int .i64 B, .int .i64 0, .int .i64 A, .bool true] 45)) xb #[.int .i64 B, .int .i64 0, .int .i64 A, .bool true] 45 from by rw [hxb]; have h := heap_alloc_new ((w.alloc (.cells #[.int .i64 1, .string ⟨n.toArray⟩, .int .i64 A, .int .i64 B] 31)).alloc (.cells #[.int .i64 0, .int .i64 0, .int .i64 0, .bool false] 45)) (.cells #[.int .i64 B, .int .i64 0, .int .i64 A, .bool true] 45); simp only [World.size_alloc] at h; exact h)
  have cob0 : X.cell? ⟨ob, 0, none⟩ = some (.int .i64 1) := Bob.cell 0
  have cob1 : X.cell? ⟨ob, 1, none⟩ = some (.string ⟨n.toArray⟩) := Bob.cell 1
  have cob2 : X.cell? ⟨ob, 2, none⟩ = some (.int .i64 A) := Bob.cell 2
  have cob3 : X.cell? ⟨ob, 3, none⟩ = some (.int .i64 B) := Bob.cell 3
  have cxa0 : X.cell? ⟨xa, 0, none⟩ = some (.int .i64 0) := Bxa.cell 0
  have cxa1 : X.cell? ⟨xa, 1, none⟩ = some (.int .i64 0) := Bxa.cell 1
  have cxa2 : X.cell? ⟨xa, 2, none⟩ = some (.int .i64 0) := Bxa.cell 2
  have cxa3 : X.cell? ⟨xa, 3, none⟩ = some (.bool false) := Bxa.cell 3
  have cxb0 : X.cell? ⟨xb, 0, none⟩ = some (.int .i64 B) := Bxb.cell 0
  have cxb1 : X.cell? ⟨xb, 1, none⟩ = some (.int .i64 0) := Bxb.cell 1
  have cxb2 : X.cell? ⟨xb, 2, none⟩ = some (.int .i64 A) := Bxb.cell 2
  have cxb3 : X.cell? ⟨xb, 3, none⟩ = some (.bool true) := Bxb.cell 3
  clear Bob Bxa Bxb
  have q1 : IntKind.i64.wrap (B - 0) = B := by rw [Int.sub_zero]; exact wr (by omega) (by omega)
  have q2 : IntKind.i64.wrap (0 - 0) = 0 := rfl
  go_enter Try.func18, Try.ntmps18
  go_upto_region 1 with fail
  rw [← hX, ← hxb, ← hxa, ← hob]
  clear hX hob hxa hxb
  go_wp2_with fail
  go_ret
  exact ⟨rfl, HBX.out⟩
set_option maxRecDepth 100000 in
set_option maxHeartbeats 3200000 in
theorem fit_2 (v h l A B : Int) (hv : 0 ≤ v ∧ v ≤ 1099511627776) (hh : 0 ≤ h ∧ h ≤ 1099511627776) (hA : 1 ≤ A ∧ A ≤ 1099511627776) (n : List UInt8) (w : World) :
    Calls Try.prog 18 #[.agg #[.int .i64 2, .string ⟨n.toArray⟩, .int .i64 A, .int .i64 B], .int .i64 0, .agg #[.int .i64 v, .int .i64 h, .int .i64 l, .bool true], .agg #[.int .i64 (v + A), .int .i64 h, .int .i64 l, .bool true]] w fun e w' => e = .returned (.bool true) ∧ Below w.heap.size w w' := by
  obtain ⟨ob, hob⟩ : ∃ b, b = w.heap.size := ⟨_, rfl⟩
  obtain ⟨xa, hxa⟩ : ∃ b, b = w.heap.size + 1 := ⟨_, rfl⟩
  obtain ⟨xb, hxb⟩ : ∃ b, b = w.heap.size + 1 + 1 := ⟨_, rfl⟩
  obtain ⟨X, hX⟩ : ∃ X, X = (((w.alloc (.cells #[.int .i64 2, .string ⟨n.toArray⟩, .int .i64 A, .int .i64 B] 31)).alloc (.cells #[.int .i64 v, .int .i64 h, .int .i64 l, .bool true] 45)).alloc (.cells #[.int .i64 (v + A), .int .i64 h, .int .i64 l, .bool true] 45)) := ⟨_, rfl⟩
  have HBX : Hid (Below w.heap.size w X) := show Below w.heap.size w X from by rw [hX]; exact ((((Below.refl _ _).alloc (by first | exact Nat.le_refl _ | (simp; try omega)) _).alloc (by first | exact Nat.le_refl _ | (simp; try omega)) _).alloc (by first | exact Nat.le_refl _ | (simp; try omega)) _)
  have Bob : Blk X ob #[.int .i64 2, .string ⟨n.toArray⟩, .int .i64 A, .int .i64 B] 31 := by rw [hX]; exact (blk_alloc (blk_alloc (show Blk (w.alloc (.cells #[.int .i64 2, .string ⟨n.toArray⟩, .int .i64 A, .int .i64 B] 31)) ob #[.int .i64 2, .string ⟨n.toArray⟩, .int .i64 A, .int .i64 B] 31 from by rw [hob]; have h := heap_alloc_new w (.cells #[.int .i64 2, .string ⟨n.toArray⟩, .int .i64 A, .int .i64 B] 31); exact h) _) _)
  have Bxa : Blk X xa #[.int .i64 v, .int .i64 h, .int .i64 l, .bool true] 45 := by rw [hX]; exact (blk_alloc (show Blk ((w.alloc (.cells #[.int .i64 2, .string ⟨n.toArray⟩, .int .i64 A, .int .i64 B] 31)).alloc (.cells #[.int .i64 v, .int .i64 h, .int .i64 l, .bool true] 45)) xa #[.int .i64 v, .int .i64 h, .int .i64 l, .bool true] 45 from by rw [hxa]; have h := heap_alloc_new (w.alloc (.cells #[.int .i64 2, .string ⟨n.toArray⟩, .int .i64 A, .int .i64 B] 31)) (.cells #[.int .i64 v, .int .i64 h, .int .i64 l, .bool true] 45); simp only [World.size_alloc] at h; exact h) _)
  have Bxb : Blk X xb #[.int .i64 (v + A), .int .i64 h, .int .i64 l, .bool true] 45 := by rw [hX]; exact (show Blk (((w.alloc (.cells #[.int .i64 2, .string ⟨n.toArray⟩, .int .i64 A, .int .i64 B] 31)).alloc (.cells #[.int .i64 v, .int .i64 h, .int .i64 l, .bool true] 45)).alloc (.cells #[.int .i64 (v + A), .int .i64 h, .int .i64 l, .bool true] 45)) xb #[.int .i64 (v + A), .int .i64 h, .int .i64 l, .bool true] 45 from by rw [hxb]; have h := heap_alloc_new ((w.alloc (.cells #[.int .i64 2, .string ⟨n.toArray⟩, .int .i64 A, .int .i64 B] 31)).alloc (.cells #[.int .i64 v, .int .i64 h, .int .i64 l, .bool true] 45)) (.cells #[.int .i64 (v + A), .int .i64 h, .int .i64 l, .bool true] 45); simp only [World.size_alloc] at h; exact h)
  have cob0 : X.cell? ⟨ob, 0, none⟩ = some (.int .i64 2) := Bob.cell 0
  have cob1 : X.cell? ⟨ob, 1, none⟩ = some (.string ⟨n.toArray⟩) := Bob.cell 1
  have cob2 : X.cell? ⟨ob, 2, none⟩ = some (.int .i64 A) := Bob.cell 2
  have cob3 : X.cell? ⟨ob, 3, none⟩ = some (.int .i64 B) := Bob.cell 3
  have cxa0 : X.cell? ⟨xa, 0, none⟩ = some (.int .i64 v) := Bxa.cell 0
  have cxa1 : X.cell? ⟨xa, 1, none⟩ = some (.int .i64 h) := Bxa.cell 1
  have cxa2 : X.cell? ⟨xa, 2, none⟩ = some (.int .i64 l) := Bxa.cell 2
  have cxa3 : X.cell? ⟨xa, 3, none⟩ = some (.bool true) := Bxa.cell 3
  have cxb0 : X.cell? ⟨xb, 0, none⟩ = some (.int .i64 (v + A)) := Bxb.cell 0
  have cxb1 : X.cell? ⟨xb, 1, none⟩ = some (.int .i64 h) := Bxb.cell 1
  have cxb2 : X.cell? ⟨xb, 2, none⟩ = some (.int .i64 l) := Bxb.cell 2
  have cxb3 : X.cell? ⟨xb, 3, none⟩ = some (.bool true) := Bxb.cell 3
  clear Bob Bxa Bxb
  have q1 : IntKind.i64.wrap (v + A - v) = A := by rw [show v + A - v = A by omega]; exact wr (by omega) (by omega)
  have q2 : IntKind.i64.wrap (h - h) = 0 := by rw [show h - h = 0 by omega]; rfl
  clear hv hh hA
  go_enter Try.func18, Try.ntmps18
  go_upto_region 1 with fail
  rw [← hX, ← hxb, ← hxa, ← hob]
  clear hX hob hxa hxb
  go_wp2_with fail
  go_ret
  exact ⟨rfl, HBX.out⟩
set_option maxRecDepth 100000 in
set_option maxHeartbeats 3200000 in
theorem fit_3 (v h l A B : Int) (hv : 0 ≤ v ∧ v ≤ 1099511627776) (hh : 0 ≤ h ∧ h ≤ 1099511627776) (hA : 1 ≤ A ∧ A ≤ 1099511627776) (n : List UInt8) (w : World) :
    Calls Try.prog 18 #[.agg #[.int .i64 3, .string ⟨n.toArray⟩, .int .i64 A, .int .i64 B], .int .i64 0, .agg #[.int .i64 v, .int .i64 h, .int .i64 l, .bool true], .agg #[.int .i64 (v - A), .int .i64 h, .int .i64 l, .bool true]] w fun e w' => e = .returned (.bool true) ∧ Below w.heap.size w w' := by
  obtain ⟨ob, hob⟩ : ∃ b, b = w.heap.size := ⟨_, rfl⟩
  obtain ⟨xa, hxa⟩ : ∃ b, b = w.heap.size + 1 := ⟨_, rfl⟩
  obtain ⟨xb, hxb⟩ : ∃ b, b = w.heap.size + 1 + 1 := ⟨_, rfl⟩
  obtain ⟨X, hX⟩ : ∃ X, X = (((w.alloc (.cells #[.int .i64 3, .string ⟨n.toArray⟩, .int .i64 A, .int .i64 B] 31)).alloc (.cells #[.int .i64 v, .int .i64 h, .int .i64 l, .bool true] 45)).alloc (.cells #[.int .i64 (v - A), .int .i64 h, .int .i64 l, .bool true] 45)) := ⟨_, rfl⟩
  have HBX : Hid (Below w.heap.size w X) := show Below w.heap.size w X from by rw [hX]; exact ((((Below.refl _ _).alloc (by first | exact Nat.le_refl _ | (simp; try omega)) _).alloc (by first | exact Nat.le_refl _ | (simp; try omega)) _).alloc (by first | exact Nat.le_refl _ | (simp; try omega)) _)
  have Bob : Blk X ob #[.int .i64 3, .string ⟨n.toArray⟩, .int .i64 A, .int .i64 B] 31 := by rw [hX]; exact (blk_alloc (blk_alloc (show Blk (w.alloc (.cells #[.int .i64 3, .string ⟨n.toArray⟩, .int .i64 A, .int .i64 B] 31)) ob #[.int .i64 3, .string ⟨n.toArray⟩, .int .i64 A, .int .i64 B] 31 from by rw [hob]; have h := heap_alloc_new w (.cells #[.int .i64 3, .string ⟨n.toArray⟩, .int .i64 A, .int .i64 B] 31); exact h) _) _)
  have Bxa : Blk X xa #[.int .i64 v, .int .i64 h, .int .i64 l, .bool true] 45 := by rw [hX]; exact (blk_alloc (show Blk ((w.alloc (.cells #[.int .i64 3, .string ⟨n.toArray⟩, .int .i64 A, .int .i64 B] 31)).alloc (.cells #[.int .i64 v, .int .i64 h, .int .i64 l, .bool true] 45)) xa #[.int .i64 v, .int .i64 h, .int .i64 l, .bool true] 45 from by rw [hxa]; have h := heap_alloc_new (w.alloc (.cells #[.int .i64 3, .string ⟨n.toArray⟩, .int .i64 A, .int .i64 B] 31)) (.cells #[.int .i64 v, .int .i64 h, .int .i64 l, .bool true] 45); simp only [World.size_alloc] at h; exact h) _)
  have Bxb : Blk X xb #[.int .i64 (v - A), .int .i64 h, .int .i64 l, .bool true] 45 := by rw [hX]; exact (show Blk (((w.alloc (.cells #[.int .i64 3, .string ⟨n.toArray⟩, .int .i64 A, .int .i64 B] 31)).alloc (.cells #[.int .i64 v, .int .i64 h, .int .i64 l, .bool true] 45)).alloc (.cells #[.int .i64 (v - A), .int .i64 h, .int .i64 l, .bool true] 45)) xb #[.int .i64 (v - A), .int .i64 h, .int .i64 l, .bool true] 45 from by rw [hxb]; have h := heap_alloc_new ((w.alloc (.cells #[.int .i64 3, .string ⟨n.toArray⟩, .int .i64 A, .int .i64 B] 31)).alloc (.cells #[.int .i64 v, .int .i64 h, .int .i64 l, .bool true] 45)) (.cells #[.int .i64 (v - A), .int .i64 h, .int .i64 l, .bool true] 45); simp only [World.size_alloc] at h; exact h)
  have cob0 : X.cell? ⟨ob, 0, none⟩ = some (.int .i64 3) := Bob.cell 0
  have cob1 : X.cell? ⟨ob, 1, none⟩ = some (.string ⟨n.toArray⟩) := Bob.cell 1
  have cob2 : X.cell? ⟨ob, 2, none⟩ = some (.int .i64 A) := Bob.cell 2
  have cob3 : X.cell? ⟨ob, 3, none⟩ = some (.int .i64 B) := Bob.cell 3
  have cxa0 : X.cell? ⟨xa, 0, none⟩ = some (.int .i64 v) := Bxa.cell 0
  have cxa1 : X.cell? ⟨xa, 1, none⟩ = some (.int .i64 h) := Bxa.cell 1
  have cxa2 : X.cell? ⟨xa, 2, none⟩ = some (.int .i64 l) := Bxa.cell 2
  have cxa3 : X.cell? ⟨xa, 3, none⟩ = some (.bool true) := Bxa.cell 3
  have cxb0 : X.cell? ⟨xb, 0, none⟩ = some (.int .i64 (v - A)) := Bxb.cell 0
  have cxb1 : X.cell? ⟨xb, 1, none⟩ = some (.int .i64 h) := Bxb.cell 1
  have cxb2 : X.cell? ⟨xb, 2, none⟩ = some (.int .i64 l) := Bxb.cell 2
  have cxb3 : X.cell? ⟨xb, 3, none⟩ = some (.bool true) := Bxb.cell 3
  clear Bob Bxa Bxb
  have q1 : IntKind.i64.wrap (v - A - v) = -A := by rw [show v - A - v = -A by omega]; exact wr (by omega) (by omega)
  have q2 : IntKind.i64.wrap (h - h) = 0 := by rw [show h - h = 0 by omega]; rfl
  have q3 : IntKind.i64.wrap (-A) = -A := wr (by omega) (by omega)
  clear hv hh hA
  go_enter Try.func18, Try.ntmps18
  go_upto_region 1 with fail
  rw [← hX, ← hxb, ← hxa, ← hob]
  clear hX hob hxa hxb
  go_wp2_with fail
  go_ret
  exact ⟨rfl, HBX.out⟩
set_option maxRecDepth 100000 in
set_option maxHeartbeats 3200000 in
theorem fit_4 (v h l A B : Int) (hv : 0 ≤ v ∧ v ≤ 1099511627776) (hh : 0 ≤ h ∧ h ≤ 1099511627776) (hA : 1 ≤ A ∧ A ≤ 1099511627776) (q : Int) (hq : 1 ≤ q) (n : List UInt8) (w : World) :
    Calls Try.prog 18 #[.agg #[.int .i64 4, .string ⟨n.toArray⟩, .int .i64 A, .int .i64 B], .int .i64 q, .agg #[.int .i64 v, .int .i64 h, .int .i64 l, .bool true], .agg #[.int .i64 (v - A), .int .i64 (h + A), .int .i64 l, .bool true]] w fun e w' => e = .returned (.bool true) ∧ Below w.heap.size w w' := by
  obtain ⟨ob, hob⟩ : ∃ b, b = w.heap.size := ⟨_, rfl⟩
  obtain ⟨xa, hxa⟩ : ∃ b, b = w.heap.size + 1 := ⟨_, rfl⟩
  obtain ⟨xb, hxb⟩ : ∃ b, b = w.heap.size + 1 + 1 := ⟨_, rfl⟩
  obtain ⟨X, hX⟩ : ∃ X, X = (((w.alloc (.cells #[.int .i64 4, .string ⟨n.toArray⟩, .int .i64 A, .int .i64 B] 31)).alloc (.cells #[.int .i64 v, .int .i64 h, .int .i64 l, .bool true] 45)).alloc (.cells #[.int .i64 (v - A), .int .i64 (h + A), .int .i64 l, .bool true] 45)) := ⟨_, rfl⟩
  have HBX : Hid (Below w.heap.size w X) := show Below w.heap.size w X from by rw [hX]; exact ((((Below.refl _ _).alloc (by first | exact Nat.le_refl _ | (simp; try omega)) _).alloc (by first | exact Nat.le_refl _ | (simp; try omega)) _).alloc (by first | exact Nat.le_refl _ | (simp; try omega)) _)
  have Bob : Blk X ob #[.int .i64 4, .string ⟨n.toArray⟩, .int .i64 A, .int .i64 B] 31 := by rw [hX]; exact (blk_alloc (blk_alloc (show Blk (w.alloc (.cells #[.int .i64 4, .string ⟨n.toArray⟩, .int .i64 A, .int .i64 B] 31)) ob #[.int .i64 4, .string ⟨n.toArray⟩, .int .i64 A, .int .i64 B] 31 from by rw [hob]; have h := heap_alloc_new w (.cells #[.int .i64 4, .string ⟨n.toArray⟩, .int .i64 A, .int .i64 B] 31); exact h) _) _)
  have Bxa : Blk X xa #[.int .i64 v, .int .i64 h, .int .i64 l, .bool true] 45 := by rw [hX]; exact (blk_alloc (show Blk ((w.alloc (.cells #[.int .i64 4, .string ⟨n.toArray⟩, .int .i64 A, .int .i64 B] 31)).alloc (.cells #[.int .i64 v, .int .i64 h, .int .i64 l, .bool true] 45)) xa #[.int .i64 v, .int .i64 h, .int .i64 l, .bool true] 45 from by rw [hxa]; have h := heap_alloc_new (w.alloc (.cells #[.int .i64 4, .string ⟨n.toArray⟩, .int .i64 A, .int .i64 B] 31)) (.cells #[.int .i64 v, .int .i64 h, .int .i64 l, .bool true] 45); simp only [World.size_alloc] at h; exact h) _)
  have Bxb : Blk X xb #[.int .i64 (v - A), .int .i64 (h + A), .int .i64 l, .bool true] 45 := by rw [hX]; exact (show Blk (((w.alloc (.cells #[.int .i64 4, .string ⟨n.toArray⟩, .int .i64 A, .int .i64 B] 31)).alloc (.cells #[.int .i64 v, .int .i64 h, .int .i64 l, .bool true] 45)).alloc (.cells #[.int .i64 (v - A), .int .i64 (h + A), .int .i64 l, .bool true] 45)) xb #[.int .i64 (v - A), .int .i64 (h + A), .int .i64 l, .bool true] 45 from by rw [hxb]; have h := heap_alloc_new ((w.alloc (.cells #[.int .i64 4, .string ⟨n.toArray⟩, .int .i64 A, .int .i64 B] 31)).alloc (.cells #[.int .i64 v, .int .i64 h, .int .i64 l, .bool true] 45)) (.cells #[.int .i64 (v - A), .int .i64 (h + A), .int .i64 l, .bool true] 45); simp only [World.size_alloc] at h; exact h)
  have cob0 : X.cell? ⟨ob, 0, none⟩ = some (.int .i64 4) := Bob.cell 0
  have cob1 : X.cell? ⟨ob, 1, none⟩ = some (.string ⟨n.toArray⟩) := Bob.cell 1
  have cob2 : X.cell? ⟨ob, 2, none⟩ = some (.int .i64 A) := Bob.cell 2
  have cob3 : X.cell? ⟨ob, 3, none⟩ = some (.int .i64 B) := Bob.cell 3
  have cxa0 : X.cell? ⟨xa, 0, none⟩ = some (.int .i64 v) := Bxa.cell 0
  have cxa1 : X.cell? ⟨xa, 1, none⟩ = some (.int .i64 h) := Bxa.cell 1
  have cxa2 : X.cell? ⟨xa, 2, none⟩ = some (.int .i64 l) := Bxa.cell 2
  have cxa3 : X.cell? ⟨xa, 3, none⟩ = some (.bool true) := Bxa.cell 3
  have cxb0 : X.cell? ⟨xb, 0, none⟩ = some (.int .i64 (v - A)) := Bxb.cell 0
  have cxb1 : X.cell? ⟨xb, 1, none⟩ = some (.int .i64 (h + A)) := Bxb.cell 1
  have cxb2 : X.cell? ⟨xb, 2, none⟩ = some (.int .i64 l) := Bxb.cell 2
  have cxb3 : X.cell? ⟨xb, 3, none⟩ = some (.bool true) := Bxb.cell 3
  clear Bob Bxa Bxb
  have q1 : IntKind.i64.wrap (v - A - v) = -A := by rw [show v - A - v = -A by omega]; exact wr (by omega) (by omega)
  have q2 : IntKind.i64.wrap (h + A - h) = A := by rw [show h + A - h = A by omega]; exact wr (by omega) (by omega)
  have q3 : IntKind.i64.wrap (-A) = -A := wr (by omega) (by omega)
  clear hv hh hA
  go_enter Try.func18, Try.ntmps18
  go_upto_region 1 with fail
  rw [← hX, ← hxb, ← hxa, ← hob]
  clear hX hob hxa hxb
  go_wp2_with fail
  go_ret
  exact ⟨rfl, HBX.out⟩
set_option maxRecDepth 100000 in
set_option maxHeartbeats 3200000 in
theorem fit_5 (v h l A B : Int) (hv : 0 ≤ v ∧ v ≤ 1099511627776) (hh : 0 ≤ h ∧ h ≤ 1099511627776) (m : Int) (hm : 1 ≤ m ∧ m ≤ 1099511627776) (n : List UInt8) (w : World) :
    Calls Try.prog 18 #[.agg #[.int .i64 5, .string ⟨n.toArray⟩, .int .i64 A, .int .i64 B], .int .i64 m, .agg #[.int .i64 v, .int .i64 h, .int .i64 l, .bool true], .agg #[.int .i64 v, .int .i64 (h - m), .int .i64 l, .bool true]] w fun e w' => e = .returned (.bool true) ∧ Below w.heap.size w w' := by
  obtain ⟨ob, hob⟩ : ∃ b, b = w.heap.size := ⟨_, rfl⟩
  obtain ⟨xa, hxa⟩ : ∃ b, b = w.heap.size + 1 := ⟨_, rfl⟩
  obtain ⟨xb, hxb⟩ : ∃ b, b = w.heap.size + 1 + 1 := ⟨_, rfl⟩
  obtain ⟨X, hX⟩ : ∃ X, X = (((w.alloc (.cells #[.int .i64 5, .string ⟨n.toArray⟩, .int .i64 A, .int .i64 B] 31)).alloc (.cells #[.int .i64 v, .int .i64 h, .int .i64 l, .bool true] 45)).alloc (.cells #[.int .i64 v, .int .i64 (h - m), .int .i64 l, .bool true] 45)) := ⟨_, rfl⟩
  have HBX : Hid (Below w.heap.size w X) := show Below w.heap.size w X from by rw [hX]; exact ((((Below.refl _ _).alloc (by first | exact Nat.le_refl _ | (simp; try omega)) _).alloc (by first | exact Nat.le_refl _ | (simp; try omega)) _).alloc (by first | exact Nat.le_refl _ | (simp; try omega)) _)
  have Bob : Blk X ob #[.int .i64 5, .string ⟨n.toArray⟩, .int .i64 A, .int .i64 B] 31 := by rw [hX]; exact (blk_alloc (blk_alloc (show Blk (w.alloc (.cells #[.int .i64 5, .string ⟨n.toArray⟩, .int .i64 A, .int .i64 B] 31)) ob #[.int .i64 5, .string ⟨n.toArray⟩, .int .i64 A, .int .i64 B] 31 from by rw [hob]; have h := heap_alloc_new w (.cells #[.int .i64 5, .string ⟨n.toArray⟩, .int .i64 A, .int .i64 B] 31); exact h) _) _)
  have Bxa : Blk X xa #[.int .i64 v, .int .i64 h, .int .i64 l, .bool true] 45 := by rw [hX]; exact (blk_alloc (show Blk ((w.alloc (.cells #[.int .i64 5, .string ⟨n.toArray⟩, .int .i64 A, .int .i64 B] 31)).alloc (.cells #[.int .i64 v, .int .i64 h, .int .i64 l, .bool true] 45)) xa #[.int .i64 v, .int .i64 h, .int .i64 l, .bool true] 45 from by rw [hxa]; have h := heap_alloc_new (w.alloc (.cells #[.int .i64 5, .string ⟨n.toArray⟩, .int .i64 A, .int .i64 B] 31)) (.cells #[.int .i64 v, .int .i64 h, .int .i64 l, .bool true] 45); simp only [World.size_alloc] at h; exact h) _)
  have Bxb : Blk X xb #[.int .i64 v, .int .i64 (h - m), .int .i64 l, .bool true] 45 := by rw [hX]; exact (show Blk (((w.alloc (.cells #[.int .i64 5, .string ⟨n.toArray⟩, .int .i64 A, .int .i64 B] 31)).alloc (.cells #[.int .i64 v, .int .i64 h, .int .i64 l, .bool true] 45)).alloc (.cells #[.int .i64 v, .int .i64 (h - m), .int .i64 l, .bool true] 45)) xb #[.int .i64 v, .int .i64 (h - m), .int .i64 l, .bool true] 45 from by rw [hxb]; have h := heap_alloc_new ((w.alloc (.cells #[.int .i64 5, .string ⟨n.toArray⟩, .int .i64 A, .int .i64 B] 31)).alloc (.cells #[.int .i64 v, .int .i64 h, .int .i64 l, .bool true] 45)) (.cells #[.int .i64 v, .int .i64 (h - m), .int .i64 l, .bool true] 45); simp only [World.size_alloc] at h; exact h)
  have cob0 : X.cell? ⟨ob, 0, none⟩ = some (.int .i64 5) := Bob.cell 0
  have cob1 : X.cell? ⟨ob, 1, none⟩ = some (.string ⟨n.toArray⟩) := Bob.cell 1
  have cob2 : X.cell? ⟨ob, 2, none⟩ = some (.int .i64 A) := Bob.cell 2
  have cob3 : X.cell? ⟨ob, 3, none⟩ = some (.int .i64 B) := Bob.cell 3
  have cxa0 : X.cell? ⟨xa, 0, none⟩ = some (.int .i64 v) := Bxa.cell 0
  have cxa1 : X.cell? ⟨xa, 1, none⟩ = some (.int .i64 h) := Bxa.cell 1
  have cxa2 : X.cell? ⟨xa, 2, none⟩ = some (.int .i64 l) := Bxa.cell 2
  have cxa3 : X.cell? ⟨xa, 3, none⟩ = some (.bool true) := Bxa.cell 3
  have cxb0 : X.cell? ⟨xb, 0, none⟩ = some (.int .i64 v) := Bxb.cell 0
  have cxb1 : X.cell? ⟨xb, 1, none⟩ = some (.int .i64 (h - m)) := Bxb.cell 1
  have cxb2 : X.cell? ⟨xb, 2, none⟩ = some (.int .i64 l) := Bxb.cell 2
  have cxb3 : X.cell? ⟨xb, 3, none⟩ = some (.bool true) := Bxb.cell 3
  clear Bob Bxa Bxb
  have q1 : IntKind.i64.wrap (v - v) = 0 := by rw [show v - v = 0 by omega]; rfl
  have q2 : IntKind.i64.wrap (h - m - h) = -m := by rw [show h - m - h = -m by omega]; exact wr (by omega) (by omega)
  have q3 : IntKind.i64.wrap (-m) = -m := wr (by omega) (by omega)
  have q4 : 1 ≤ m := hm.1
  clear hv hh hm
  go_enter Try.func18, Try.ntmps18
  go_upto_region 1 with fail
  rw [← hX, ← hxb, ← hxa, ← hob]
  clear hX hob hxa hxb
  go_wp2_with fail
  go_ret
  exact ⟨rfl, HBX.out⟩
set_option maxRecDepth 100000 in
set_option maxHeartbeats 3200000 in
theorem fit_6 (v h l A B : Int) (hv : 0 ≤ v ∧ v ≤ 1099511627776) (hh : 0 ≤ h ∧ h ≤ 1099511627776) (m : Int) (hm : 1 ≤ m ∧ m ≤ 1099511627776) (n : List UInt8) (w : World) :
    Calls Try.prog 18 #[.agg #[.int .i64 6, .string ⟨n.toArray⟩, .int .i64 A, .int .i64 B], .int .i64 m, .agg #[.int .i64 v, .int .i64 h, .int .i64 l, .bool true], .agg #[.int .i64 (v + m), .int .i64 (h - m), .int .i64 l, .bool true]] w fun e w' => e = .returned (.bool true) ∧ Below w.heap.size w w' := by
  obtain ⟨ob, hob⟩ : ∃ b, b = w.heap.size := ⟨_, rfl⟩
  obtain ⟨xa, hxa⟩ : ∃ b, b = w.heap.size + 1 := ⟨_, rfl⟩
  obtain ⟨xb, hxb⟩ : ∃ b, b = w.heap.size + 1 + 1 := ⟨_, rfl⟩
  obtain ⟨X, hX⟩ : ∃ X, X = (((w.alloc (.cells #[.int .i64 6, .string ⟨n.toArray⟩, .int .i64 A, .int .i64 B] 31)).alloc (.cells #[.int .i64 v, .int .i64 h, .int .i64 l, .bool true] 45)).alloc (.cells #[.int .i64 (v + m), .int .i64 (h - m), .int .i64 l, .bool true] 45)) := ⟨_, rfl⟩
  have HBX : Hid (Below w.heap.size w X) := show Below w.heap.size w X from by rw [hX]; exact ((((Below.refl _ _).alloc (by first | exact Nat.le_refl _ | (simp; try omega)) _).alloc (by first | exact Nat.le_refl _ | (simp; try omega)) _).alloc (by first | exact Nat.le_refl _ | (simp; try omega)) _)
  have Bob : Blk X ob #[.int .i64 6, .string ⟨n.toArray⟩, .int .i64 A, .int .i64 B] 31 := by rw [hX]; exact (blk_alloc (blk_alloc (show Blk (w.alloc (.cells #[.int .i64 6, .string ⟨n.toArray⟩, .int .i64 A, .int .i64 B] 31)) ob #[.int .i64 6, .string ⟨n.toArray⟩, .int .i64 A, .int .i64 B] 31 from by rw [hob]; have h := heap_alloc_new w (.cells #[.int .i64 6, .string ⟨n.toArray⟩, .int .i64 A, .int .i64 B] 31); exact h) _) _)
  have Bxa : Blk X xa #[.int .i64 v, .int .i64 h, .int .i64 l, .bool true] 45 := by rw [hX]; exact (blk_alloc (show Blk ((w.alloc (.cells #[.int .i64 6, .string ⟨n.toArray⟩, .int .i64 A, .int .i64 B] 31)).alloc (.cells #[.int .i64 v, .int .i64 h, .int .i64 l, .bool true] 45)) xa #[.int .i64 v, .int .i64 h, .int .i64 l, .bool true] 45 from by rw [hxa]; have h := heap_alloc_new (w.alloc (.cells #[.int .i64 6, .string ⟨n.toArray⟩, .int .i64 A, .int .i64 B] 31)) (.cells #[.int .i64 v, .int .i64 h, .int .i64 l, .bool true] 45); simp only [World.size_alloc] at h; exact h) _)
  have Bxb : Blk X xb #[.int .i64 (v + m), .int .i64 (h - m), .int .i64 l, .bool true] 45 := by rw [hX]; exact (show Blk (((w.alloc (.cells #[.int .i64 6, .string ⟨n.toArray⟩, .int .i64 A, .int .i64 B] 31)).alloc (.cells #[.int .i64 v, .int .i64 h, .int .i64 l, .bool true] 45)).alloc (.cells #[.int .i64 (v + m), .int .i64 (h - m), .int .i64 l, .bool true] 45)) xb #[.int .i64 (v + m), .int .i64 (h - m), .int .i64 l, .bool true] 45 from by rw [hxb]; have h := heap_alloc_new ((w.alloc (.cells #[.int .i64 6, .string ⟨n.toArray⟩, .int .i64 A, .int .i64 B] 31)).alloc (.cells #[.int .i64 v, .int .i64 h, .int .i64 l, .bool true] 45)) (.cells #[.int .i64 (v + m), .int .i64 (h - m), .int .i64 l, .bool true] 45); simp only [World.size_alloc] at h; exact h)
  have cob0 : X.cell? ⟨ob, 0, none⟩ = some (.int .i64 6) := Bob.cell 0
  have cob1 : X.cell? ⟨ob, 1, none⟩ = some (.string ⟨n.toArray⟩) := Bob.cell 1
  have cob2 : X.cell? ⟨ob, 2, none⟩ = some (.int .i64 A) := Bob.cell 2
  have cob3 : X.cell? ⟨ob, 3, none⟩ = some (.int .i64 B) := Bob.cell 3
  have cxa0 : X.cell? ⟨xa, 0, none⟩ = some (.int .i64 v) := Bxa.cell 0
  have cxa1 : X.cell? ⟨xa, 1, none⟩ = some (.int .i64 h) := Bxa.cell 1
  have cxa2 : X.cell? ⟨xa, 2, none⟩ = some (.int .i64 l) := Bxa.cell 2
  have cxa3 : X.cell? ⟨xa, 3, none⟩ = some (.bool true) := Bxa.cell 3
  have cxb0 : X.cell? ⟨xb, 0, none⟩ = some (.int .i64 (v + m)) := Bxb.cell 0
  have cxb1 : X.cell? ⟨xb, 1, none⟩ = some (.int .i64 (h - m)) := Bxb.cell 1
  have cxb2 : X.cell? ⟨xb, 2, none⟩ = some (.int .i64 l) := Bxb.cell 2
  have cxb3 : X.cell? ⟨xb, 3, none⟩ = some (.bool true) := Bxb.cell 3
  clear Bob Bxa Bxb
  have q1 : IntKind.i64.wrap (v + m - v) = m := by rw [show v + m - v = m by omega]; exact wr (by omega) (by omega)
  have q2 : IntKind.i64.wrap (h - m - h) = -m := by rw [show h - m - h = -m by omega]; exact wr (by omega) (by omega)
  have q3 : IntKind.i64.wrap (-m) = -m := wr (by omega) (by omega)
  have q4 : 1 ≤ m := hm.1
  clear hv hh hm
  go_enter Try.func18, Try.ntmps18
  go_upto_region 1 with fail
  rw [← hX, ← hxb, ← hxa, ← hob]
  clear hX hob hxa hxb
  go_wp2_with fail
  go_ret
  exact ⟨rfl, HBX.out⟩
set_option maxRecDepth 100000 in
set_option maxHeartbeats 3200000 in
theorem fit_12 (v h l A B : Int) (hv : 0 ≤ v ∧ v ≤ 1099511627776) (hh : 0 ≤ h ∧ h ≤ 1099511627776) (m : Int) (hm : 1 ≤ m ∧ m ≤ 1099511627776) (n : List UInt8) (w : World) :
    Calls Try.prog 18 #[.agg #[.int .i64 12, .string ⟨n.toArray⟩, .int .i64 A, .int .i64 B], .int .i64 0, .agg #[.int .i64 v, .int .i64 h, .int .i64 l, .bool true], .agg #[.int .i64 (v + m), .int .i64 (h - m), .int .i64 l, .bool true]] w fun e w' => e = .returned (.bool true) ∧ Below w.heap.size w w' := by
  obtain ⟨ob, hob⟩ : ∃ b, b = w.heap.size := ⟨_, rfl⟩
  obtain ⟨xa, hxa⟩ : ∃ b, b = w.heap.size + 1 := ⟨_, rfl⟩
  obtain ⟨xb, hxb⟩ : ∃ b, b = w.heap.size + 1 + 1 := ⟨_, rfl⟩
  obtain ⟨X, hX⟩ : ∃ X, X = (((w.alloc (.cells #[.int .i64 12, .string ⟨n.toArray⟩, .int .i64 A, .int .i64 B] 31)).alloc (.cells #[.int .i64 v, .int .i64 h, .int .i64 l, .bool true] 45)).alloc (.cells #[.int .i64 (v + m), .int .i64 (h - m), .int .i64 l, .bool true] 45)) := ⟨_, rfl⟩
  have HBX : Hid (Below w.heap.size w X) := show Below w.heap.size w X from by rw [hX]; exact ((((Below.refl _ _).alloc (by first | exact Nat.le_refl _ | (simp; try omega)) _).alloc (by first | exact Nat.le_refl _ | (simp; try omega)) _).alloc (by first | exact Nat.le_refl _ | (simp; try omega)) _)
  have Bob : Blk X ob #[.int .i64 12, .string ⟨n.toArray⟩, .int .i64 A, .int .i64 B] 31 := by rw [hX]; exact (blk_alloc (blk_alloc (show Blk (w.alloc (.cells #[.int .i64 12, .string ⟨n.toArray⟩, .int .i64 A, .int .i64 B] 31)) ob #[.int .i64 12, .string ⟨n.toArray⟩, .int .i64 A, .int .i64 B] 31 from by rw [hob]; have h := heap_alloc_new w (.cells #[.int .i64 12, .string ⟨n.toArray⟩, .int .i64 A, .int .i64 B] 31); exact h) _) _)
  have Bxa : Blk X xa #[.int .i64 v, .int .i64 h, .int .i64 l, .bool true] 45 := by rw [hX]; exact (blk_alloc (show Blk ((w.alloc (.cells #[.int .i64 12, .string ⟨n.toArray⟩, .int .i64 A, .int .i64 B] 31)).alloc (.cells #[.int .i64 v, .int .i64 h, .int .i64 l, .bool true] 45)) xa #[.int .i64 v, .int .i64 h, .int .i64 l, .bool true] 45 from by rw [hxa]; have h := heap_alloc_new (w.alloc (.cells #[.int .i64 12, .string ⟨n.toArray⟩, .int .i64 A, .int .i64 B] 31)) (.cells #[.int .i64 v, .int .i64 h, .int .i64 l, .bool true] 45); simp only [World.size_alloc] at h; exact h) _)
  have Bxb : Blk X xb #[.int .i64 (v + m), .int .i64 (h - m), .int .i64 l, .bool true] 45 := by rw [hX]; exact (show Blk (((w.alloc (.cells #[.int .i64 12, .string ⟨n.toArray⟩, .int .i64 A, .int .i64 B] 31)).alloc (.cells #[.int .i64 v, .int .i64 h, .int .i64 l, .bool true] 45)).alloc (.cells #[.int .i64 (v + m), .int .i64 (h - m), .int .i64 l, .bool true] 45)) xb #[.int .i64 (v + m), .int .i64 (h - m), .int .i64 l, .bool true] 45 from by rw [hxb]; have h := heap_alloc_new ((w.alloc (.cells #[.int .i64 12, .string ⟨n.toArray⟩, .int .i64 A, .int .i64 B] 31)).alloc (.cells #[.int .i64 v, .int .i64 h, .int .i64 l, .bool true] 45)) (.cells #[.int .i64 (v + m), .int .i64 (h - m), .int .i64 l, .bool true] 45); simp only [World.size_alloc] at h; exact h)
  have cob0 : X.cell? ⟨ob, 0, none⟩ = some (.int .i64 12) := Bob.cell 0
  have cob1 : X.cell? ⟨ob, 1, none⟩ = some (.string ⟨n.toArray⟩) := Bob.cell 1
  have cob2 : X.cell? ⟨ob, 2, none⟩ = some (.int .i64 A) := Bob.cell 2
  have cob3 : X.cell? ⟨ob, 3, none⟩ = some (.int .i64 B) := Bob.cell 3
  have cxa0 : X.cell? ⟨xa, 0, none⟩ = some (.int .i64 v) := Bxa.cell 0
  have cxa1 : X.cell? ⟨xa, 1, none⟩ = some (.int .i64 h) := Bxa.cell 1
  have cxa2 : X.cell? ⟨xa, 2, none⟩ = some (.int .i64 l) := Bxa.cell 2
  have cxa3 : X.cell? ⟨xa, 3, none⟩ = some (.bool true) := Bxa.cell 3
  have cxb0 : X.cell? ⟨xb, 0, none⟩ = some (.int .i64 (v + m)) := Bxb.cell 0
  have cxb1 : X.cell? ⟨xb, 1, none⟩ = some (.int .i64 (h - m)) := Bxb.cell 1
  have cxb2 : X.cell? ⟨xb, 2, none⟩ = some (.int .i64 l) := Bxb.cell 2
  have cxb3 : X.cell? ⟨xb, 3, none⟩ = some (.bool true) := Bxb.cell 3
  clear Bob Bxa Bxb
  have q1 : IntKind.i64.wrap (v + m - v) = m := by rw [show v + m - v = m by omega]; exact wr (by omega) (by omega)
  have q2 : IntKind.i64.wrap (h - m - h) = -m := by rw [show h - m - h = -m by omega]; exact wr (by omega) (by omega)
  have q3 : IntKind.i64.wrap (-m) = -m := wr (by omega) (by omega)
  have q4 : 1 ≤ m := hm.1
  clear hv hh hm
  go_enter Try.func18, Try.ntmps18
  go_upto_region 1 with fail
  rw [← hX, ← hxb, ← hxa, ← hob]
  clear hX hob hxa hxb
  go_wp2_with fail
  go_ret
  exact ⟨rfl, HBX.out⟩
set_option maxRecDepth 100000 in
set_option maxHeartbeats 3200000 in
theorem fit_7 (v h l A B : Int) (hv : 0 ≤ v ∧ v ≤ 1099511627776) (hh : 0 ≤ h ∧ h ≤ 1099511627776) (n : List UInt8) (w : World) :
    Calls Try.prog 18 #[.agg #[.int .i64 7, .string ⟨n.toArray⟩, .int .i64 A, .int .i64 B], .int .i64 v, .agg #[.int .i64 v, .int .i64 h, .int .i64 l, .bool true], .agg #[.int .i64 v, .int .i64 h, .int .i64 l, .bool true]] w fun e w' => e = .returned (.bool true) ∧ Below w.heap.size w w' := by
  obtain ⟨ob, hob⟩ : ∃ b, b = w.heap.size := ⟨_, rfl⟩
  obtain ⟨xa, hxa⟩ : ∃ b, b = w.heap.size + 1 := ⟨_, rfl⟩
  obtain ⟨xb, hxb⟩ : ∃ b, b = w.heap.size + 1 + 1 := ⟨_, rfl⟩
  obtain ⟨X, hX⟩ : ∃ X, X = (((w.alloc (.cells #[.int .i64 7, .string ⟨n.toArray⟩, .int .i64 A, .int .i64 B] 31)).alloc (.cells #[.int .i64 v, .int .i64 h, .int .i64 l, .bool true] 45)).alloc (.cells #[.int .i64 v, .int .i64 h, .int .i64 l, .bool true] 45)) := ⟨_, rfl⟩
  have HBX : Hid (Below w.heap.size w X) := show Below w.heap.size w X from by rw [hX]; exact ((((Below.refl _ _).alloc (by first | exact Nat.le_refl _ | (simp; try omega)) _).alloc (by first | exact Nat.le_refl _ | (simp; try omega)) _).alloc (by first | exact Nat.le_refl _ | (simp; try omega)) _)
  have Bob : Blk X ob #[.int .i64 7, .string ⟨n.toArray⟩, .int .i64 A, .int .i64 B] 31 := by rw [hX]; exact (blk_alloc (blk_alloc (show Blk (w.alloc (.cells #[.int .i64 7, .string ⟨n.toArray⟩, .int .i64 A, .int .i64 B] 31)) ob #[.int .i64 7, .string ⟨n.toArray⟩, .int .i64 A, .int .i64 B] 31 from by rw [hob]; have h := heap_alloc_new w (.cells #[.int .i64 7, .string ⟨n.toArray⟩, .int .i64 A, .int .i64 B] 31); exact h) _) _)
  have Bxa : Blk X xa #[.int .i64 v, .int .i64 h, .int .i64 l, .bool true] 45 := by rw [hX]; exact (blk_alloc (show Blk ((w.alloc (.cells #[.int .i64 7, .string ⟨n.toArray⟩, .int .i64 A, .int .i64 B] 31)).alloc (.cells #[.int .i64 v, .int .i64 h, .int .i64 l, .bool true] 45)) xa #[.int .i64 v, .int .i64 h, .int .i64 l, .bool true] 45 from by rw [hxa]; have h := heap_alloc_new (w.alloc (.cells #[.int .i64 7, .string ⟨n.toArray⟩, .int .i64 A, .int .i64 B] 31)) (.cells #[.int .i64 v, .int .i64 h, .int .i64 l, .bool true] 45); simp only [World.size_alloc] at h; exact h) _)
  have Bxb : Blk X xb #[.int .i64 v, .int .i64 h, .int .i64 l, .bool true] 45 := by rw [hX]; exact (show Blk (((w.alloc (.cells #[.int .i64 7, .string ⟨n.toArray⟩, .int .i64 A, .int .i64 B] 31)).alloc (.cells #[.int .i64 v, .int .i64 h, .int .i64 l, .bool true] 45)).alloc (.cells #[.int .i64 v, .int .i64 h, .int .i64 l, .bool true] 45)) xb #[.int .i64 v, .int .i64 h, .int .i64 l, .bool true] 45 from by rw [hxb]; have h := heap_alloc_new ((w.alloc (.cells #[.int .i64 7, .string ⟨n.toArray⟩, .int .i64 A, .int .i64 B] 31)).alloc (.cells #[.int .i64 v, .int .i64 h, .int .i64 l, .bool true] 45)) (.cells #[.int .i64 v, .int .i64 h, .int .i64 l, .bool true] 45); simp only [World.size_alloc] at h; exact h)
  have cob0 : X.cell? ⟨ob, 0, none⟩ = some (.int .i64 7) := Bob.cell 0
  have cob1 : X.cell? ⟨ob, 1, none⟩ = some (.string ⟨n.toArray⟩) := Bob.cell 1
  have cob2 : X.cell? ⟨ob, 2, none⟩ = some (.int .i64 A) := Bob.cell 2
  have cob3 : X.cell? ⟨ob, 3, none⟩ = some (.int .i64 B) := Bob.cell 3
  have cxa0 : X.cell? ⟨xa, 0, none⟩ = some (.int .i64 v) := Bxa.cell 0
  have cxa1 : X.cell? ⟨xa, 1, none⟩ = some (.int .i64 h) := Bxa.cell 1
  have cxa2 : X.cell? ⟨xa, 2, none⟩ = some (.int .i64 l) := Bxa.cell 2
  have cxa3 : X.cell? ⟨xa, 3, none⟩ = some (.bool true) := Bxa.cell 3
  have cxb0 : X.cell? ⟨xb, 0, none⟩ = some (.int .i64 v) := Bxb.cell 0
  have cxb1 : X.cell? ⟨xb, 1, none⟩ = some (.int .i64 h) := Bxb.cell 1
  have cxb2 : X.cell? ⟨xb, 2, none⟩ = some (.int .i64 l) := Bxb.cell 2
  have cxb3 : X.cell? ⟨xb, 3, none⟩ = some (.bool true) := Bxb.cell 3
  clear Bob Bxa Bxb
  have q1 : IntKind.i64.wrap (v - v) = 0 := by rw [show v - v = 0 by omega]; rfl
  have q2 : IntKind.i64.wrap (h - h) = 0 := by rw [show h - h = 0 by omega]; rfl
  clear hv hh
  go_enter Try.func18, Try.ntmps18
  go_upto_region 1 with fail
  rw [← hX, ← hxb, ← hxa, ← hob]
  clear hX hob hxa hxb
  go_wp2_with fail
  go_ret
  exact ⟨rfl, HBX.out⟩
set_option maxRecDepth 100000 in
set_option maxHeartbeats 3200000 in
theorem fit_8 (h l A B : Int) (hA : 0 ≤ A ∧ A ≤ 1099511627776) (hh : 0 ≤ h ∧ h ≤ 1099511627776) (hB : 1 ≤ B ∧ B ≤ 1099511627776) (n : List UInt8) (w : World) :
    Calls Try.prog 18 #[.agg #[.int .i64 8, .string ⟨n.toArray⟩, .int .i64 A, .int .i64 B], .int .i64 A, .agg #[.int .i64 A, .int .i64 h, .int .i64 l, .bool true], .agg #[.int .i64 (A - B), .int .i64 h, .int .i64 l, .bool true]] w fun e w' => e = .returned (.bool true) ∧ Below w.heap.size w w' := by
  obtain ⟨ob, hob⟩ : ∃ b, b = w.heap.size := ⟨_, rfl⟩
  obtain ⟨xa, hxa⟩ : ∃ b, b = w.heap.size + 1 := ⟨_, rfl⟩
  obtain ⟨xb, hxb⟩ : ∃ b, b = w.heap.size + 1 + 1 := ⟨_, rfl⟩
  obtain ⟨X, hX⟩ : ∃ X, X = (((w.alloc (.cells #[.int .i64 8, .string ⟨n.toArray⟩, .int .i64 A, .int .i64 B] 31)).alloc (.cells #[.int .i64 A, .int .i64 h, .int .i64 l, .bool true] 45)).alloc (.cells #[.int .i64 (A - B), .int .i64 h, .int .i64 l, .bool true] 45)) := ⟨_, rfl⟩
  have HBX : Hid (Below w.heap.size w X) := show Below w.heap.size w X from by rw [hX]; exact ((((Below.refl _ _).alloc (by first | exact Nat.le_refl _ | (simp; try omega)) _).alloc (by first | exact Nat.le_refl _ | (simp; try omega)) _).alloc (by first | exact Nat.le_refl _ | (simp; try omega)) _)
  have Bob : Blk X ob #[.int .i64 8, .string ⟨n.toArray⟩, .int .i64 A, .int .i64 B] 31 := by rw [hX]; exact (blk_alloc (blk_alloc (show Blk (w.alloc (.cells #[.int .i64 8, .string ⟨n.toArray⟩, .int .i64 A, .int .i64 B] 31)) ob #[.int .i64 8, .string ⟨n.toArray⟩, .int .i64 A, .int .i64 B] 31 from by rw [hob]; have h := heap_alloc_new w (.cells #[.int .i64 8, .string ⟨n.toArray⟩, .int .i64 A, .int .i64 B] 31); exact h) _) _)
  have Bxa : Blk X xa #[.int .i64 A, .int .i64 h, .int .i64 l, .bool true] 45 := by rw [hX]; exact (blk_alloc (show Blk ((w.alloc (.cells #[.int .i64 8, .string ⟨n.toArray⟩, .int .i64 A, .int .i64 B] 31)).alloc (.cells #[.int .i64 A, .int .i64 h, .int .i64 l, .bool true] 45)) xa #[.int .i64 A, .int .i64 h, .int .i64 l, .bool true] 45 from by rw [hxa]; have h := heap_alloc_new (w.alloc (.cells #[.int .i64 8, .string ⟨n.toArray⟩, .int .i64 A, .int .i64 B] 31)) (.cells #[.int .i64 A, .int .i64 h, .int .i64 l, .bool true] 45); simp only [World.size_alloc] at h; exact h) _)
  have Bxb : Blk X xb #[.int .i64 (A - B), .int .i64 h, .int .i64 l, .bool true] 45 := by rw [hX]; exact (show Blk (((w.alloc (.cells #[.int .i64 8, .string ⟨n.toArray⟩, .int .i64 A, .int .i64 B] 31)).alloc (.cells #[.int .i64 A, .int .i64 h, .int .i64 l, .bool true] 45)).alloc (.cells #[.int .i64 (A - B), .int .i64 h, .int .i64 l, .bool true] 45)) xb #[.int .i64 (A - B), .int .i64 h, .int .i64 l, .bool true] 45 from by rw [hxb]; have h := heap_alloc_new ((w.alloc (.cells #[.int .i64 8, .string ⟨n.toArray⟩, .int .i64 A, .int .i64 B] 31)).alloc (.cells #[.int .i64 A, .int .i64 h, .int .i64 l, .bool true] 45)) (.cells #[.int .i64 (A - B), .int .i64 h, .int .i64 l, .bool true] 45); simp only [World.size_alloc] at h; exact h)
  have cob0 : X.cell? ⟨ob, 0, none⟩ = some (.int .i64 8) := Bob.cell 0
  have cob1 : X.cell? ⟨ob, 1, none⟩ = some (.string ⟨n.toArray⟩) := Bob.cell 1
  have cob2 : X.cell? ⟨ob, 2, none⟩ = some (.int .i64 A) := Bob.cell 2
  have cob3 : X.cell? ⟨ob, 3, none⟩ = some (.int .i64 B) := Bob.cell 3
  have cxa0 : X.cell? ⟨xa, 0, none⟩ = some (.int .i64 A) := Bxa.cell 0
  have cxa1 : X.cell? ⟨xa, 1, none⟩ = some (.int .i64 h) := Bxa.cell 1
  have cxa2 : X.cell? ⟨xa, 2, none⟩ = some (.int .i64 l) := Bxa.cell 2
  have cxa3 : X.cell? ⟨xa, 3, none⟩ = some (.bool true) := Bxa.cell 3
  have cxb0 : X.cell? ⟨xb, 0, none⟩ = some (.int .i64 (A - B)) := Bxb.cell 0
  have cxb1 : X.cell? ⟨xb, 1, none⟩ = some (.int .i64 h) := Bxb.cell 1
  have cxb2 : X.cell? ⟨xb, 2, none⟩ = some (.int .i64 l) := Bxb.cell 2
  have cxb3 : X.cell? ⟨xb, 3, none⟩ = some (.bool true) := Bxb.cell 3
  clear Bob Bxa Bxb
  have q1 : IntKind.i64.wrap (A - B - A) = -B := by rw [show A - B - A = -B by omega]; exact wr (by omega) (by omega)
  have q2 : IntKind.i64.wrap (h - h) = 0 := by rw [show h - h = 0 by omega]; rfl
  have q3 : IntKind.i64.wrap (-B) = -B := wr (by omega) (by omega)
  clear hA hh hB
  go_enter Try.func18, Try.ntmps18
  go_upto_region 1 with fail
  rw [← hX, ← hxb, ← hxa, ← hob]
  clear hX hob hxa hxb
  go_wp2_with fail
  go_ret
  exact ⟨rfl, HBX.out⟩
set_option maxRecDepth 100000 in
set_option maxHeartbeats 3200000 in
theorem fit_9 (v h l A B : Int) (hv : 0 ≤ v ∧ v ≤ 1099511627776) (hh : 0 ≤ h ∧ h ≤ 1099511627776) (hA : 0 ≤ A ∧ A ≤ 1099511627776) (n : List UInt8) (w : World) :
    Calls Try.prog 18 #[.agg #[.int .i64 9, .string ⟨n.toArray⟩, .int .i64 A, .int .i64 B], .int .i64 A, .agg #[.int .i64 v, .int .i64 h, .int .i64 l, .bool true], .agg #[.int .i64 A, .int .i64 h, .int .i64 l, .bool true]] w fun e w' => e = .returned (.bool true) ∧ Below w.heap.size w w' := by
  obtain ⟨ob, hob⟩ : ∃ b, b = w.heap.size := ⟨_, rfl⟩
  obtain ⟨xa, hxa⟩ : ∃ b, b = w.heap.size + 1 := ⟨_, rfl⟩
  obtain ⟨xb, hxb⟩ : ∃ b, b = w.heap.size + 1 + 1 := ⟨_, rfl⟩
  obtain ⟨X, hX⟩ : ∃ X, X = (((w.alloc (.cells #[.int .i64 9, .string ⟨n.toArray⟩, .int .i64 A, .int .i64 B] 31)).alloc (.cells #[.int .i64 v, .int .i64 h, .int .i64 l, .bool true] 45)).alloc (.cells #[.int .i64 A, .int .i64 h, .int .i64 l, .bool true] 45)) := ⟨_, rfl⟩
  have HBX : Hid (Below w.heap.size w X) := show Below w.heap.size w X from by rw [hX]; exact ((((Below.refl _ _).alloc (by first | exact Nat.le_refl _ | (simp; try omega)) _).alloc (by first | exact Nat.le_refl _ | (simp; try omega)) _).alloc (by first | exact Nat.le_refl _ | (simp; try omega)) _)
  have Bob : Blk X ob #[.int .i64 9, .string ⟨n.toArray⟩, .int .i64 A, .int .i64 B] 31 := by rw [hX]; exact (blk_alloc (blk_alloc (show Blk (w.alloc (.cells #[.int .i64 9, .string ⟨n.toArray⟩, .int .i64 A, .int .i64 B] 31)) ob #[.int .i64 9, .string ⟨n.toArray⟩, .int .i64 A, .int .i64 B] 31 from by rw [hob]; have h := heap_alloc_new w (.cells #[.int .i64 9, .string ⟨n.toArray⟩, .int .i64 A, .int .i64 B] 31); exact h) _) _)
  have Bxa : Blk X xa #[.int .i64 v, .int .i64 h, .int .i64 l, .bool true] 45 := by rw [hX]; exact (blk_alloc (show Blk ((w.alloc (.cells #[.int .i64 9, .string ⟨n.toArray⟩, .int .i64 A, .int .i64 B] 31)).alloc (.cells #[.int .i64 v, .int .i64 h, .int .i64 l, .bool true] 45)) xa #[.int .i64 v, .int .i64 h, .int .i64 l, .bool true] 45 from by rw [hxa]; have h := heap_alloc_new (w.alloc (.cells #[.int .i64 9, .string ⟨n.toArray⟩, .int .i64 A, .int .i64 B] 31)) (.cells #[.int .i64 v, .int .i64 h, .int .i64 l, .bool true] 45); simp only [World.size_alloc] at h; exact h) _)
  have Bxb : Blk X xb #[.int .i64 A, .int .i64 h, .int .i64 l, .bool true] 45 := by rw [hX]; exact (show Blk (((w.alloc (.cells #[.int .i64 9, .string ⟨n.toArray⟩, .int .i64 A, .int .i64 B] 31)).alloc (.cells #[.int .i64 v, .int .i64 h, .int .i64 l, .bool true] 45)).alloc (.cells #[.int .i64 A, .int .i64 h, .int .i64 l, .bool true] 45)) xb #[.int .i64 A, .int .i64 h, .int .i64 l, .bool true] 45 from by rw [hxb]; have h := heap_alloc_new ((w.alloc (.cells #[.int .i64 9, .string ⟨n.toArray⟩, .int .i64 A, .int .i64 B] 31)).alloc (.cells #[.int .i64 v, .int .i64 h, .int .i64 l, .bool true] 45)) (.cells #[.int .i64 A, .int .i64 h, .int .i64 l, .bool true] 45); simp only [World.size_alloc] at h; exact h)
  have cob0 : X.cell? ⟨ob, 0, none⟩ = some (.int .i64 9) := Bob.cell 0
  have cob1 : X.cell? ⟨ob, 1, none⟩ = some (.string ⟨n.toArray⟩) := Bob.cell 1
  have cob2 : X.cell? ⟨ob, 2, none⟩ = some (.int .i64 A) := Bob.cell 2
  have cob3 : X.cell? ⟨ob, 3, none⟩ = some (.int .i64 B) := Bob.cell 3
  have cxa0 : X.cell? ⟨xa, 0, none⟩ = some (.int .i64 v) := Bxa.cell 0
  have cxa1 : X.cell? ⟨xa, 1, none⟩ = some (.int .i64 h) := Bxa.cell 1
  have cxa2 : X.cell? ⟨xa, 2, none⟩ = some (.int .i64 l) := Bxa.cell 2
  have cxa3 : X.cell? ⟨xa, 3, none⟩ = some (.bool true) := Bxa.cell 3
  have cxb0 : X.cell? ⟨xb, 0, none⟩ = some (.int .i64 A) := Bxb.cell 0
  have cxb1 : X.cell? ⟨xb, 1, none⟩ = some (.int .i64 h) := Bxb.cell 1
  have cxb2 : X.cell? ⟨xb, 2, none⟩ = some (.int .i64 l) := Bxb.cell 2
  have cxb3 : X.cell? ⟨xb, 3, none⟩ = some (.bool true) := Bxb.cell 3
  clear Bob Bxa Bxb
  have q1 : IntKind.i64.wrap (A - v) = A - v := wr (by omega) (by omega)
  have q2 : IntKind.i64.wrap (h - h) = 0 := by rw [show h - h = 0 by omega]; rfl
  clear hv hh hA
  go_enter Try.func18, Try.ntmps18
  go_upto_region 1 with fail
  rw [← hX, ← hxb, ← hxa, ← hob]
  clear hX hob hxa hxb
  go_wp2_with fail
  go_ret
  exact ⟨rfl, HBX.out⟩
set_option maxRecDepth 100000 in
set_option maxHeartbeats 3200000 in
theorem fit_10 (v h l A B : Int) (hv : 0 ≤ v ∧ v ≤ 1099511627776) (hh : 0 ≤ h ∧ h ≤ 1099511627776) (n : List UInt8) (w : World) :
    Calls Try.prog 18 #[.agg #[.int .i64 10, .string ⟨n.toArray⟩, .int .i64 A, .int .i64 B], .int .i64 A, .agg #[.int .i64 v, .int .i64 h, .int .i64 l, .bool true], .agg #[.int .i64 v, .int .i64 h, .int .i64 A, .bool true]] w fun e w' => e = .returned (.bool true) ∧ Below w.heap.size w w' := by
  obtain ⟨ob, hob⟩ : ∃ b, b = w.heap.size := ⟨_, rfl⟩
  obtain ⟨xa, hxa⟩ : ∃ b, b = w.heap.size + 1 := ⟨_, rfl⟩
  obtain ⟨xb, hxb⟩ : ∃ b, b = w.heap.size + 1 + 1 := ⟨_, rfl⟩
  obtain ⟨X, hX⟩ : ∃ X, X = (((w.alloc (.cells #[.int .i64 10, .string ⟨n.toArray⟩, .int .i64 A, .int .i64 B] 31)).alloc (.cells #[.int .i64 v, .int .i64 h, .int .i64 l, .bool true] 45)).alloc (.cells #[.int .i64 v, .int .i64 h, .int .i64 A, .bool true] 45)) := ⟨_, rfl⟩
  have HBX : Hid (Below w.heap.size w X) := show Below w.heap.size w X from by rw [hX]; exact ((((Below.refl _ _).alloc (by first | exact Nat.le_refl _ | (simp; try omega)) _).alloc (by first | exact Nat.le_refl _ | (simp; try omega)) _).alloc (by first | exact Nat.le_refl _ | (simp; try omega)) _)
  have Bob : Blk X ob #[.int .i64 10, .string ⟨n.toArray⟩, .int .i64 A, .int .i64 B] 31 := by rw [hX]; exact (blk_alloc (blk_alloc (show Blk (w.alloc (.cells #[.int .i64 10, .string ⟨n.toArray⟩, .int .i64 A, .int .i64 B] 31)) ob #[.int .i64 10, .string ⟨n.toArray⟩, .int .i64 A, .int .i64 B] 31 from by rw [hob]; have h := heap_alloc_new w (.cells #[.int .i64 10, .string ⟨n.toArray⟩, .int .i64 A, .int .i64 B] 31); exact h) _) _)
  have Bxa : Blk X xa #[.int .i64 v, .int .i64 h, .int .i64 l, .bool true] 45 := by rw [hX]; exact (blk_alloc (show Blk ((w.alloc (.cells #[.int .i64 10, .string ⟨n.toArray⟩, .int .i64 A, .int .i64 B] 31)).alloc (.cells #[.int .i64 v, .int .i64 h, .int .i64 l, .bool true] 45)) xa #[.int .i64 v, .int .i64 h, .int .i64 l, .bool true] 45 from by rw [hxa]; have h := heap_alloc_new (w.alloc (.cells #[.int .i64 10, .string ⟨n.toArray⟩, .int .i64 A, .int .i64 B] 31)) (.cells #[.int .i64 v, .int .i64 h, .int .i64 l, .bool true] 45); simp only [World.size_alloc] at h; exact h) _)
  have Bxb : Blk X xb #[.int .i64 v, .int .i64 h, .int .i64 A, .bool true] 45 := by rw [hX]; exact (show Blk (((w.alloc (.cells #[.int .i64 10, .string ⟨n.toArray⟩, .int .i64 A, .int .i64 B] 31)).alloc (.cells #[.int .i64 v, .int .i64 h, .int .i64 l, .bool true] 45)).alloc (.cells #[.int .i64 v, .int .i64 h, .int .i64 A, .bool true] 45)) xb #[.int .i64 v, .int .i64 h, .int .i64 A, .bool true] 45 from by rw [hxb]; have h := heap_alloc_new ((w.alloc (.cells #[.int .i64 10, .string ⟨n.toArray⟩, .int .i64 A, .int .i64 B] 31)).alloc (.cells #[.int .i64 v, .int .i64 h, .int .i64 l, .bool true] 45)) (.cells #[.int .i64 v, .int .i64 h, .int .i64 A, .bool true] 45); simp only [World.size_alloc] at h; exact h)
  have cob0 : X.cell? ⟨ob, 0, none⟩ = some (.int .i64 10) := Bob.cell 0
  have cob1 : X.cell? ⟨ob, 1, none⟩ = some (.string ⟨n.toArray⟩) := Bob.cell 1
  have cob2 : X.cell? ⟨ob, 2, none⟩ = some (.int .i64 A) := Bob.cell 2
  have cob3 : X.cell? ⟨ob, 3, none⟩ = some (.int .i64 B) := Bob.cell 3
  have cxa0 : X.cell? ⟨xa, 0, none⟩ = some (.int .i64 v) := Bxa.cell 0
  have cxa1 : X.cell? ⟨xa, 1, none⟩ = some (.int .i64 h) := Bxa.cell 1
  have cxa2 : X.cell? ⟨xa, 2, none⟩ = some (.int .i64 l) := Bxa.cell 2
  have cxa3 : X.cell? ⟨xa, 3, none⟩ = some (.bool true) := Bxa.cell 3
  have cxb0 : X.cell? ⟨xb, 0, none⟩ = some (.int .i64 v) := Bxb.cell 0
  have cxb1 : X.cell? ⟨xb, 1, none⟩ = some (.int .i64 h) := Bxb.cell 1
  have cxb2 : X.cell? ⟨xb, 2, none⟩ = some (.int .i64 A) := Bxb.cell 2
  have cxb3 : X.cell? ⟨xb, 3, none⟩ = some (.bool true) := Bxb.cell 3
  clear Bob Bxa Bxb
  have q1 : IntKind.i64.wrap (v - v) = 0 := by rw [show v - v = 0 by omega]; rfl
  have q2 : IntKind.i64.wrap (h - h) = 0 := by rw [show h - h = 0 by omega]; rfl
  clear hv hh
  go_enter Try.func18, Try.ntmps18
  go_upto_region 1 with fail
  rw [← hX, ← hxb, ← hxa, ← hob]
  clear hX hob hxa hxb
  go_wp2_with fail
  go_ret
  exact ⟨rfl, HBX.out⟩
end Go.Proofs.Ytgajmiibkakobaa
