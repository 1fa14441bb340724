import Derived.Test.YtkdndfdofhnagaaDoorJJ
namespace Go.Proofs.YtkdndfdofhnagaaDoor
open Go.RowKit Go.PlainAid
set_option linter.unusedVariables false
set_option linter.unusedSimpArgs false
set_option maxRecDepth 100000 in
set_option maxHeartbeats 3200000 in
theorem call8f {S : Sens} {L : Nat} {a : PA} {p : PS} {n : Nat} (w : World) (h : PInv S L a p p.c w) (hG : Gd n p) (hn : n ≤ 2000) (A B : Int) (hA : IntKind.i64.wrap A = A) (hB : IntKind.i64.wrap B = B) :
    Calls Tryd.prog 30 #[.pointer (some ⟨a.pb, 0, none⟩), .agg #[.int .i64 8, .int .i64 A, .int .i64 B, .bool false]] w fun r w' => r = .returned (.bool true) ∧ CPost S L a p n (p.c.play 8 A B false) w w' := by
  have hok := CS.play_ok hG.ok 8 A B false
  have hmd := CS.play_made (c := p.c) 8 A B false
  have epl : p.c.play 8 A B false = p.c := rfl
  rw [epl] at hok hmd ⊢
  clear epl
  have hma : p.c.b.made ≤ 1000000 := by have := hG.made; omega
  have hgr : Below w.heap.size w (w.alloc (.cells (opC 8 A B false) 29)) := (Below.refl _ _).alloc (Nat.le_refl _) _
  have HY0 : Hid _ := (⟨h.below hgr, heap_alloc_new w _, PStp.ofBelow hgr⟩ : YSt S L a p p p.c (opC 8 A B false) w.heap.size w (w.alloc (.cells (opC 8 A B false) 29)))
  have HW : Hid _ := (⟨hA, hB⟩ : IntKind.i64.wrap A = A ∧ IntKind.i64.wrap B = B)
  have HG : Hid _ := hG
  have HOK : Hid _ := hok
  have HMD : Hid _ := hmd
  clear h hgr hG hok hmd hA hB
  have c0 : (w.alloc (.cells #[.int .i64 8, .int .i64 A, .int .i64 B, .bool false] 29)).cell? ⟨a.pb, 0, none⟩ = some (.pointer (some ⟨a.hb, 0, none⟩)) := HY0.out.inv.c0
  have hnb := numbers_any _ HY0.out.inv.core.bk HG.out.ok.b (by omega)
  have HNB : Hid _ := hnb
  clear hnb
  go_enter Tryd.func30, Tryd.ntmps30
  go_wp2_with fail
  have eW : w.alloc (.cells #[.int .i64 8, .int .i64 A, .int .i64 B, .bool false] 29) = w.alloc (.cells (opC 8 A B false) 29) := rfl
  rw [eW]
  clear eW
  generalize w.alloc (.cells (opC 8 A B false) 29) = W0 at *
  refine Calls.mono HNB.out ?_
  rintro e w1 ⟨l, rfl, ho1, hb1⟩
  have hY1 := HY0.out.below hb1
  have c1 : w1.cell? ⟨a.pb, 1, none⟩ = some (.pointer (some ⟨a.rb, 0, none⟩)) := hY1.inv.c1
  have hrn := rnumbers_any w1 hY1.inv.core.rk HG.out.ok.b
  have hle : p.c.b.L.length ≤ 16 := by have := HG.out.ok.b.len; have := HG.out.ok.b.r1; omega
  have HO1 : Hid _ := ho1
  have HY1 : Hid _ := hY1
  have HRN : Hid _ := hrn
  have HP0 : Hid _ := (show ∀ k, a.has p k → k < W0.heap.size from fun k e => HY0.out.inv.lt e)
  have HWZ : Hid _ := HY0.out.stp.chg.size
  clear ho1 hb1 hY1 hrn
  go_wp2_with fail
  refine Calls.mono HRN.out ?_
  rintro e w2 ⟨u, rfl, ho2, hb2⟩
  have hY2 := HY1.out.below hb2
  have ho1' : w2.ownsRow W0.heap.size 3 1 l p.c.b.L.length (p.c.b.nums.map I) := ownsRow_same HO1.out (fun g hg => hb2.block g (ownsRow_lt HO1.out hg).2)
  have hsi := sameInts_any w2 ho1' ho2 (by omega)
  have HO2 : Hid _ := ho1'
  have HY2 : Hid _ := hY2
  have HSI : Hid _ := hsi
  clear ho2 hb2 hY2 ho1' hsi
  go_wp2_with fail
  refine Calls.mono HSI.out ?_
  rintro e w3 ⟨rfl, q3, rfl⟩
  have hnl : p.c.b.nums.length = p.c.b.L.length := by simp [BS.nums, numsOf]
  have ho3 : (w2.drewN q3).ownsRow W0.heap.size 3 1 l p.c.b.nums.length (p.c.b.nums.map I) := by rw [hnl]; exact HO2.out
  have hY3 := (HY2.out.below (below_drewN q3 (Below.refl _ _))).float HG.out.fl (x := ⟨l, p.c.b.nums⟩) (ownsRow_mono ho3 HY0.out.inv.core.low) (fun k e => ⟨fun e2 => by have h1 := HP0.out k e2; have h2 := (ownsRow_lt ho3 e).1; omega, Nat.le_trans HWZ.out (ownsRow_lt ho3 e).1⟩)
  have hkp := keep_any (x := ⟨l, p.c.b.nums⟩) (w2.drewN q3) hY3.kst rfl (HG.out.full.fl HG.out.fl (by show p.c.b.nums.length ≤ 16; omega)) ⟨HG.out.m0, by have := HG.out.m1; show p.mark ≤ 3000; omega⟩ (by have := HG.out.ls; show p.z.ls.length ≤ 3000; omega)
  have HY3 : Hid _ := hY3
  have HKP : Hid _ := hkp
  clear ho3 hY3 hkp hnl hle
  go_wp2_with fail
  refine Calls.mono HKP.out ?_
  rintro e w9 ⟨rfl, hk9⟩
  have HF : Hid _ := cpost_kept HG.out HY3.out hk9 HOK.out HMD.out
  clear hk9
  go_wp2_with fail
  go_ret
  exact ⟨rfl, HF.out⟩
set_option maxRecDepth 100000 in
set_option maxHeartbeats 3200000 in
theorem call8t {S : Sens} {L : Nat} {a : PA} {p : PS} {n : Nat} (w : World) (h : PInv S L a p p.c w) (hG : Gd n p) (hn : n ≤ 2000) (A B : Int) (hA : IntKind.i64.wrap A = A) (hB : IntKind.i64.wrap B = B) :
    Calls Tryd.prog 30 #[.pointer (some ⟨a.pb, 0, none⟩), .agg #[.int .i64 8, .int .i64 A, .int .i64 B, .bool true]] w fun r w' => r = .returned (.bool true) ∧ CPost S L a p n (p.c.play 8 A B true) w w' := by
  have hok := CS.play_ok hG.ok 8 A B true
  have hmd := CS.play_made (c := p.c) 8 A B true
  have epl : p.c.play 8 A B true = p.c := rfl
  rw [epl] at hok hmd ⊢
  clear epl
  have hma : p.c.b.made ≤ 1000000 := by have := hG.made; omega
  have hgr : Below w.heap.size w (w.alloc (.cells (opC 8 A B true) 29)) := (Below.refl _ _).alloc (Nat.le_refl _) _
  have HY0 : Hid _ := (⟨h.below hgr, heap_alloc_new w _, PStp.ofBelow hgr⟩ : YSt S L a p p p.c (opC 8 A B true) w.heap.size w (w.alloc (.cells (opC 8 A B true) 29)))
  have HW : Hid _ := (⟨hA, hB⟩ : IntKind.i64.wrap A = A ∧ IntKind.i64.wrap B = B)
  have HG : Hid _ := hG
  have HOK : Hid _ := hok
  have HMD : Hid _ := hmd
  clear h hgr hG hok hmd hA hB
  have c0 : (w.alloc (.cells #[.int .i64 8, .int .i64 A, .int .i64 B, .bool true] 29)).cell? ⟨a.pb, 0, none⟩ = some (.pointer (some ⟨a.hb, 0, none⟩)) := HY0.out.inv.c0
  have hnb := numbers_any _ HY0.out.inv.core.bk HG.out.ok.b (by omega)
  have HNB : Hid _ := hnb
  clear hnb
  go_enter Tryd.func30, Tryd.ntmps30
  go_wp2_with fail
  have eW : w.alloc (.cells #[.int .i64 8, .int .i64 A, .int .i64 B, .bool true] 29) = w.alloc (.cells (opC 8 A B true) 29) := rfl
  rw [eW]
  clear eW
  generalize w.alloc (.cells (opC 8 A B true) 29) = W0 at *
  refine Calls.mono HNB.out ?_
  rintro e w1 ⟨l, rfl, ho1, hb1⟩
  have hY1 := HY0.out.below hb1
  have c1 : w1.cell? ⟨a.pb, 1, none⟩ = some (.pointer (some ⟨a.rb, 0, none⟩)) := hY1.inv.c1
  have hrn := rnumbers_any w1 hY1.inv.core.rk HG.out.ok.b
  have hle : p.c.b.L.length ≤ 16 := by have := HG.out.ok.b.len; have := HG.out.ok.b.r1; omega
  have HO1 : Hid _ := ho1
  have HY1 : Hid _ := hY1
  have HRN : Hid _ := hrn
  have HP0 : Hid _ := (show ∀ k, a.has p k → k < W0.heap.size from fun k e => HY0.out.inv.lt e)
  have HWZ : Hid _ := HY0.out.stp.chg.size
  clear ho1 hb1 hY1 hrn
  go_wp2_with fail
  refine Calls.mono HRN.out ?_
  rintro e w2 ⟨u, rfl, ho2, hb2⟩
  have hY2 := HY1.out.below hb2
  have ho1' : w2.ownsRow W0.heap.size 3 1 l p.c.b.L.length (p.c.b.nums.map I) := ownsRow_same HO1.out (fun g hg => hb2.block g (ownsRow_lt HO1.out hg).2)
  have hsi := sameInts_any w2 ho1' ho2 (by omega)
  have HO2 : Hid _ := ho1'
  have HY2 : Hid _ := hY2
  have HSI : Hid _ := hsi
  clear ho2 hb2 hY2 ho1' hsi
  go_wp2_with fail
  refine Calls.mono HSI.out ?_
  rintro e w3 ⟨rfl, q3, rfl⟩
  have hnl : p.c.b.nums.length = p.c.b.L.length := by simp [BS.nums, numsOf]
  have ho3 : (w2.drewN q3).ownsRow W0.heap.size 3 1 l p.c.b.nums.length (p.c.b.nums.map I) := by rw [hnl]; exact HO2.out
  have hY3 := (HY2.out.below (below_drewN q3 (Below.refl _ _))).float HG.out.fl (x := ⟨l, p.c.b.nums⟩) (ownsRow_mono ho3 HY0.out.inv.core.low) (fun k e => ⟨fun e2 => by have h1 := HP0.out k e2; have h2 := (ownsRow_lt ho3 e).1; omega, Nat.le_trans HWZ.out (ownsRow_lt ho3 e).1⟩)
  have hkp := keep_any (x := ⟨l, p.c.b.nums⟩) (w2.drewN q3) hY3.kst rfl (HG.out.full.fl HG.out.fl (by show p.c.b.nums.length ≤ 16; omega)) ⟨HG.out.m0, by have := HG.out.m1; show p.mark ≤ 3000; omega⟩ (by have := HG.out.ls; show p.z.ls.length ≤ 3000; omega)
  have HY3 : Hid _ := hY3
  have HKP : Hid _ := hkp
  clear ho3 hY3 hkp hnl hle
  go_wp2_with fail
  refine Calls.mono HKP.out ?_
  rintro e w9 ⟨rfl, hk9⟩
  have HF : Hid _ := cpost_kept HG.out HY3.out hk9 HOK.out HMD.out
  clear hk9
  go_wp2_with fail
  go_ret
  exact ⟨rfl, HF.out⟩
end Go.Proofs.YtkdndfdofhnagaaDoor
