import Derived.Test.YtaiknlnjahjeiaaRg
import Derived.Deep.Cut
namespace Go.Proofs.Ytaiknlnjahjeiaa
open Go.RowKit Go.PlainAid Go.MapKept
set_option linter.unusedVariables false
set_option linter.unusedSimpArgs false
set_option maxRecDepth 100000 in
set_option maxHeartbeats 6400000 in
theorem rright_any (k A B : Int) (n : List UInt8) (w : World) (hn : n.length ≤ 140737488355328) :
    Calls Try.prog 57 #[.agg #[.int .i64 k, .string ⟨n.toArray⟩, .int .i64 A, .int .i64 B]] w fun e w' => e = .returned (.bool (nameB n && opB k A B)) ∧ Below w.heap.size w w' := by
  obtain ⟨ob, hob⟩ : ∃ b, b = w.heap.size := ⟨_, rfl⟩
  obtain ⟨X, hX⟩ : ∃ X, X = w.alloc (.cells #[.int .i64 k, .string ⟨n.toArray⟩, .int .i64 A, .int .i64 B] 31) := ⟨_, rfl⟩
  have hbX : Below w.heap.size w X := by rw [hX]; exact (Below.refl _ _).alloc (Nat.le_refl _) _
  have Bob : Hid (Blk X ob #[.int .i64 k, .string ⟨n.toArray⟩, .int .i64 A, .int .i64 B] 31) := show Blk X ob #[.int .i64 k, .string ⟨n.toArray⟩, .int .i64 A, .int .i64 B] 31 from by rw [hX, hob]; exact heap_alloc_new w _
  have HBX : Hid (Below w.heap.size w X) := hbX
  have HG : Hid _ := rgood_any n X hn
  clear hbX hn
  generalize nameB n = g at *
  cases g
  · go_enter Try.func57, Try.ntmps57
    go_upto_region 1 with fail
    rw [← hX, ← hob]
    clear hX hob
    have o0 : X.cell? ⟨ob, 0, none⟩ = some (.int .i64 k) := Bob.out.cell 0
    have o1 : X.cell? ⟨ob, 1, none⟩ = some (.string ⟨n.toArray⟩) := Bob.out.cell 1
    have o2 : X.cell? ⟨ob, 2, none⟩ = some (.int .i64 A) := Bob.out.cell 2
    have o3 : X.cell? ⟨ob, 3, none⟩ = some (.int .i64 B) := Bob.out.cell 3
    go_wp2_with fail
    refine Calls.mono HG.out ?_
    rintro e9 w9 ⟨rfl, hw9⟩
    replace hw9 := hw9.symm
    subst hw9
    go_wp2_with fail
    go_ret
    exact ⟨rfl, HBX.out⟩
  rw [Bool.true_and]
  by_cases hk : k = 1
  · have HO : Hid (opB k A B = (amtB A && valB B)) := show _ = _ from by unfold opB; rw [if_pos (show k = 1 by omega)]
    rw [HO.out]
    clear HO
    subst hk
    have C1 : Hid (∀ W, Calls Try.prog 73 #[.int .i64 1, .int .i64 A] W fun e w' => e = .returned (.bool (amtB A)) ∧ w' = W) := fun W => from1_any A W
    generalize amtB A = t1 at *
    have C2 : Hid (∀ W, Calls Try.prog 73 #[.int .i64 0, .int .i64 B] W fun e w' => e = .returned (.bool (valB B)) ∧ w' = W) := fun W => from0_any B W
    generalize valB B = t2 at *
    cases t1
    · go_enter Try.func57, Try.ntmps57
      go_upto_region 1 with fail
      rw [← hX, ← hob]
      clear hX hob
      have o0 : X.cell? ⟨ob, 0, none⟩ = some (.int .i64 1) := Bob.out.cell 0
      have o1 : X.cell? ⟨ob, 1, none⟩ = some (.string ⟨n.toArray⟩) := Bob.out.cell 1
      have o2 : X.cell? ⟨ob, 2, none⟩ = some (.int .i64 A) := Bob.out.cell 2
      have o3 : X.cell? ⟨ob, 3, none⟩ = some (.int .i64 B) := Bob.out.cell 3
      go_wp2_with fail
      refine Calls.mono HG.out ?_
      rintro e9 w9 ⟨rfl, hw9⟩
      replace hw9 := hw9.symm
      subst hw9
      go_wp2_with fail
      refine Calls.mono (C1.out X) ?_
      rintro e9 w9 ⟨rfl, hw9⟩
      replace hw9 := hw9.symm
      subst hw9
      go_wp2_with fail
      go_ret
      exact ⟨rfl, HBX.out⟩
    · go_enter Try.func57, Try.ntmps57
      go_upto_region 1 with fail
      rw [← hX, ← hob]
      clear hX hob
      have o0 : X.cell? ⟨ob, 0, none⟩ = some (.int .i64 1) := Bob.out.cell 0
      have o1 : X.cell? ⟨ob, 1, none⟩ = some (.string ⟨n.toArray⟩) := Bob.out.cell 1
      have o2 : X.cell? ⟨ob, 2, none⟩ = some (.int .i64 A) := Bob.out.cell 2
      have o3 : X.cell? ⟨ob, 3, none⟩ = some (.int .i64 B) := Bob.out.cell 3
      go_wp2_with fail
      refine Calls.mono HG.out ?_
      rintro e9 w9 ⟨rfl, hw9⟩
      replace hw9 := hw9.symm
      subst hw9
      go_wp2_with fail
      refine Calls.mono (C1.out X) ?_
      rintro e9 w9 ⟨rfl, hw9⟩
      replace hw9 := hw9.symm
      subst hw9
      go_wp2_with fail
      refine Calls.mono (C2.out X) ?_
      rintro e9 w9 ⟨rfl, hw9⟩
      replace hw9 := hw9.symm
      subst hw9
      go_wp2_with fail
      go_ret
      exact ⟨rfl, HBX.out⟩
  have f1 := hk
  clear hk
  by_cases hk : k = 2
  · have HO : Hid (opB k A B = (amtB A && (B == 0))) := show _ = _ from by unfold opB; rw [if_neg (show ¬ (k = 1) by omega), if_pos (show k = 2 ∨ k = 3 ∨ k = 10 by omega)]
    rw [HO.out]
    clear HO
    subst hk
    have C1 : Hid (∀ W, Calls Try.prog 73 #[.int .i64 1, .int .i64 A] W fun e w' => e = .returned (.bool (amtB A)) ∧ w' = W) := fun W => from1_any A W
    generalize amtB A = t1 at *
    obtain ⟨t2, ht2⟩ : ∃ t2, t2 = (B == 0) := ⟨_, rfl⟩
    rw [← ht2]
    cases t1
    · clear ht2
      go_enter Try.func57, Try.ntmps57
      go_upto_region 1 with fail
      rw [← hX, ← hob]
      clear hX hob
      have o0 : X.cell? ⟨ob, 0, none⟩ = some (.int .i64 2) := Bob.out.cell 0
      have o1 : X.cell? ⟨ob, 1, none⟩ = some (.string ⟨n.toArray⟩) := Bob.out.cell 1
      have o2 : X.cell? ⟨ob, 2, none⟩ = some (.int .i64 A) := Bob.out.cell 2
      have o3 : X.cell? ⟨ob, 3, none⟩ = some (.int .i64 B) := Bob.out.cell 3
      go_wp2_with fail
      refine Calls.mono HG.out ?_
      rintro e9 w9 ⟨rfl, hw9⟩
      replace hw9 := hw9.symm
      subst hw9
      go_wp2_with fail
      refine Calls.mono (C1.out X) ?_
      rintro e9 w9 ⟨rfl, hw9⟩
      replace hw9 := hw9.symm
      subst hw9
      go_wp2_with fail
      go_ret
      exact ⟨rfl, HBX.out⟩
    · cases t2
      · have hB : (B == 0) = false := ht2.symm
        clear ht2
        go_enter Try.func57, Try.ntmps57
        go_upto_region 1 with fail
        rw [← hX, ← hob]
        clear hX hob
        have o0 : X.cell? ⟨ob, 0, none⟩ = some (.int .i64 2) := Bob.out.cell 0
        have o1 : X.cell? ⟨ob, 1, none⟩ = some (.string ⟨n.toArray⟩) := Bob.out.cell 1
        have o2 : X.cell? ⟨ob, 2, none⟩ = some (.int .i64 A) := Bob.out.cell 2
        have o3 : X.cell? ⟨ob, 3, none⟩ = some (.int .i64 B) := Bob.out.cell 3
        go_wp2_with fail
        refine Calls.mono HG.out ?_
        rintro e9 w9 ⟨rfl, hw9⟩
        replace hw9 := hw9.symm
        subst hw9
        go_wp2_with fail
        refine Calls.mono (C1.out X) ?_
        rintro e9 w9 ⟨rfl, hw9⟩
        replace hw9 := hw9.symm
        subst hw9
        go_wp2_with fail
        go_ret
        exact ⟨rfl, HBX.out⟩
      · have hB : (B == 0) = true := ht2.symm
        clear ht2
        go_enter Try.func57, Try.ntmps57
        go_upto_region 1 with fail
        rw [← hX, ← hob]
        clear hX hob
        have o0 : X.cell? ⟨ob, 0, none⟩ = some (.int .i64 2) := Bob.out.cell 0
        have o1 : X.cell? ⟨ob, 1, none⟩ = some (.string ⟨n.toArray⟩) := Bob.out.cell 1
        have o2 : X.cell? ⟨ob, 2, none⟩ = some (.int .i64 A) := Bob.out.cell 2
        have o3 : X.cell? ⟨ob, 3, none⟩ = some (.int .i64 B) := Bob.out.cell 3
        go_wp2_with fail
        refine Calls.mono HG.out ?_
        rintro e9 w9 ⟨rfl, hw9⟩
        replace hw9 := hw9.symm
        subst hw9
        go_wp2_with fail
        refine Calls.mono (C1.out X) ?_
        rintro e9 w9 ⟨rfl, hw9⟩
        replace hw9 := hw9.symm
        subst hw9
        go_wp2_with fail
        go_ret
        exact ⟨rfl, HBX.out⟩
  have f2 := hk
  clear hk
  by_cases hk : k = 3
  · have HO : Hid (opB k A B = (amtB A && (B == 0))) := show _ = _ from by unfold opB; rw [if_neg (show ¬ (k = 1) by omega), if_pos (show k = 2 ∨ k = 3 ∨ k = 10 by omega)]
    rw [HO.out]
    clear HO
    subst hk
    have C1 : Hid (∀ W, Calls Try.prog 73 #[.int .i64 1, .int .i64 A] W fun e w' => e = .returned (.bool (amtB A)) ∧ w' = W) := fun W => from1_any A W
    generalize amtB A = t1 at *
    obtain ⟨t2, ht2⟩ : ∃ t2, t2 = (B == 0) := ⟨_, rfl⟩
    rw [← ht2]
    cases t1
    · clear ht2
      go_enter Try.func57, Try.ntmps57
      go_upto_region 1 with fail
      rw [← hX, ← hob]
      clear hX hob
      have o0 : X.cell? ⟨ob, 0, none⟩ = some (.int .i64 3) := Bob.out.cell 0
      have o1 : X.cell? ⟨ob, 1, none⟩ = some (.string ⟨n.toArray⟩) := Bob.out.cell 1
      have o2 : X.cell? ⟨ob, 2, none⟩ = some (.int .i64 A) := Bob.out.cell 2
      have o3 : X.cell? ⟨ob, 3, none⟩ = some (.int .i64 B) := Bob.out.cell 3
      go_wp2_with fail
      refine Calls.mono HG.out ?_
      rintro e9 w9 ⟨rfl, hw9⟩
      replace hw9 := hw9.symm
      subst hw9
      go_wp2_with fail
      refine Calls.mono (C1.out X) ?_
      rintro e9 w9 ⟨rfl, hw9⟩
      replace hw9 := hw9.symm
      subst hw9
      go_wp2_with fail
      go_ret
      exact ⟨rfl, HBX.out⟩
    · cases t2
      · have hB : (B == 0) = false := ht2.symm
        clear ht2
        go_enter Try.func57, Try.ntmps57
        go_upto_region 1 with fail
        rw [← hX, ← hob]
        clear hX hob
        have o0 : X.cell? ⟨ob, 0, none⟩ = some (.int .i64 3) := Bob.out.cell 0
        have o1 : X.cell? ⟨ob, 1, none⟩ = some (.string ⟨n.toArray⟩) := Bob.out.cell 1
        have o2 : X.cell? ⟨ob, 2, none⟩ = some (.int .i64 A) := Bob.out.cell 2
        have o3 : X.cell? ⟨ob, 3, none⟩ = some (.int .i64 B) := Bob.out.cell 3
        go_wp2_with fail
        refine Calls.mono HG.out ?_
        rintro e9 w9 ⟨rfl, hw9⟩
        replace hw9 := hw9.symm
        subst hw9
        go_wp2_with fail
        refine Calls.mono (C1.out X) ?_
        rintro e9 w9 ⟨rfl, hw9⟩
        replace hw9 := hw9.symm
        subst hw9
        go_wp2_with fail
        go_ret
        exact ⟨rfl, HBX.out⟩
      · have hB : (B == 0) = true := ht2.symm
        clear ht2
        go_enter Try.func57, Try.ntmps57
        go_upto_region 1 with fail
        rw [← hX, ← hob]
        clear hX hob
        have o0 : X.cell? ⟨ob, 0, none⟩ = some (.int .i64 3) := Bob.out.cell 0
        have o1 : X.cell? ⟨ob, 1, none⟩ = some (.string ⟨n.toArray⟩) := Bob.out.cell 1
        have o2 : X.cell? ⟨ob, 2, none⟩ = some (.int .i64 A) := Bob.out.cell 2
        have o3 : X.cell? ⟨ob, 3, none⟩ = some (.int .i64 B) := Bob.out.cell 3
        go_wp2_with fail
        refine Calls.mono HG.out ?_
        rintro e9 w9 ⟨rfl, hw9⟩
        replace hw9 := hw9.symm
        subst hw9
        go_wp2_with fail
        refine Calls.mono (C1.out X) ?_
        rintro e9 w9 ⟨rfl, hw9⟩
        replace hw9 := hw9.symm
        subst hw9
        go_wp2_with fail
        go_ret
        exact ⟨rfl, HBX.out⟩
  have f3 := hk
  clear hk
  by_cases hk : k = 10
  · have HO : Hid (opB k A B = (amtB A && (B == 0))) := show _ = _ from by unfold opB; rw [if_neg (show ¬ (k = 1) by omega), if_pos (show k = 2 ∨ k = 3 ∨ k = 10 by omega)]
    rw [HO.out]
    clear HO
    subst hk
    have C1 : Hid (∀ W, Calls Try.prog 73 #[.int .i64 1, .int .i64 A] W fun e w' => e = .returned (.bool (amtB A)) ∧ w' = W) := fun W => from1_any A W
    generalize amtB A = t1 at *
    obtain ⟨t2, ht2⟩ : ∃ t2, t2 = (B == 0) := ⟨_, rfl⟩
    rw [← ht2]
    cases t1
    · clear ht2
      go_enter Try.func57, Try.ntmps57
      go_upto_region 1 with fail
      rw [← hX, ← hob]
      clear hX hob
      have o0 : X.cell? ⟨ob, 0, none⟩ = some (.int .i64 10) := Bob.out.cell 0
      have o1 : X.cell? ⟨ob, 1, none⟩ = some (.string ⟨n.toArray⟩) := Bob.out.cell 1
      have o2 : X.cell? ⟨ob, 2, none⟩ = some (.int .i64 A) := Bob.out.cell 2
      have o3 : X.cell? ⟨ob, 3, none⟩ = some (.int .i64 B) := Bob.out.cell 3
      go_wp2_with fail
      refine Calls.mono HG.out ?_
      rintro e9 w9 ⟨rfl, hw9⟩
      replace hw9 := hw9.symm
      subst hw9
      go_wp2_with fail
      refine Calls.mono (C1.out X) ?_
      rintro e9 w9 ⟨rfl, hw9⟩
      replace hw9 := hw9.symm
      subst hw9
      go_wp2_with fail
      go_ret
      exact ⟨rfl, HBX.out⟩
    · cases t2
      · have hB : (B == 0) = false := ht2.symm
        clear ht2
        go_enter Try.func57, Try.ntmps57
        go_upto_region 1 with fail
        rw [← hX, ← hob]
        clear hX hob
        have o0 : X.cell? ⟨ob, 0, none⟩ = some (.int .i64 10) := Bob.out.cell 0
        have o1 : X.cell? ⟨ob, 1, none⟩ = some (.string ⟨n.toArray⟩) := Bob.out.cell 1
        have o2 : X.cell? ⟨ob, 2, none⟩ = some (.int .i64 A) := Bob.out.cell 2
        have o3 : X.cell? ⟨ob, 3, none⟩ = some (.int .i64 B) := Bob.out.cell 3
        go_wp2_with fail
        refine Calls.mono HG.out ?_
        rintro e9 w9 ⟨rfl, hw9⟩
        replace hw9 := hw9.symm
        subst hw9
        go_wp2_with fail
        refine Calls.mono (C1.out X) ?_
        rintro e9 w9 ⟨rfl, hw9⟩
        replace hw9 := hw9.symm
        subst hw9
        go_wp2_with fail
        go_ret
        exact ⟨rfl, HBX.out⟩
      · have hB : (B == 0) = true := ht2.symm
        clear ht2
        go_enter Try.func57, Try.ntmps57
        go_upto_region 1 with fail
        rw [← hX, ← hob]
        clear hX hob
        have o0 : X.cell? ⟨ob, 0, none⟩ = some (.int .i64 10) := Bob.out.cell 0
        have o1 : X.cell? ⟨ob, 1, none⟩ = some (.string ⟨n.toArray⟩) := Bob.out.cell 1
        have o2 : X.cell? ⟨ob, 2, none⟩ = some (.int .i64 A) := Bob.out.cell 2
        have o3 : X.cell? ⟨ob, 3, none⟩ = some (.int .i64 B) := Bob.out.cell 3
        go_wp2_with fail
        refine Calls.mono HG.out ?_
        rintro e9 w9 ⟨rfl, hw9⟩
        replace hw9 := hw9.symm
        subst hw9
        go_wp2_with fail
        refine Calls.mono (C1.out X) ?_
        rintro e9 w9 ⟨rfl, hw9⟩
        replace hw9 := hw9.symm
        subst hw9
        go_wp2_with fail
        go_ret
        exact ⟨rfl, HBX.out⟩
  have f10 := hk
  clear hk
  by_cases hk : k = 4
  · have HO : Hid (opB k A B = (amtB A && amtB B)) := show _ = _ from by unfold opB; rw [if_neg (show ¬ (k = 1) by omega), if_neg (show ¬ (k = 2 ∨ k = 3 ∨ k = 10) by omega), if_pos (show k = 4 by omega)]
    rw [HO.out]
    clear HO
    subst hk
    have C1 : Hid (∀ W, Calls Try.prog 73 #[.int .i64 1, .int .i64 A] W fun e w' => e = .returned (.bool (amtB A)) ∧ w' = W) := fun W => from1_any A W
    generalize amtB A = t1 at *
    have C2 : Hid (∀ W, Calls Try.prog 73 #[.int .i64 1, .int .i64 B] W fun e w' => e = .returned (.bool (amtB B)) ∧ w' = W) := fun W => from1_any B W
    generalize amtB B = t2 at *
    cases t1
    · go_enter Try.func57, Try.ntmps57
      go_upto_region 1 with fail
      rw [← hX, ← hob]
      clear hX hob
      have o0 : X.cell? ⟨ob, 0, none⟩ = some (.int .i64 4) := Bob.out.cell 0
      have o1 : X.cell? ⟨ob, 1, none⟩ = some (.string ⟨n.toArray⟩) := Bob.out.cell 1
      have o2 : X.cell? ⟨ob, 2, none⟩ = some (.int .i64 A) := Bob.out.cell 2
      have o3 : X.cell? ⟨ob, 3, none⟩ = some (.int .i64 B) := Bob.out.cell 3
      go_wp2_with fail
      refine Calls.mono HG.out ?_
      rintro e9 w9 ⟨rfl, hw9⟩
      replace hw9 := hw9.symm
      subst hw9
      go_wp2_with fail
      refine Calls.mono (C1.out X) ?_
      rintro e9 w9 ⟨rfl, hw9⟩
      replace hw9 := hw9.symm
      subst hw9
      go_wp2_with fail
      go_ret
      exact ⟨rfl, HBX.out⟩
    · go_enter Try.func57, Try.ntmps57
      go_upto_region 1 with fail
      rw [← hX, ← hob]
      clear hX hob
      have o0 : X.cell? ⟨ob, 0, none⟩ = some (.int .i64 4) := Bob.out.cell 0
      have o1 : X.cell? ⟨ob, 1, none⟩ = some (.string ⟨n.toArray⟩) := Bob.out.cell 1
      have o2 : X.cell? ⟨ob, 2, none⟩ = some (.int .i64 A) := Bob.out.cell 2
      have o3 : X.cell? ⟨ob, 3, none⟩ = some (.int .i64 B) := Bob.out.cell 3
      go_wp2_with fail
      refine Calls.mono HG.out ?_
      rintro e9 w9 ⟨rfl, hw9⟩
      replace hw9 := hw9.symm
      subst hw9
      go_wp2_with fail
      refine Calls.mono (C1.out X) ?_
      rintro e9 w9 ⟨rfl, hw9⟩
      replace hw9 := hw9.symm
      subst hw9
      go_wp2_with fail
      refine Calls.mono (C2.out X) ?_
      rintro e9 w9 ⟨rfl, hw9⟩
      replace hw9 := hw9.symm
      subst hw9
      go_wp2_with fail
      go_ret
      exact ⟨rfl, HBX.out⟩
  have f4 := hk
  clear hk
  by_cases hk : k = 5
  · have HO : Hid (opB k A B = (decide (1 ≤ A) && (B == 0))) := show _ = _ from by unfold opB; rw [if_neg (show ¬ (k = 1) by omega), if_neg (show ¬ (k = 2 ∨ k = 3 ∨ k = 10) by omega), if_neg (show ¬ (k = 4) by omega), if_pos (show k = 5 ∨ k = 6 ∨ k = 12 by omega)]
    rw [HO.out]
    clear HO
    subst hk
    obtain ⟨t1, ht1⟩ : ∃ t1, t1 = decide (1 ≤ A) := ⟨_, rfl⟩
    rw [← ht1]
    obtain ⟨t2, ht2⟩ : ∃ t2, t2 = (B == 0) := ⟨_, rfl⟩
    rw [← ht2]
    cases t1
    · have hA : ¬ 1 ≤ A := by simpa using ht1.symm
      clear ht1
      clear ht2
      go_enter Try.func57, Try.ntmps57
      go_upto_region 1 with fail
      rw [← hX, ← hob]
      clear hX hob
      have o0 : X.cell? ⟨ob, 0, none⟩ = some (.int .i64 5) := Bob.out.cell 0
      have o1 : X.cell? ⟨ob, 1, none⟩ = some (.string ⟨n.toArray⟩) := Bob.out.cell 1
      have o2 : X.cell? ⟨ob, 2, none⟩ = some (.int .i64 A) := Bob.out.cell 2
      have o3 : X.cell? ⟨ob, 3, none⟩ = some (.int .i64 B) := Bob.out.cell 3
      go_wp2_with fail
      refine Calls.mono HG.out ?_
      rintro e9 w9 ⟨rfl, hw9⟩
      replace hw9 := hw9.symm
      subst hw9
      go_wp2_with fail
      go_ret
      exact ⟨rfl, HBX.out⟩
    · have hA : 1 ≤ A := by simpa using ht1.symm
      clear ht1
      cases t2
      · have hB : (B == 0) = false := ht2.symm
        clear ht2
        go_enter Try.func57, Try.ntmps57
        go_upto_region 1 with fail
        rw [← hX, ← hob]
        clear hX hob
        have o0 : X.cell? ⟨ob, 0, none⟩ = some (.int .i64 5) := Bob.out.cell 0
        have o1 : X.cell? ⟨ob, 1, none⟩ = some (.string ⟨n.toArray⟩) := Bob.out.cell 1
        have o2 : X.cell? ⟨ob, 2, none⟩ = some (.int .i64 A) := Bob.out.cell 2
        have o3 : X.cell? ⟨ob, 3, none⟩ = some (.int .i64 B) := Bob.out.cell 3
        go_wp2_with fail
        refine Calls.mono HG.out ?_
        rintro e9 w9 ⟨rfl, hw9⟩
        replace hw9 := hw9.symm
        subst hw9
        go_wp2_with fail
        go_ret
        exact ⟨rfl, HBX.out⟩
      · have hB : (B == 0) = true := ht2.symm
        clear ht2
        go_enter Try.func57, Try.ntmps57
        go_upto_region 1 with fail
        rw [← hX, ← hob]
        clear hX hob
        have o0 : X.cell? ⟨ob, 0, none⟩ = some (.int .i64 5) := Bob.out.cell 0
        have o1 : X.cell? ⟨ob, 1, none⟩ = some (.string ⟨n.toArray⟩) := Bob.out.cell 1
        have o2 : X.cell? ⟨ob, 2, none⟩ = some (.int .i64 A) := Bob.out.cell 2
        have o3 : X.cell? ⟨ob, 3, none⟩ = some (.int .i64 B) := Bob.out.cell 3
        go_wp2_with fail
        refine Calls.mono HG.out ?_
        rintro e9 w9 ⟨rfl, hw9⟩
        replace hw9 := hw9.symm
        subst hw9
        go_wp2_with fail
        go_ret
        exact ⟨rfl, HBX.out⟩
  have f5 := hk
  clear hk
  by_cases hk : k = 6
  · have HO : Hid (opB k A B = (decide (1 ≤ A) && (B == 0))) := show _ = _ from by unfold opB; rw [if_neg (show ¬ (k = 1) by omega), if_neg (show ¬ (k = 2 ∨ k = 3 ∨ k = 10) by omega), if_neg (show ¬ (k = 4) by omega), if_pos (show k = 5 ∨ k = 6 ∨ k = 12 by omega)]
    rw [HO.out]
    clear HO
    subst hk
    obtain ⟨t1, ht1⟩ : ∃ t1, t1 = decide (1 ≤ A) := ⟨_, rfl⟩
    rw [← ht1]
    obtain ⟨t2, ht2⟩ : ∃ t2, t2 = (B == 0) := ⟨_, rfl⟩
    rw [← ht2]
    cases t1
    · have hA : ¬ 1 ≤ A := by simpa using ht1.symm
      clear ht1
      clear ht2
      go_enter Try.func57, Try.ntmps57
      go_upto_region 1 with fail
      rw [← hX, ← hob]
      clear hX hob
      have o0 : X.cell? ⟨ob, 0, none⟩ = some (.int .i64 6) := Bob.out.cell 0
      have o1 : X.cell? ⟨ob, 1, none⟩ = some (.string ⟨n.toArray⟩) := Bob.out.cell 1
      have o2 : X.cell? ⟨ob, 2, none⟩ = some (.int .i64 A) := Bob.out.cell 2
      have o3 : X.cell? ⟨ob, 3, none⟩ = some (.int .i64 B) := Bob.out.cell 3
      go_wp2_with fail
      refine Calls.mono HG.out ?_
      rintro e9 w9 ⟨rfl, hw9⟩
      replace hw9 := hw9.symm
      subst hw9
      go_wp2_with fail
      go_ret
      exact ⟨rfl, HBX.out⟩
    · have hA : 1 ≤ A := by simpa using ht1.symm
      clear ht1
      cases t2
      · have hB : (B == 0) = false := ht2.symm
        clear ht2
        go_enter Try.func57, Try.ntmps57
        go_upto_region 1 with fail
        rw [← hX, ← hob]
        clear hX hob
        have o0 : X.cell? ⟨ob, 0, none⟩ = some (.int .i64 6) := Bob.out.cell 0
        have o1 : X.cell? ⟨ob, 1, none⟩ = some (.string ⟨n.toArray⟩) := Bob.out.cell 1
        have o2 : X.cell? ⟨ob, 2, none⟩ = some (.int .i64 A) := Bob.out.cell 2
        have o3 : X.cell? ⟨ob, 3, none⟩ = some (.int .i64 B) := Bob.out.cell 3
        go_wp2_with fail
        refine Calls.mono HG.out ?_
        rintro e9 w9 ⟨rfl, hw9⟩
        replace hw9 := hw9.symm
        subst hw9
        go_wp2_with fail
        go_ret
        exact ⟨rfl, HBX.out⟩
      · have hB : (B == 0) = true := ht2.symm
        clear ht2
        go_enter Try.func57, Try.ntmps57
        go_upto_region 1 with fail
        rw [← hX, ← hob]
        clear hX hob
        have o0 : X.cell? ⟨ob, 0, none⟩ = some (.int .i64 6) := Bob.out.cell 0
        have o1 : X.cell? ⟨ob, 1, none⟩ = some (.string ⟨n.toArray⟩) := Bob.out.cell 1
        have o2 : X.cell? ⟨ob, 2, none⟩ = some (.int .i64 A) := Bob.out.cell 2
        have o3 : X.cell? ⟨ob, 3, none⟩ = some (.int .i64 B) := Bob.out.cell 3
        go_wp2_with fail
        refine Calls.mono HG.out ?_
        rintro e9 w9 ⟨rfl, hw9⟩
        replace hw9 := hw9.symm
        subst hw9
        go_wp2_with fail
        go_ret
        exact ⟨rfl, HBX.out⟩
  have f6 := hk
  clear hk
  by_cases hk : k = 12
  · have HO : Hid (opB k A B = (decide (1 ≤ A) && (B == 0))) := show _ = _ from by unfold opB; rw [if_neg (show ¬ (k = 1) by omega), if_neg (show ¬ (k = 2 ∨ k = 3 ∨ k = 10) by omega), if_neg (show ¬ (k = 4) by omega), if_pos (show k = 5 ∨ k = 6 ∨ k = 12 by omega)]
    rw [HO.out]
    clear HO
    subst hk
    obtain ⟨t1, ht1⟩ : ∃ t1, t1 = decide (1 ≤ A) := ⟨_, rfl⟩
    rw [← ht1]
    obtain ⟨t2, ht2⟩ : ∃ t2, t2 = (B == 0) := ⟨_, rfl⟩
    rw [← ht2]
    cases t1
    · have hA : ¬ 1 ≤ A := by simpa using ht1.symm
      clear ht1
      clear ht2
      go_enter Try.func57, Try.ntmps57
      go_upto_region 1 with fail
      rw [← hX, ← hob]
      clear hX hob
      have o0 : X.cell? ⟨ob, 0, none⟩ = some (.int .i64 12) := Bob.out.cell 0
      have o1 : X.cell? ⟨ob, 1, none⟩ = some (.string ⟨n.toArray⟩) := Bob.out.cell 1
      have o2 : X.cell? ⟨ob, 2, none⟩ = some (.int .i64 A) := Bob.out.cell 2
      have o3 : X.cell? ⟨ob, 3, none⟩ = some (.int .i64 B) := Bob.out.cell 3
      go_wp2_with fail
      refine Calls.mono HG.out ?_
      rintro e9 w9 ⟨rfl, hw9⟩
      replace hw9 := hw9.symm
      subst hw9
      go_wp2_with fail
      go_ret
      exact ⟨rfl, HBX.out⟩
    · have hA : 1 ≤ A := by simpa using ht1.symm
      clear ht1
      cases t2
      · have hB : (B == 0) = false := ht2.symm
        clear ht2
        go_enter Try.func57, Try.ntmps57
        go_upto_region 1 with fail
        rw [← hX, ← hob]
        clear hX hob
        have o0 : X.cell? ⟨ob, 0, none⟩ = some (.int .i64 12) := Bob.out.cell 0
        have o1 : X.cell? ⟨ob, 1, none⟩ = some (.string ⟨n.toArray⟩) := Bob.out.cell 1
        have o2 : X.cell? ⟨ob, 2, none⟩ = some (.int .i64 A) := Bob.out.cell 2
        have o3 : X.cell? ⟨ob, 3, none⟩ = some (.int .i64 B) := Bob.out.cell 3
        go_wp2_with fail
        refine Calls.mono HG.out ?_
        rintro e9 w9 ⟨rfl, hw9⟩
        replace hw9 := hw9.symm
        subst hw9
        go_wp2_with fail
        go_ret
        exact ⟨rfl, HBX.out⟩
      · have hB : (B == 0) = true := ht2.symm
        clear ht2
        go_enter Try.func57, Try.ntmps57
        go_upto_region 1 with fail
        rw [← hX, ← hob]
        clear hX hob
        have o0 : X.cell? ⟨ob, 0, none⟩ = some (.int .i64 12) := Bob.out.cell 0
        have o1 : X.cell? ⟨ob, 1, none⟩ = some (.string ⟨n.toArray⟩) := Bob.out.cell 1
        have o2 : X.cell? ⟨ob, 2, none⟩ = some (.int .i64 A) := Bob.out.cell 2
        have o3 : X.cell? ⟨ob, 3, none⟩ = some (.int .i64 B) := Bob.out.cell 3
        go_wp2_with fail
        refine Calls.mono HG.out ?_
        rintro e9 w9 ⟨rfl, hw9⟩
        replace hw9 := hw9.symm
        subst hw9
        go_wp2_with fail
        go_ret
        exact ⟨rfl, HBX.out⟩
  have f12 := hk
  clear hk
  by_cases hk : k = 7
  · have HO : Hid (opB k A B = ((A == 0) && (B == 0))) := show _ = _ from by unfold opB; rw [if_neg (show ¬ (k = 1) by omega), if_neg (show ¬ (k = 2 ∨ k = 3 ∨ k = 10) by omega), if_neg (show ¬ (k = 4) by omega), if_neg (show ¬ (k = 5 ∨ k = 6 ∨ k = 12) by omega), if_pos (show k = 7 by omega)]
    rw [HO.out]
    clear HO
    subst hk
    obtain ⟨t1, ht1⟩ : ∃ t1, t1 = (A == 0) := ⟨_, rfl⟩
    rw [← ht1]
    obtain ⟨t2, ht2⟩ : ∃ t2, t2 = (B == 0) := ⟨_, rfl⟩
    rw [← ht2]
    cases t1
    · have hA : (A == 0) = false := ht1.symm
      clear ht1
      clear ht2
      go_enter Try.func57, Try.ntmps57
      go_upto_region 1 with fail
      rw [← hX, ← hob]
      clear hX hob
      have o0 : X.cell? ⟨ob, 0, none⟩ = some (.int .i64 7) := Bob.out.cell 0
      have o1 : X.cell? ⟨ob, 1, none⟩ = some (.string ⟨n.toArray⟩) := Bob.out.cell 1
      have o2 : X.cell? ⟨ob, 2, none⟩ = some (.int .i64 A) := Bob.out.cell 2
      have o3 : X.cell? ⟨ob, 3, none⟩ = some (.int .i64 B) := Bob.out.cell 3
      go_wp2_with fail
      refine Calls.mono HG.out ?_
      rintro e9 w9 ⟨rfl, hw9⟩
      replace hw9 := hw9.symm
      subst hw9
      go_wp2_with fail
      go_ret
      exact ⟨rfl, HBX.out⟩
    · have hA : (A == 0) = true := ht1.symm
      clear ht1
      cases t2
      · have hB : (B == 0) = false := ht2.symm
        clear ht2
        go_enter Try.func57, Try.ntmps57
        go_upto_region 1 with fail
        rw [← hX, ← hob]
        clear hX hob
        have o0 : X.cell? ⟨ob, 0, none⟩ = some (.int .i64 7) := Bob.out.cell 0
        have o1 : X.cell? ⟨ob, 1, none⟩ = some (.string ⟨n.toArray⟩) := Bob.out.cell 1
        have o2 : X.cell? ⟨ob, 2, none⟩ = some (.int .i64 A) := Bob.out.cell 2
        have o3 : X.cell? ⟨ob, 3, none⟩ = some (.int .i64 B) := Bob.out.cell 3
        go_wp2_with fail
        refine Calls.mono HG.out ?_
        rintro e9 w9 ⟨rfl, hw9⟩
        replace hw9 := hw9.symm
        subst hw9
        go_wp2_with fail
        go_ret
        exact ⟨rfl, HBX.out⟩
      · have hB : (B == 0) = true := ht2.symm
        clear ht2
        go_enter Try.func57, Try.ntmps57
        go_upto_region 1 with fail
        rw [← hX, ← hob]
        clear hX hob
        have o0 : X.cell? ⟨ob, 0, none⟩ = some (.int .i64 7) := Bob.out.cell 0
        have o1 : X.cell? ⟨ob, 1, none⟩ = some (.string ⟨n.toArray⟩) := Bob.out.cell 1
        have o2 : X.cell? ⟨ob, 2, none⟩ = some (.int .i64 A) := Bob.out.cell 2
        have o3 : X.cell? ⟨ob, 3, none⟩ = some (.int .i64 B) := Bob.out.cell 3
        go_wp2_with fail
        refine Calls.mono HG.out ?_
        rintro e9 w9 ⟨rfl, hw9⟩
        replace hw9 := hw9.symm
        subst hw9
        go_wp2_with fail
        go_ret
        exact ⟨rfl, HBX.out⟩
  have f7 := hk
  clear hk
  by_cases hk : k = 8
  · have HO : Hid (opB k A B = (valB A && amtB B)) := show _ = _ from by unfold opB; rw [if_neg (show ¬ (k = 1) by omega), if_neg (show ¬ (k = 2 ∨ k = 3 ∨ k = 10) by omega), if_neg (show ¬ (k = 4) by omega), if_neg (show ¬ (k = 5 ∨ k = 6 ∨ k = 12) by omega), if_neg (show ¬ (k = 7) by omega), if_pos (show k = 8 by omega)]
    rw [HO.out]
    clear HO
    subst hk
    have C1 : Hid (∀ W, Calls Try.prog 73 #[.int .i64 0, .int .i64 A] W fun e w' => e = .returned (.bool (valB A)) ∧ w' = W) := fun W => from0_any A W
    generalize valB A = t1 at *
    have C2 : Hid (∀ W, Calls Try.prog 73 #[.int .i64 1, .int .i64 B] W fun e w' => e = .returned (.bool (amtB B)) ∧ w' = W) := fun W => from1_any B W
    generalize amtB B = t2 at *
    cases t1
    · go_enter Try.func57, Try.ntmps57
      go_upto_region 1 with fail
      rw [← hX, ← hob]
      clear hX hob
      have o0 : X.cell? ⟨ob, 0, none⟩ = some (.int .i64 8) := Bob.out.cell 0
      have o1 : X.cell? ⟨ob, 1, none⟩ = some (.string ⟨n.toArray⟩) := Bob.out.cell 1
      have o2 : X.cell? ⟨ob, 2, none⟩ = some (.int .i64 A) := Bob.out.cell 2
      have o3 : X.cell? ⟨ob, 3, none⟩ = some (.int .i64 B) := Bob.out.cell 3
      go_wp2_with fail
      refine Calls.mono HG.out ?_
      rintro e9 w9 ⟨rfl, hw9⟩
      replace hw9 := hw9.symm
      subst hw9
      go_wp2_with fail
      refine Calls.mono (C1.out X) ?_
      rintro e9 w9 ⟨rfl, hw9⟩
      replace hw9 := hw9.symm
      subst hw9
      go_wp2_with fail
      go_ret
      exact ⟨rfl, HBX.out⟩
    · go_enter Try.func57, Try.ntmps57
      go_upto_region 1 with fail
      rw [← hX, ← hob]
      clear hX hob
      have o0 : X.cell? ⟨ob, 0, none⟩ = some (.int .i64 8) := Bob.out.cell 0
      have o1 : X.cell? ⟨ob, 1, none⟩ = some (.string ⟨n.toArray⟩) := Bob.out.cell 1
      have o2 : X.cell? ⟨ob, 2, none⟩ = some (.int .i64 A) := Bob.out.cell 2
      have o3 : X.cell? ⟨ob, 3, none⟩ = some (.int .i64 B) := Bob.out.cell 3
      go_wp2_with fail
      refine Calls.mono HG.out ?_
      rintro e9 w9 ⟨rfl, hw9⟩
      replace hw9 := hw9.symm
      subst hw9
      go_wp2_with fail
      refine Calls.mono (C1.out X) ?_
      rintro e9 w9 ⟨rfl, hw9⟩
      replace hw9 := hw9.symm
      subst hw9
      go_wp2_with fail
      refine Calls.mono (C2.out X) ?_
      rintro e9 w9 ⟨rfl, hw9⟩
      replace hw9 := hw9.symm
      subst hw9
      go_wp2_with fail
      go_ret
      exact ⟨rfl, HBX.out⟩
  have f8 := hk
  clear hk
  by_cases hk : k = 9
  · have HO : Hid (opB k A B = (valB A && (B == 0))) := show _ = _ from by unfold opB; rw [if_neg (show ¬ (k = 1) by omega), if_neg (show ¬ (k = 2 ∨ k = 3 ∨ k = 10) by omega), if_neg (show ¬ (k = 4) by omega), if_neg (show ¬ (k = 5 ∨ k = 6 ∨ k = 12) by omega), if_neg (show ¬ (k = 7) by omega), if_neg (show ¬ (k = 8) by omega), if_pos (show k = 9 by omega)]
    rw [HO.out]
    clear HO
    subst hk
    have C1 : Hid (∀ W, Calls Try.prog 73 #[.int .i64 0, .int .i64 A] W fun e w' => e = .returned (.bool (valB A)) ∧ w' = W) := fun W => from0_any A W
    generalize valB A = t1 at *
    obtain ⟨t2, ht2⟩ : ∃ t2, t2 = (B == 0) := ⟨_, rfl⟩
    rw [← ht2]
    cases t1
    · clear ht2
      go_enter Try.func57, Try.ntmps57
      go_upto_region 1 with fail
      rw [← hX, ← hob]
      clear hX hob
      have o0 : X.cell? ⟨ob, 0, none⟩ = some (.int .i64 9) := Bob.out.cell 0
      have o1 : X.cell? ⟨ob, 1, none⟩ = some (.string ⟨n.toArray⟩) := Bob.out.cell 1
      have o2 : X.cell? ⟨ob, 2, none⟩ = some (.int .i64 A) := Bob.out.cell 2
      have o3 : X.cell? ⟨ob, 3, none⟩ = some (.int .i64 B) := Bob.out.cell 3
      go_wp2_with fail
      refine Calls.mono HG.out ?_
      rintro e9 w9 ⟨rfl, hw9⟩
      replace hw9 := hw9.symm
      subst hw9
      go_wp2_with fail
      refine Calls.mono (C1.out X) ?_
      rintro e9 w9 ⟨rfl, hw9⟩
      replace hw9 := hw9.symm
      subst hw9
      go_wp2_with fail
      go_ret
      exact ⟨rfl, HBX.out⟩
    · cases t2
      · have hB : (B == 0) = false := ht2.symm
        clear ht2
        go_enter Try.func57, Try.ntmps57
        go_upto_region 1 with fail
        rw [← hX, ← hob]
        clear hX hob
        have o0 : X.cell? ⟨ob, 0, none⟩ = some (.int .i64 9) := Bob.out.cell 0
        have o1 : X.cell? ⟨ob, 1, none⟩ = some (.string ⟨n.toArray⟩) := Bob.out.cell 1
        have o2 : X.cell? ⟨ob, 2, none⟩ = some (.int .i64 A) := Bob.out.cell 2
        have o3 : X.cell? ⟨ob, 3, none⟩ = some (.int .i64 B) := Bob.out.cell 3
        go_wp2_with fail
        refine Calls.mono HG.out ?_
        rintro e9 w9 ⟨rfl, hw9⟩
        replace hw9 := hw9.symm
        subst hw9
        go_wp2_with fail
        refine Calls.mono (C1.out X) ?_
        rintro e9 w9 ⟨rfl, hw9⟩
        replace hw9 := hw9.symm
        subst hw9
        go_wp2_with fail
        go_ret
        exact ⟨rfl, HBX.out⟩
      · have hB : (B == 0) = true := ht2.symm
        clear ht2
        go_enter Try.func57, Try.ntmps57
        go_upto_region 1 with fail
        rw [← hX, ← hob]
        clear hX hob
        have o0 : X.cell? ⟨ob, 0, none⟩ = some (.int .i64 9) := Bob.out.cell 0
        have o1 : X.cell? ⟨ob, 1, none⟩ = some (.string ⟨n.toArray⟩) := Bob.out.cell 1
        have o2 : X.cell? ⟨ob, 2, none⟩ = some (.int .i64 A) := Bob.out.cell 2
        have o3 : X.cell? ⟨ob, 3, none⟩ = some (.int .i64 B) := Bob.out.cell 3
        go_wp2_with fail
        refine Calls.mono HG.out ?_
        rintro e9 w9 ⟨rfl, hw9⟩
        replace hw9 := hw9.symm
        subst hw9
        go_wp2_with fail
        refine Calls.mono (C1.out X) ?_
        rintro e9 w9 ⟨rfl, hw9⟩
        replace hw9 := hw9.symm
        subst hw9
        go_wp2_with fail
        go_ret
        exact ⟨rfl, HBX.out⟩
  have f9 := hk
  clear hk
  have HO : Hid (opB k A B = false) := show _ = _ from by unfold opB; rw [if_neg f1, if_neg (show ¬ (k = 2 ∨ k = 3 ∨ k = 10) by omega), if_neg f4, if_neg (show ¬ (k = 5 ∨ k = 6 ∨ k = 12) by omega), if_neg f7, if_neg f8, if_neg f9]
  rw [HO.out]
  have e1 : (k == 1) = false := by rw [beq_eq_false_iff_ne]; exact f1
  have e2 : (k == 2) = false := by rw [beq_eq_false_iff_ne]; exact f2
  have e3 : (k == 3) = false := by rw [beq_eq_false_iff_ne]; exact f3
  have e10 : (k == 10) = false := by rw [beq_eq_false_iff_ne]; exact f10
  have e4 : (k == 4) = false := by rw [beq_eq_false_iff_ne]; exact f4
  have e5 : (k == 5) = false := by rw [beq_eq_false_iff_ne]; exact f5
  have e6 : (k == 6) = false := by rw [beq_eq_false_iff_ne]; exact f6
  have e12 : (k == 12) = false := by rw [beq_eq_false_iff_ne]; exact f12
  have e7 : (k == 7) = false := by rw [beq_eq_false_iff_ne]; exact f7
  have e8 : (k == 8) = false := by rw [beq_eq_false_iff_ne]; exact f8
  have e9 : (k == 9) = false := by rw [beq_eq_false_iff_ne]; exact f9
  clear f1 f2 f3 f10 f4 f5 f6 f12 f7 f8 f9 HO
  go_enter Try.func57, Try.ntmps57
  go_upto_region 1 with fail
  rw [← hX, ← hob]
  clear hX hob
  have o0 : X.cell? ⟨ob, 0, none⟩ = some (.int .i64 k) := Bob.out.cell 0
  have o1 : X.cell? ⟨ob, 1, none⟩ = some (.string ⟨n.toArray⟩) := Bob.out.cell 1
  have o2 : X.cell? ⟨ob, 2, none⟩ = some (.int .i64 A) := Bob.out.cell 2
  have o3 : X.cell? ⟨ob, 3, none⟩ = some (.int .i64 B) := Bob.out.cell 3
  go_wp2_with fail
  refine Calls.mono HG.out ?_
  rintro e9 w9 ⟨rfl, hw9⟩
  replace hw9 := hw9.symm
  subst hw9
  go_wp2_with fail
  go_ret
  exact ⟨rfl, HBX.out⟩
end Go.Proofs.Ytaiknlnjahjeiaa
