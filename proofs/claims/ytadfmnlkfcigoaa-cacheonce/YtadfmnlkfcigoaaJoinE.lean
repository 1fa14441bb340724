import Derived.Test.YtadfmnlkfcigoaaJoinD
import Derived.Test.YtadfmnlkfcigoaaMix2
namespace Go.Proofs.Ytadfmnlkfcigoaa
open Go.RowKit Go.PlainAid Go.Sort
set_option linter.unusedVariables false
set_option linter.unusedSimpArgs false
set_option maxRecDepth 100000 in
theorem isNaN_any (x : Int) (w : World) : Calls Try.prog 50 #[.int .i64 x] w fun r w' => r = .returned (.bool false) ∧ w' = w := by
  go_enter Try.func50, Try.ntmps50
  go_wp2
  go_ret
  exact ⟨by simp, rfl⟩
def cmpI (x y : Int) : Int := if x < y then -1 else if x > y then 1 else 0
set_option maxRecDepth 100000 in
theorem compare_any (x y : Int) (w : World) : Calls Try.prog 46 #[.int .i64 x, .int .i64 y] w fun r w' => r = .returned (.int .i64 (cmpI x y)) ∧ w' = w := by
  by_cases h1 : x < y
  · have e : cmpI x y = -1 := by simp [cmpI, h1]
    rw [e]
    go_enter Try.func46, Try.ntmps46
    go_wp2_with (go_at_call 50; refine (isNaN_any _ _).mono ?_; rintro e w' ⟨rfl, rfl⟩)
    go_ret
    exact ⟨rfl, rfl⟩
  · by_cases h2 : y < x
    · have e : cmpI x y = 1 := by simp [cmpI, h1, h2]
      rw [e]
      go_enter Try.func46, Try.ntmps46
      go_wp2_with (go_at_call 50; refine (isNaN_any _ _).mono ?_; rintro e w' ⟨rfl, rfl⟩)
      go_ret
      exact ⟨rfl, rfl⟩
    · have e : cmpI x y = 0 := by simp [cmpI, h1, h2]
      rw [e]
      go_enter Try.func46, Try.ntmps46
      go_wp2_with (go_at_call 50; refine (isNaN_any _ _).mono ?_; rintro e w' ⟨rfl, rfl⟩)
      go_ret
      exact ⟨rfl, rfl⟩
def orI (x y : Int) : Int := if x ≠ 0 then x else y
set_option maxRecDepth 100000 in
set_option maxHeartbeats 800000 in
theorem or_any (x y : Int) (g c : Nat) (w : World) (e1 : w.cell? ⟨g, 0, none⟩ = some (.int .i64 x)) (e2 : w.cell? ⟨g, 1, none⟩ = some (.int .i64 y)) :
    Calls Try.prog 45 #[.slice (some ⟨g, 0, none⟩) 2 c] w fun r w' => r = .returned (.int .i64 (orI x y)) ∧ w' = w := by
  by_cases h1 : x = 0
  · subst h1
    by_cases h2 : y = 0
    · subst h2
      go_enter Try.func45, Try.ntmps45
      go_wp2
      refine wp_loop_rounds 3 ?_
      rw [rounds_succ]
      go_wp2
      rw [rounds_succ]
      go_wp2
      rw [rounds_succ]
      go_wp2
      go_ret
      exact ⟨rfl, rfl⟩
    · have e : orI 0 y = y := by simp [orI]
      rw [e]
      go_enter Try.func45, Try.ntmps45
      go_wp2
      refine wp_loop_rounds 2 ?_
      rw [rounds_succ]
      go_wp2
      rw [rounds_succ]
      go_wp2
      go_ret
      exact ⟨rfl, rfl⟩
  · have e : orI x y = x := by simp [orI, h1]
    rw [e]
    go_enter Try.func45, Try.ntmps45
    go_wp2
    refine wp_loop_rounds 1 ?_
    rw [rounds_succ]
    go_wp2
    go_ret
    exact ⟨rfl, rfl⟩
def cmpC (a b : Int × Int) : Int := orI (cmpI a.1 b.1) (cmpI a.2 b.2)
def Ccs (c : Int × Int) : List Value := [.int .i64 c.1, .int .i64 c.2]
set_option maxRecDepth 100000 in
set_option maxHeartbeats 1600000 in
theorem closure_any (a b : Int × Int) (W : World) : Calls Try.prog 41 #[.agg (Ccs a).toArray, .agg (Ccs b).toArray] W fun e w' => e = .returned (.int .i64 (cmpC a b)) ∧ ∃ q os', w' = Sort.grow (W.drewN q) os' := by
  unfold Ccs cmpC
  obtain ⟨X, hX⟩ : ∃ X, X = (W.alloc (.cells #[.int .i64 a.1, .int .i64 a.2] 32)).alloc (.cells #[.int .i64 b.1, .int .i64 b.2] 32) := ⟨_, rfl⟩
  have hA : Blk X W.heap.size #[.int .i64 a.1, .int .i64 a.2] 32 := by
    rw [hX]
    exact Blk.below (heap_alloc_new W _) ((Below.refl _ _).alloc (Nat.le_refl _) _) (by simp)
  have hB : Blk X (W.heap.size + 1) #[.int .i64 b.1, .int .i64 b.2] 32 := by
    rw [hX]
    have := heap_alloc_new (W.alloc (.cells #[.int .i64 a.1, .int .i64 a.2] 32)) (.cells #[.int .i64 b.1, .int .i64 b.2] 32)
    rw [World.size_alloc] at this
    exact this
  have HXG : Hid (X = Sort.grow (W.drewN 0) (#[.cells #[.int .i64 a.1, .int .i64 a.2] 32] ++ #[.cells #[.int .i64 b.1, .int .i64 b.2] 32])) := show X = Sort.grow (W.drewN 0) (#[.cells #[.int .i64 a.1, .int .i64 a.2] 32] ++ #[.cells #[.int .i64 b.1, .int .i64 b.2] 32]) from by rw [hX, Sort.alloc_eq_grow, Sort.alloc_eq_grow, Sort.grow_grow]; rfl
  obtain ⟨ab, hab⟩ : ∃ ab, ab = W.heap.size := ⟨_, rfl⟩
  obtain ⟨bb, hbb⟩ : ∃ bb, bb = W.heap.size + 1 := ⟨_, rfl⟩
  have HA : Hid (Blk X ab #[.int .i64 a.1, .int .i64 a.2] 32) := show Blk X ab #[.int .i64 a.1, .int .i64 a.2] 32 from by rw [hab]; exact hA
  have HB : Hid (Blk X bb #[.int .i64 b.1, .int .i64 b.2] 32) := show Blk X bb #[.int .i64 b.1, .int .i64 b.2] 32 from by rw [hbb]; exact hB
  clear hA hB
  go_enter Try.func41, Try.ntmps41
  go_upto_region 1 with fail
  rw [← hX, ← hbb, ← hab]
  clear hX hbb hab
  go_wp2_with fail
  rename_i K hK
  try rw [show ∀ a : Act, a.put none undef = a from fun _ => rfl]
  refine wp_region_mix (fun wr => Below X.heap.size X wr) (fun i => i == 4 || i == 9 || i == 10 || i == 11 || i == 99) 99 (by kernel_rfl) rfl (by kernel_rfl) (by kernel_rfl) (by kernel_rfl) ?_
  refine withFrP (N := 17) rfl ?_
  intro f0 F0 hff
  have e2 : f0 2 = Value.pointer (some ⟨ab, 0, none⟩) := hff 2
  have e3 : f0 3 = Value.pointer (some ⟨bb, 0, none⟩) := hff 3
  clear hff
  have HC : (fun wr => Below X.heap.size X wr) (({ X with drawn := X.drawn + 1 } : World)) := (Below.drew (Below.refl X.heap.size X))
  have c0 : ∀ wr, Below X.heap.size X wr → wr.cell? ⟨ab, 0, none⟩ = some (.int .i64 a.1) := fun wr h => (Blk.below HA.out h (Blk.lt HA.out)).cell 0
  have c1 : ∀ wr, Below X.heap.size X wr → wr.cell? ⟨ab, 1, none⟩ = some (.int .i64 a.2) := fun wr h => (Blk.below HA.out h (Blk.lt HA.out)).cell 1
  have d0 : ∀ wr, Below X.heap.size X wr → wr.cell? ⟨bb, 0, none⟩ = some (.int .i64 b.1) := fun wr h => (Blk.below HB.out h (Blk.lt HB.out)).cell 0
  have d1 : ∀ wr, Below X.heap.size X wr → wr.cell? ⟨bb, 1, none⟩ = some (.int .i64 b.2) := fun wr h => (Blk.below HB.out h (Blk.lt HB.out)).cell 1
  refine lyp F0 rfl HC rfl (by omega) (wanted_none rfl) (v := Value.pointer (some ⟨ab, 0, none⟩)) (fun wr hwr => by simp only [execOp, (F0.eval 2 (by omega)).trans (show _ = Value.pointer (some ⟨ab, 0, none⟩) from by simp [upd, e2, e3])]; simp [go_sem]) fun F1 => ?_
  refine lyp F1 rfl HC rfl (by omega) (wanted_none rfl) (v := Value.int .i64 a.1) (fun wr hwr => by simp only [execOp, (F1.eval 5 (by omega)).trans (show _ = Value.pointer (some ⟨ab, 0, none⟩) from by simp [upd, e2, e3])]; simp [go_sem, c0 wr hwr]) fun F2 => ?_
  refine lyp F2 rfl HC rfl (by omega) (wanted_none rfl) (v := Value.pointer (some ⟨bb, 0, none⟩)) (fun wr hwr => by simp only [execOp, (F2.eval 3 (by omega)).trans (show _ = Value.pointer (some ⟨bb, 0, none⟩) from by simp [upd, e2, e3])]; simp [go_sem]) fun F3 => ?_
  refine lyp F3 rfl HC rfl (by omega) (wanted_none rfl) (v := Value.int .i64 b.1) (fun wr hwr => by simp only [execOp, (F3.eval 7 (by omega)).trans (show _ = Value.pointer (some ⟨bb, 0, none⟩) from by simp [upd, e2, e3])]; simp [go_sem, d0 wr hwr]) fun F4 => ?_
  refine lcp F4 rfl HC rfl (by omega) (wanted_none rfl) (g := 46) (args := #[Value.int .i64 a.1, Value.int .i64 b.1]) (by simp only [execOp, resolve, invoke, List.map_toArray, List.map_cons, List.map_nil, (F4.eval 6 (by omega)).trans (show _ = Value.int .i64 a.1 from by simp [upd, e2, e3]), (F4.eval 8 (by omega)).trans (show _ = Value.int .i64 b.1 from by simp [upd, e2, e3])]; simp [go_sem, Act.eval]) (compare_any a.1 b.1 _) ?_
  rintro e w1 ⟨rfl, hw1⟩
  subst hw1
  refine ⟨_, rfl, fun F5 => ?_⟩
  refine lyp F5 rfl HC rfl (by omega) (wanted_none rfl) (v := Value.pointer (some ⟨ab, 1, none⟩)) (fun wr hwr => by simp only [execOp, (F5.eval 2 (by omega)).trans (show _ = Value.pointer (some ⟨ab, 0, none⟩) from by simp [upd, e2, e3])]; simp [go_sem]) fun F6 => ?_
  refine lyp F6 rfl HC rfl (by omega) (wanted_none rfl) (v := Value.int .i64 a.2) (fun wr hwr => by simp only [execOp, (F6.eval 10 (by omega)).trans (show _ = Value.pointer (some ⟨ab, 1, none⟩) from by simp [upd, e2, e3])]; simp [go_sem, c1 wr hwr]) fun F7 => ?_
  refine lyp F7 rfl HC rfl (by omega) (wanted_none rfl) (v := Value.pointer (some ⟨bb, 1, none⟩)) (fun wr hwr => by simp only [execOp, (F7.eval 3 (by omega)).trans (show _ = Value.pointer (some ⟨bb, 0, none⟩) from by simp [upd, e2, e3])]; simp [go_sem]) fun F8 => ?_
  refine lyp F8 rfl HC rfl (by omega) (wanted_none rfl) (v := Value.int .i64 b.2) (fun wr hwr => by simp only [execOp, (F8.eval 12 (by omega)).trans (show _ = Value.pointer (some ⟨bb, 1, none⟩) from by simp [upd, e2, e3])]; simp [go_sem, d1 wr hwr]) fun F9 => ?_
  refine lcp F9 rfl HC rfl (by omega) (wanted_none rfl) (g := 46) (args := #[Value.int .i64 a.2, Value.int .i64 b.2]) (by simp only [execOp, resolve, invoke, List.map_toArray, List.map_cons, List.map_nil, (F9.eval 11 (by omega)).trans (show _ = Value.int .i64 a.2 from by simp [upd, e2, e3]), (F9.eval 13 (by omega)).trans (show _ = Value.int .i64 b.2 from by simp [upd, e2, e3])]; simp [go_sem, Act.eval]) (compare_any a.2 b.2 _) ?_
  rintro e w1 ⟨rfl, hw1⟩
  subst hw1
  refine ⟨_, rfl, fun F10 => ?_⟩
  refine lep F10 rfl HC rfl (by omega) (wanted_none rfl) (v := Value.slice (some ⟨(({ X with drawn := X.drawn + 1 } : World)).heap.size, 0, none⟩) 2 2) (w1 := (({ X with drawn := X.drawn + 1 } : World)).alloc (.cells #[.int .i64 (cmpI a.1 b.1), .int .i64 (cmpI a.2 b.2)] 3)) (by simp only [execOp, List.map_toArray, List.map_cons, List.map_nil, (F10.eval 9 (by omega)).trans (show _ = Value.int .i64 (cmpI a.1 b.1) from by simp [upd, e2, e3]), (F10.eval 14 (by omega)).trans (show _ = Value.int .i64 (cmpI a.2 b.2) from by simp [upd, e2, e3])]; simp [go_sem]) fun F11 => ?_
  have HC2 : (fun wr => Below X.heap.size X wr) ((({ X with drawn := X.drawn + 1 } : World)).alloc (.cells #[.int .i64 (cmpI a.1 b.1), .int .i64 (cmpI a.2 b.2)] 3)) := HC.alloc (Nat.le_refl _) _
  have hnew := Blk.cell (show Blk ((({ X with drawn := X.drawn + 1 } : World)).alloc (.cells #[.int .i64 (cmpI a.1 b.1), .int .i64 (cmpI a.2 b.2)] 3)) (({ X with drawn := X.drawn + 1 } : World)).heap.size #[.int .i64 (cmpI a.1 b.1), .int .i64 (cmpI a.2 b.2)] 3 from heap_alloc_new _ _)
  refine lcp F11 rfl HC2 rfl (by omega) (wanted_none rfl) (g := 45) (args := #[Value.slice (some ⟨(({ X with drawn := X.drawn + 1 } : World)).heap.size, 0, none⟩) 2 2]) (by simp only [execOp, resolve, invoke, List.map_toArray, List.map_cons, List.map_nil, (F11.eval 15 (by omega)).trans (show _ = Value.slice (some ⟨(({ X with drawn := X.drawn + 1 } : World)).heap.size, 0, none⟩) 2 2 from by simp [upd, e2, e3])]; simp [go_sem, Act.eval]) (or_any (cmpI a.1 b.1) (cmpI a.2 b.2) (({ X with drawn := X.drawn + 1 } : World)).heap.size 2 ((({ X with drawn := X.drawn + 1 } : World)).alloc (.cells #[.int .i64 (cmpI a.1 b.1), .int .i64 (cmpI a.2 b.2)] 3)) (hnew 0) (hnew 1)) ?_
  rintro e w1 ⟨rfl, hw1⟩
  subst hw1
  refine ⟨_, rfl, fun F12 => ?_⟩
  refine lyp F12 rfl HC2 rfl (by omega) (wanted_none rfl) (v := Value.int .i64 (orI (cmpI a.1 b.1) (cmpI a.2 b.2))) (fun wr hwr => by simp only [execOp, (F12.eval 16 (by omega)).trans (show _ = Value.int .i64 (orI (cmpI a.1 b.1) (cmpI a.2 b.2)) from by simp [upd, e2, e3])]; first | rfl | simp [go_sem]) fun F13 => ?_
  refine ⟨fun _ => HC2, ?_⟩
  refine hK _ _ ?_
  clear F0 F1 F2 F3 F4 F5 F6 F7 F8 F9 F10 F11 F12 F13 e2 e3 HC HC2 c0 c1 d0 d1 hnew
  simp only [Act.put, List.setIfInBounds_toArray, List.set_cons_succ, List.set_cons_zero]

  go_wp2_with fail
  go_ret
  refine ⟨rfl, 1, (#[.cells #[.int .i64 a.1, .int .i64 a.2] 32] ++ #[.cells #[.int .i64 b.1, .int .i64 b.2] 32]) ++ #[.cells #[.int .i64 (cmpI a.1 b.1), .int .i64 (cmpI a.2 b.2)] 3], ?_⟩
  rw [Sort.alloc_eq_grow, ← Sort.grow_grow]
  congr 1
  rw [HXG.out]
  rfl
def ltC (a b : Int × Int) : Bool := decide (a.1 < b.1) || (decide (a.1 = b.1) && decide (a.2 < b.2))
theorem cmpC_lt (a b : Int × Int) : decide (cmpC a b < 0) = ltC a b := by
  unfold cmpC ltC orI cmpI
  by_cases h1 : a.1 < b.1
  · simp [h1]
  · by_cases h2 : a.1 > b.1
    · have h3 : ¬ a.1 = b.1 := by omega
      simp [h1, h2, h3]
    · have h3 : a.1 = b.1 := by omega
      by_cases h4 : a.2 < b.2
      · simp [h1, h2, h3, h4]
      · by_cases h5 : a.2 > b.2 <;> simp [h1, h2, h3, h4, h5]
theorem ltCC (x y : Int × Int) : ltOf cmpC x y = ltC x y := cmpC_lt x y
theorem ltC_iff {a b : Int × Int} : ltC a b = true ↔ a.1 < b.1 ∨ (a.1 = b.1 ∧ a.2 < b.2) := by simp [ltC]
theorem ltC_no {a b : Int × Int} : ltC a b = false ↔ ¬ (a.1 < b.1 ∨ (a.1 = b.1 ∧ a.2 < b.2)) := by
  rw [← ltC_iff]
  simp
theorem swoC : SWO (ltOf cmpC) where
  irrefl x := by rw [ltCC, ltC_no]; omega
  trans x y z h1 h2 := by rw [ltCC, ltC_iff] at *; omega
  ntrans x y z h1 h2 := by rw [ltCC, ltC_no] at *; omega
theorem flatC_length : ∀ es : List (Int × Int), (flatC es).length = es.length * 2
  | [] => rfl
  | e :: t => by
    have := flatC_length t
    simp only [flatC, List.flatMap_cons, List.length_append, List.length_cons] at this ⊢
    rw [this]
    simp
    omega
theorem flatC_get : ∀ (es : List (Int × Int)) (i j : Nat) (e : Int × Int), es[i]? = some e → j < 2 → (flatC es)[i * 2 + j]? = (Ccs e)[j]?
  | [], _, _, _, h, _ => by simp at h
  | x :: t, 0, j, e, h, hj => by
    simp at h
    subst h
    simp only [flatC, List.flatMap_cons, Nat.zero_mul, Nat.zero_add]
    exact List.getElem?_append_left (by simp; omega)
  | x :: t, i + 1, j, e, h, hj => by
    have ih := flatC_get t i j e (by simpa using h) hj
    simp only [flatC, List.flatMap_cons] at ih ⊢
    rw [List.getElem?_append_right (by simp; omega)]
    rw [← ih]
    congr 1
    simp
    omega
theorem flatK_is (es : List (Int × Int)) : (flatK Ccs 2 es.toArray).toList = flatC es := by
  apply List.ext_getElem?
  intro t
  by_cases ht : t < es.length * 2
  · have h1 : t / 2 < es.length := by omega
    have he : es[t / 2]? = some es[t / 2] := List.getElem?_eq_getElem h1
    have := flatC_get es (t / 2) (t % 2) _ he (by omega)
    rw [show t / 2 * 2 + t % 2 = t by omega] at this
    rw [this]
    simp only [flatK, Array.toList_map, List.getElem?_map, Array.toList_range, List.size_toArray]
    rw [List.getElem?_range ht]
    simp only [Option.map_some]
    rw [show es.toArray[t / 2]! = es[t / 2] from by simp [h1]]
    rw [List.getElem?_eq_getElem (by simp [Ccs]; omega)]
    rw [getElem!_pos _ _ (by simp [Ccs]; omega)]
  · rw [List.getElem?_eq_none (by simp; omega), List.getElem?_eq_none (by rw [flatC_length]; omega)]
set_option maxHeartbeats 1600000 in
/-- Calls are sorted. -/
theorem sortC_any {w : World} {L n g cap : Nat} {es : List (Int × Int)} (hl : es.length = n) (hn : n ≤ 100000) (hown : w.ownsRow L 32 2 (.slice (some ⟨g, 0, none⟩) n cap) n (flatC es)) :
    Calls Try.prog 43 #[.slice (some ⟨g, 0, none⟩) n cap, .func (.func 41) #[] #[]] w fun e w' => e = .returned (.tuple #[]) ∧ ∃ ds : List (Int × Int), ds.Perm es ∧ ds.Pairwise (fun a b => ltC b a = false) ∧ w'.ownsRow L 32 2 (.slice (some ⟨g, 0, none⟩) n cap) n (flatC ds) ∧ Chg (fun k => k = g) w w' := by
  have eg : ∀ args w, (callFunc 41 args).run Try.prog w = .ok (.enter 41 args) w := enters_of Try.func41 (by kernel_rfl) rfl
  rcases hown.2 with ⟨h1, _⟩ | ⟨g2, c, cur, h1, h2, h3, h4, h5, h6, h7⟩
  · cases h1
  cases h1
  have hgs : g < w.heap.size := (Array.getElem?_eq_some_iff.1 h3).1
  have hH : HoldsK Ccs 2 w g 0 es.toArray := by
    intro j hj
    have hj' : j < es.length * 2 := by simpa using hj
    refine ⟨?_, by simp [World.frozen?, h3]⟩
    have hjl : j < (flatC es).length := by rw [flatC_length]; exact hj'
    have hx : (flatC es)[j]? = some ((flatC es)[j]'hjl) := List.getElem?_eq_getElem hjl
    have := hown.cells (g := g) rfl j _ hx
    rw [addr_add] at this
    rw [this]
    have e2 : (flatK Ccs 2 es.toArray)[j]! = (flatC es)[j]'hjl := by
      rw [getElem!_pos (flatK Ccs 2 es.toArray) j hj]
      have := congrArg (fun l : List Value => l[j]?) (flatK_is es)
      simp only [Array.getElem?_toList] at this
      rw [Array.getElem?_eq_getElem hj, hx] at this
      exact Option.some.inj this
    rw [e2]
    rfl
  have hS := AnyQ.slices_SortFunc sortC 2 Try.isAgg32 Try.sizeOf32 Ccs (fun _ => rfl) (fun x v hv => by simp [Ccs] at hv; rcases hv with rfl | rfl <;> rfl) cmpC swoC 41 #[] g 0 cap es.toArray w eg (fun _ _ _ _ x y => closure_any x y _) hH hgs (by simp; omega)
  have hsz : es.toArray.size = n := by simpa using hl
  rw [hsz] at hS
  change Calls Try.prog 43 _ _ _ at hS
  refine hS.mono ?_
  rintro e w' ⟨rfl, d', q, os, ⟨hp1, _, hp2⟩, hs, rfl⟩
  have hd : d'.toList.Perm es := by
    have e1 : d'.extract 0 n = d' := by rw [← hsz, ← hp1]; simp
    have e2 : es.toArray.extract 0 n = es.toArray := by rw [← hsz]; simp
    rw [e1, e2] at hp2
    exact hp2
  have hdl : d'.toList.length = n := by rw [hd.length_eq, hl]
  refine ⟨rfl, d'.toList, hd, ?_, ?_, ?_⟩
  · rw [List.pairwise_iff_getElem]
    intro i j hi hj hij
    have := hs i j (Nat.zero_le _) hij (by omega)
    rw [ltCC] at this
    have gi : d'[i]! = d'.toList[i] := by rw [getElem!_pos _ _ (by simpa using hi)]; simp
    have gj : d'[j]! = d'.toList[j] := by rw [getElem!_pos _ _ (by simpa using hj)]; simp
    rw [gi, gj] at this
    exact this
  · have hfl : (flatK Ccs 2 d').toList = flatC d'.toList := by
      have := flatK_is d'.toList
      simpa using this
    have hfs : (flatK Ccs 2 d').size = n * 2 := by rw [size_flatK, hp1, hsz]
    refine ⟨by rw [flatC_length, hdl], .inr ⟨g, cap, putCells id 0 (flatK Ccs 2 d') cur, rfl, h2, ?_, h4, h5, by simp [putCells, h6], ?_⟩⟩
    · show (grow (putRow id (Sort.ahead w q) g 0 (flatK Ccs 2 d')) os).heap[g]? = _
      rw [heap_grow_old _ _ (by simpa [putRow, mapBlock, Sort.ahead] using hgs)]
      simp [putRow, mapBlock, Sort.ahead, Array.getElem?_modify, h3, onCells]
    · rw [← hfl]
      apply List.ext_getElem?
      intro j
      by_cases hj : j < n * 2
      · have hjc : j < cur.size := by rw [h6]; have := Nat.mul_le_mul_right 2 h4; omega
        rw [List.getElem?_take_of_lt hj, Array.getElem?_toList, Array.getElem?_toList]
        simp [putCells, hfs, hj, hjc]
      · rw [List.getElem?_take_eq_none (by omega), List.getElem?_eq_none (by simp [hfs]; omega)]
  · refine ⟨rfl, rfl, rfl, by simp [sortWorldK, putRowK, putRow, mapBlock, Sort.ahead, grow], fun k hk hne => ?_⟩
    show (grow (putRow id (Sort.ahead w q) g 0 (flatK Ccs 2 d')) os).heap[k]? = _
    rw [heap_grow_old _ _ (by simpa [putRow, mapBlock, Sort.ahead] using hk)]
    have : g ≠ k := fun e => hne e.symm
    simp [putRow, mapBlock, Sort.ahead, Array.getElem?_modify, this]
theorem sortC_none (p : Option Addr) (cap : Nat) (w : World) : Calls Try.prog 43 #[.slice p 0 cap, .func (.func 41) #[] #[]] w fun e w' => e = .returned (.tuple #[]) ∧ w' = w := AnyF.slices_SortFunc_none sortC p cap _ w
end Go.Proofs.Ytadfmnlkfcigoaa
namespace Go.Proofs.Ytadfmnlkfcigoaa
open Go.RowKit Go.PlainAid Go.Sort
set_option linter.unusedVariables false
set_option linter.unusedSimpArgs false
set_option maxRecDepth 100000 in
set_option maxHeartbeats 1600000 in
theorem sortedC_any (Bm mb : Nat) (L : List ((Int × Int) × Unit)) (w : World) (hc : w.cell? ⟨Bm, 0, none⟩ = some (.map (some mb))) (hM : HMap MP w mb L) (hL : L.length ≤ 100000) :
    Calls Try.prog 39 #[.func (.func 44) #[] #[.pointer (some ⟨Bm, 0, none⟩)], .func (.func 41) #[] #[]] w fun e W' => ∃ v ys, e = .returned v ∧ ys.Perm (L.map (·.1)) ∧ ys.Pairwise (fun a b => ltC b a = false) ∧ W'.ownsRow w.heap.size 32 2 v ys.length (flatC ys) ∧ Below w.heap.size w W' := by
  have HA : Hid _ := colC_any Bm mb L w hc hM hL
  clear hc hM
  go_enter Try.func39, Try.ntmps39
  go_wp2_with fail
  refine Calls.mono HA.out ?_
  rintro e w2 ⟨v, ys, rfl, hp, hr, hb⟩
  have hlen : ys.length ≤ 100000 := by rw [hp.length_eq, List.length_map]; exact hL
  have HB : Hid _ := hb
  clear HA hb
  rcases hr.2 with ⟨hv, h0⟩ | ⟨g, cap, cur, hv, hg, _⟩
  · subst hv
    have h0' : ys = [] := List.length_eq_zero_iff.1 h0
    subst h0'
    have HS : Hid _ := sortC_none none 0 w2
    have HP : Hid (List.Perm [] (L.map (·.1))) := hp
    clear hr hp h0 hlen
    go_wp2_with fail
    refine Calls.mono HS.out ?_
    rintro e w3 ⟨rfl, hw3⟩
    replace hw3 := hw3.symm
    subst hw3
    go_wp2_with fail
    go_ret
    exact ⟨_, [], rfl, HP.out, List.Pairwise.nil, World.ownsRow_nil _ _ _ _, HB.out⟩
  · subst hv
    have HS : Hid _ := sortC_any (L := w.heap.size) rfl hlen hr
    have HP : Hid (ys.Perm (L.map (·.1))) := hp
    have HG : Hid (w.heap.size ≤ g) := hg
    clear hr hp hlen hg
    go_wp2_with fail
    refine Calls.mono HS.out ?_
    rintro e w3 ⟨rfl, ds, hd1, hd2, hd3, hd4⟩
    have HD1 : Hid (ds.Perm ys) := hd1
    have HD2 : Hid (ds.Pairwise fun a b => ltC b a = false) := hd2
    have HD3 : Hid (World.ownsRow w3 w.heap.size 32 2 (.slice (some ⟨g, 0, none⟩) ys.length cap) ys.length (flatC ds)) := hd3
    have HD4 : Hid (Below w.heap.size w w3) := HB.out.trans (hd4.below HB.out.size (fun k e => by rw [e]; exact HG.out))
    clear hd1 hd2 hd3 hd4 HS
    go_wp2_with fail
    go_ret
    exact ⟨_, ds, rfl, HD1.out.trans HP.out, HD2.out, by rw [HD1.out.length_eq]; exact HD3.out, HD4.out⟩
end Go.Proofs.Ytadfmnlkfcigoaa
