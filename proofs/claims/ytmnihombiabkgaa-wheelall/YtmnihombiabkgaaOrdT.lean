import Derived.Test.YtmnihombiabkgaaLs
namespace Go.Proofs.Ytmnihombiabkgaa
open Go.RowKit Go.PlainAid Go.Sort
set_option linter.unusedVariables false
set_option linter.unusedSimpArgs false
instance : Inhabited Tm := ⟨⟨0, 0, 0, 0⟩⟩
def orI (x y : Int) : Int := if x ≠ 0 then x else y
set_option maxRecDepth 100000 in
set_option maxHeartbeats 800000 in
theorem or_any (x y : Int) (g c : Nat) (w : World) (e1 : w.cell? ⟨g, 0, none⟩ = some (.int .i64 x)) (e2 : w.cell? ⟨g, 1, none⟩ = some (.int .i64 y)) :
    Calls Try.prog 37 #[.slice (some ⟨g, 0, none⟩) 2 c] w fun r w' => r = .returned (.int .i64 (orI x y)) ∧ w' = w := by
  by_cases h1 : x = 0
  · subst h1
    by_cases h2 : y = 0
    · subst h2
      go_enter Try.func37, Try.ntmps37
      go_wp2
      refine wp_loop_rounds 3 ?_
      rw [rounds_succ]
      go_wp2
      rw [rounds_succ]
      go_wp2
      rw [rounds_succ]
      go_wp2
      go_ret
      exact ⟨rfl, rfl⟩
    · have e : orI 0 y = y := by simp [orI]
      rw [e]
      go_enter Try.func37, Try.ntmps37
      go_wp2
      refine wp_loop_rounds 2 ?_
      rw [rounds_succ]
      go_wp2
      rw [rounds_succ]
      go_wp2
      go_ret
      exact ⟨rfl, rfl⟩
  · have e : orI x y = x := by simp [orI, h1]
    rw [e]
    go_enter Try.func37, Try.ntmps37
    go_wp2
    refine wp_loop_rounds 1 ?_
    rw [rounds_succ]
    go_wp2
    go_ret
    exact ⟨rfl, rfl⟩
def cmpC (a b : Tm) : Int := orI (cmpI a.due b.due) (cmpI a.num b.num)
set_option maxRecDepth 100000 in
set_option maxHeartbeats 1600000 in
theorem closure_any (a b : Tm) (W : World) : Calls Try.prog 26 #[.agg a.row.toArray, .agg b.row.toArray] W fun e w' => e = .returned (.int .i64 (cmpC a b)) ∧ ∃ q os', w' = Sort.grow (W.drewN q) os' := by
  unfold Tm.row cmpC
  obtain ⟨X, hX⟩ : ∃ X, X = (W.alloc (.cells #[.int .i64 a.due, .int .i64 a.num, .int .i64 a.kind, .int .i64 a.id] 50)).alloc (.cells #[.int .i64 b.due, .int .i64 b.num, .int .i64 b.kind, .int .i64 b.id] 50) := ⟨_, rfl⟩
  have hA : Blk X W.heap.size #[.int .i64 a.due, .int .i64 a.num, .int .i64 a.kind, .int .i64 a.id] 50 := by
    rw [hX]
    exact Blk.below (heap_alloc_new W _) ((Below.refl _ _).alloc (Nat.le_refl _) _) (by simp)
  have hB : Blk X (W.heap.size + 1) #[.int .i64 b.due, .int .i64 b.num, .int .i64 b.kind, .int .i64 b.id] 50 := by
    rw [hX]
    have := heap_alloc_new (W.alloc (.cells #[.int .i64 a.due, .int .i64 a.num, .int .i64 a.kind, .int .i64 a.id] 50)) (.cells #[.int .i64 b.due, .int .i64 b.num, .int .i64 b.kind, .int .i64 b.id] 50)
    rw [World.size_alloc] at this
    exact this
  have HXG : Hid (X = Sort.grow (W.drewN 0) (#[.cells #[.int .i64 a.due, .int .i64 a.num, .int .i64 a.kind, .int .i64 a.id] 50] ++ #[.cells #[.int .i64 b.due, .int .i64 b.num, .int .i64 b.kind, .int .i64 b.id] 50])) := show X = Sort.grow (W.drewN 0) (#[.cells #[.int .i64 a.due, .int .i64 a.num, .int .i64 a.kind, .int .i64 a.id] 50] ++ #[.cells #[.int .i64 b.due, .int .i64 b.num, .int .i64 b.kind, .int .i64 b.id] 50]) from by rw [hX, Sort.alloc_eq_grow, Sort.alloc_eq_grow, Sort.grow_grow]; rfl
  obtain ⟨ab, hab⟩ : ∃ ab, ab = W.heap.size := ⟨_, rfl⟩
  obtain ⟨bb, hbb⟩ : ∃ bb, bb = W.heap.size + 1 := ⟨_, rfl⟩
  have HA : Hid (Blk X ab #[.int .i64 a.due, .int .i64 a.num, .int .i64 a.kind, .int .i64 a.id] 50) := show Blk X ab #[.int .i64 a.due, .int .i64 a.num, .int .i64 a.kind, .int .i64 a.id] 50 from by rw [hab]; exact hA
  have HB : Hid (Blk X bb #[.int .i64 b.due, .int .i64 b.num, .int .i64 b.kind, .int .i64 b.id] 50) := show Blk X bb #[.int .i64 b.due, .int .i64 b.num, .int .i64 b.kind, .int .i64 b.id] 50 from by rw [hbb]; exact hB
  clear hA hB
  go_enter Try.func26, Try.ntmps26
  go_upto_region 1 with fail
  rw [← hX, ← hbb, ← hab]
  clear hX hbb hab
  go_wp2_with fail
  rename_i K hK
  try rw [show ∀ a : Act, a.put none undef = a from fun _ => rfl]
  refine wp_region_mix (fun wr => Below X.heap.size X wr) (fun i => i == 4 || i == 9 || i == 10 || i == 11 || i == 99) 99 (by kernel_rfl) rfl (by kernel_rfl) (by kernel_rfl) (by kernel_rfl) ?_
  refine withFrP (N := 17) rfl ?_
  intro f0 F0 hff
  have e2 : f0 2 = Value.pointer (some ⟨ab, 0, none⟩) := hff 2
  have e3 : f0 3 = Value.pointer (some ⟨bb, 0, none⟩) := hff 3
  clear hff
  have HC : (fun wr => Below X.heap.size X wr) (({ X with drawn := X.drawn + 1 } : World)) := (Below.drew (Below.refl X.heap.size X))
  have c0 : ∀ wr, Below X.heap.size X wr → wr.cell? ⟨ab, 0, none⟩ = some (.int .i64 a.due) := fun wr h => (Blk.below HA.out h (Blk.lt HA.out)).cell 0
  have c1 : ∀ wr, Below X.heap.size X wr → wr.cell? ⟨ab, 1, none⟩ = some (.int .i64 a.num) := fun wr h => (Blk.below HA.out h (Blk.lt HA.out)).cell 1
  have d0 : ∀ wr, Below X.heap.size X wr → wr.cell? ⟨bb, 0, none⟩ = some (.int .i64 b.due) := fun wr h => (Blk.below HB.out h (Blk.lt HB.out)).cell 0
  have d1 : ∀ wr, Below X.heap.size X wr → wr.cell? ⟨bb, 1, none⟩ = some (.int .i64 b.num) := fun wr h => (Blk.below HB.out h (Blk.lt HB.out)).cell 1
  refine lyp F0 rfl HC rfl (by omega) (wanted_none rfl) (v := Value.pointer (some ⟨ab, 0, none⟩)) (fun wr hwr => by simp only [execOp, (F0.eval 2 (by omega)).trans (show _ = Value.pointer (some ⟨ab, 0, none⟩) from by simp [upd, e2, e3])]; simp [go_sem]) fun F1 => ?_
  refine lyp F1 rfl HC rfl (by omega) (wanted_none rfl) (v := Value.int .i64 a.due) (fun wr hwr => by simp only [execOp, (F1.eval 5 (by omega)).trans (show _ = Value.pointer (some ⟨ab, 0, none⟩) from by simp [upd, e2, e3])]; simp [go_sem, c0 wr hwr]) fun F2 => ?_
  refine lyp F2 rfl HC rfl (by omega) (wanted_none rfl) (v := Value.pointer (some ⟨bb, 0, none⟩)) (fun wr hwr => by simp only [execOp, (F2.eval 3 (by omega)).trans (show _ = Value.pointer (some ⟨bb, 0, none⟩) from by simp [upd, e2, e3])]; simp [go_sem]) fun F3 => ?_
  refine lyp F3 rfl HC rfl (by omega) (wanted_none rfl) (v := Value.int .i64 b.due) (fun wr hwr => by simp only [execOp, (F3.eval 7 (by omega)).trans (show _ = Value.pointer (some ⟨bb, 0, none⟩) from by simp [upd, e2, e3])]; simp [go_sem, d0 wr hwr]) fun F4 => ?_
  refine lcp F4 rfl HC rfl (by omega) (wanted_none rfl) (g := 33) (args := #[Value.int .i64 a.due, Value.int .i64 b.due]) (by simp only [execOp, resolve, invoke, List.map_toArray, List.map_cons, List.map_nil, (F4.eval 6 (by omega)).trans (show _ = Value.int .i64 a.due from by simp [upd, e2, e3]), (F4.eval 8 (by omega)).trans (show _ = Value.int .i64 b.due from by simp [upd, e2, e3])]; simp [go_sem, Act.eval]) (compare_any a.due b.due _) ?_
  rintro e w1 ⟨rfl, hw1⟩
  subst hw1
  refine ⟨_, rfl, fun F5 => ?_⟩
  refine lyp F5 rfl HC rfl (by omega) (wanted_none rfl) (v := Value.pointer (some ⟨ab, 1, none⟩)) (fun wr hwr => by simp only [execOp, (F5.eval 2 (by omega)).trans (show _ = Value.pointer (some ⟨ab, 0, none⟩) from by simp [upd, e2, e3])]; simp [go_sem]) fun F6 => ?_
  refine lyp F6 rfl HC rfl (by omega) (wanted_none rfl) (v := Value.int .i64 a.num) (fun wr hwr => by simp only [execOp, (F6.eval 10 (by omega)).trans (show _ = Value.pointer (some ⟨ab, 1, none⟩) from by simp [upd, e2, e3])]; simp [go_sem, c1 wr hwr]) fun F7 => ?_
  refine lyp F7 rfl HC rfl (by omega) (wanted_none rfl) (v := Value.pointer (some ⟨bb, 1, none⟩)) (fun wr hwr => by simp only [execOp, (F7.eval 3 (by omega)).trans (show _ = Value.pointer (some ⟨bb, 0, none⟩) from by simp [upd, e2, e3])]; simp [go_sem]) fun F8 => ?_
  refine lyp F8 rfl HC rfl (by omega) (wanted_none rfl) (v := Value.int .i64 b.num) (fun wr hwr => by simp only [execOp, (F8.eval 12 (by omega)).trans (show _ = Value.pointer (some ⟨bb, 1, none⟩) from by simp [upd, e2, e3])]; simp [go_sem, d1 wr hwr]) fun F9 => ?_
  refine lcp F9 rfl HC rfl (by omega) (wanted_none rfl) (g := 33) (args := #[Value.int .i64 a.num, Value.int .i64 b.num]) (by simp only [execOp, resolve, invoke, List.map_toArray, List.map_cons, List.map_nil, (F9.eval 11 (by omega)).trans (show _ = Value.int .i64 a.num from by simp [upd, e2, e3]), (F9.eval 13 (by omega)).trans (show _ = Value.int .i64 b.num from by simp [upd, e2, e3])]; simp [go_sem, Act.eval]) (compare_any a.num b.num _) ?_
  rintro e w1 ⟨rfl, hw1⟩
  subst hw1
  refine ⟨_, rfl, fun F10 => ?_⟩
  refine lep F10 rfl HC rfl (by omega) (wanted_none rfl) (v := Value.slice (some ⟨(({ X with drawn := X.drawn + 1 } : World)).heap.size, 0, none⟩) 2 2) (w1 := (({ X with drawn := X.drawn + 1 } : World)).alloc (.cells #[.int .i64 (cmpI a.due b.due), .int .i64 (cmpI a.num b.num)] 3)) (by simp only [execOp, List.map_toArray, List.map_cons, List.map_nil, (F10.eval 9 (by omega)).trans (show _ = Value.int .i64 (cmpI a.due b.due) from by simp [upd, e2, e3]), (F10.eval 14 (by omega)).trans (show _ = Value.int .i64 (cmpI a.num b.num) from by simp [upd, e2, e3])]; simp [go_sem]) fun F11 => ?_
  have HC2 : (fun wr => Below X.heap.size X wr) ((({ X with drawn := X.drawn + 1 } : World)).alloc (.cells #[.int .i64 (cmpI a.due b.due), .int .i64 (cmpI a.num b.num)] 3)) := HC.alloc (Nat.le_refl _) _
  have hnew := Blk.cell (show Blk ((({ X with drawn := X.drawn + 1 } : World)).alloc (.cells #[.int .i64 (cmpI a.due b.due), .int .i64 (cmpI a.num b.num)] 3)) (({ X with drawn := X.drawn + 1 } : World)).heap.size #[.int .i64 (cmpI a.due b.due), .int .i64 (cmpI a.num b.num)] 3 from heap_alloc_new _ _)
  refine lcp F11 rfl HC2 rfl (by omega) (wanted_none rfl) (g := 37) (args := #[Value.slice (some ⟨(({ X with drawn := X.drawn + 1 } : World)).heap.size, 0, none⟩) 2 2]) (by simp only [execOp, resolve, invoke, List.map_toArray, List.map_cons, List.map_nil, (F11.eval 15 (by omega)).trans (show _ = Value.slice (some ⟨(({ X with drawn := X.drawn + 1 } : World)).heap.size, 0, none⟩) 2 2 from by simp [upd, e2, e3])]; simp [go_sem, Act.eval]) (or_any (cmpI a.due b.due) (cmpI a.num b.num) (({ X with drawn := X.drawn + 1 } : World)).heap.size 2 ((({ X with drawn := X.drawn + 1 } : World)).alloc (.cells #[.int .i64 (cmpI a.due b.due), .int .i64 (cmpI a.num b.num)] 3)) (hnew 0) (hnew 1)) ?_
  rintro e w1 ⟨rfl, hw1⟩
  subst hw1
  refine ⟨_, rfl, fun F12 => ?_⟩
  refine lyp F12 rfl HC2 rfl (by omega) (wanted_none rfl) (v := Value.int .i64 (orI (cmpI a.due b.due) (cmpI a.num b.num))) (fun wr hwr => by simp only [execOp, (F12.eval 16 (by omega)).trans (show _ = Value.int .i64 (orI (cmpI a.due b.due) (cmpI a.num b.num)) from by simp [upd, e2, e3])]; first | rfl | simp [go_sem]) fun F13 => ?_
  refine ⟨fun _ => HC2, ?_⟩
  refine hK _ _ ?_
  clear F0 F1 F2 F3 F4 F5 F6 F7 F8 F9 F10 F11 F12 F13 e2 e3 HC HC2 c0 c1 d0 d1 hnew
  simp only [Act.put, List.setIfInBounds_toArray, List.set_cons_succ, List.set_cons_zero]

  go_wp2_with fail
  go_ret
  refine ⟨rfl, 1, (#[.cells #[.int .i64 a.due, .int .i64 a.num, .int .i64 a.kind, .int .i64 a.id] 50] ++ #[.cells #[.int .i64 b.due, .int .i64 b.num, .int .i64 b.kind, .int .i64 b.id] 50]) ++ #[.cells #[.int .i64 (cmpI a.due b.due), .int .i64 (cmpI a.num b.num)] 3], ?_⟩
  rw [Sort.alloc_eq_grow, ← Sort.grow_grow]
  congr 1
  rw [HXG.out]
  rfl
def ltC (a b : Tm) : Bool := decide (a.due < b.due) || (decide (a.due = b.due) && decide (a.num < b.num))
theorem cmpC_lt (a b : Tm) : decide (cmpC a b < 0) = ltC a b := by
  unfold cmpC ltC orI cmpI
  by_cases h1 : a.due < b.due
  · simp [h1]
  · by_cases h2 : a.due > b.due
    · have h3 : ¬ a.due = b.due := by omega
      simp [h1, h2, h3]
    · have h3 : a.due = b.due := by omega
      by_cases h4 : a.num < b.num
      · simp [h1, h2, h3, h4]
      · by_cases h5 : a.num > b.num <;> simp [h1, h2, h3, h4, h5]
theorem ltCC (x y : Tm) : ltOf cmpC x y = ltC x y := cmpC_lt x y
theorem ltC_iff {a b : Tm} : ltC a b = true ↔ a.due < b.due ∨ (a.due = b.due ∧ a.num < b.num) := by simp [ltC]
theorem ltC_no {a b : Tm} : ltC a b = false ↔ ¬ (a.due < b.due ∨ (a.due = b.due ∧ a.num < b.num)) := by
  rw [← ltC_iff]
  simp
theorem swoC : SWO (ltOf cmpC) where
  irrefl x := by rw [ltCC, ltC_no]; omega
  trans x y z h1 h2 := by rw [ltCC, ltC_iff] at *; omega
  ntrans x y z h1 h2 := by rw [ltCC, ltC_no] at *; omega
theorem flatT_get (es : List Tm) (i j : Nat) (e : Tm) (h : es[i]? = some e) (hj : j < 4) : (flatT es)[i * 4 + j]? = (Tm.row e)[j]? := flat_at Tm.row 4 (fun _ => rfl) es i j e h hj
theorem flatK_is (es : List (Tm)) : (flatK Tm.row 4 es.toArray).toList = flatT es := by
  apply List.ext_getElem?
  intro t
  by_cases ht : t < es.length * 4
  · have h1 : t / 4 < es.length := by omega
    have he : es[t / 4]? = some es[t / 4] := List.getElem?_eq_getElem h1
    have := flatT_get es (t / 4) (t % 4) _ he (by omega)
    rw [show t / 4 * 4 + t % 4 = t by omega] at this
    rw [this]
    simp only [flatK, Array.toList_map, List.getElem?_map, Array.toList_range, List.size_toArray]
    rw [List.getElem?_range ht]
    simp only [Option.map_some]
    rw [show es.toArray[t / 4]! = es[t / 4] from by simp [h1]]
    rw [List.getElem?_eq_getElem (by simp [Tm.row]; omega)]
    rw [getElem!_pos _ _ (by simp [Tm.row]; omega)]
  · rw [List.getElem?_eq_none (by simp; omega), List.getElem?_eq_none (by rw [flatT_len]; omega)]
set_option maxHeartbeats 1600000 in
/-- Timers are sorted. -/
theorem sortC_any {w : World} {L n g cap : Nat} {es : List (Tm)} (hl : es.length = n) (hn : n ≤ 100000) (hown : w.ownsRow L 50 4 (.slice (some ⟨g, 0, none⟩) n cap) n (flatT es)) :
    Calls Try.prog 25 #[.slice (some ⟨g, 0, none⟩) n cap, .func (.func 26) #[] #[]] w fun e w' => e = .returned (.tuple #[]) ∧ ∃ ds : List (Tm), ds.Perm es ∧ ds.Pairwise (fun a b => ltC b a = false) ∧ w'.ownsRow L 50 4 (.slice (some ⟨g, 0, none⟩) n cap) n (flatT ds) ∧ Chg (fun k => k = g) w w' := by
  have eg : ∀ args w, (callFunc 26 args).run Try.prog w = .ok (.enter 26 args) w := enters_of Try.func26 (by kernel_rfl) rfl
  rcases hown.2 with ⟨h1, _⟩ | ⟨g2, c, cur, h1, h2, h3, h4, h5, h6, h7⟩
  · cases h1
  cases h1
  have hgs : g < w.heap.size := (Array.getElem?_eq_some_iff.1 h3).1
  have hH : HoldsK Tm.row 4 w g 0 es.toArray := by
    intro j hj
    have hj' : j < es.length * 4 := by simpa using hj
    refine ⟨?_, by simp [World.frozen?, h3]⟩
    have hjl : j < (flatT es).length := by rw [flatT_len]; exact hj'
    have hx : (flatT es)[j]? = some ((flatT es)[j]'hjl) := List.getElem?_eq_getElem hjl
    have := hown.cells (g := g) rfl j _ hx
    rw [addr_add] at this
    rw [this]
    have e2 : (flatK Tm.row 4 es.toArray)[j]! = (flatT es)[j]'hjl := by
      rw [getElem!_pos (flatK Tm.row 4 es.toArray) j hj]
      have := congrArg (fun l : List Value => l[j]?) (flatK_is es)
      simp only [Array.getElem?_toList] at this
      rw [Array.getElem?_eq_getElem hj, hx] at this
      exact Option.some.inj this
    rw [e2]
    rfl
  have hS := AnyQ.slices_SortFunc sortC 4 Try.isAgg50 Try.sizeOf50 Tm.row (fun _ => rfl) (fun x v hv => by simp [Tm.row] at hv; rcases hv with rfl | rfl | rfl | rfl <;> rfl) cmpC swoC 26 #[] g 0 cap es.toArray w eg (fun _ _ _ _ x y => closure_any x y _) hH hgs (by simp; omega)
  have hsz : es.toArray.size = n := by simpa using hl
  rw [hsz] at hS
  change Calls Try.prog 25 _ _ _ at hS
  refine hS.mono ?_
  rintro e w' ⟨rfl, d', q, os, ⟨hp1, _, hp2⟩, hs, rfl⟩
  have hd : d'.toList.Perm es := by
    have e1 : d'.extract 0 n = d' := by rw [← hsz, ← hp1]; simp
    have e2 : es.toArray.extract 0 n = es.toArray := by rw [← hsz]; simp
    rw [e1, e2] at hp2
    exact hp2
  have hdl : d'.toList.length = n := by rw [hd.length_eq, hl]
  refine ⟨rfl, d'.toList, hd, ?_, ?_, ?_⟩
  · rw [List.pairwise_iff_getElem]
    intro i j hi hj hij
    have := hs i j (Nat.zero_le _) hij (by omega)
    rw [ltCC] at this
    have gi : d'[i]! = d'.toList[i] := by rw [getElem!_pos _ _ (by simpa using hi)]; simp
    have gj : d'[j]! = d'.toList[j] := by rw [getElem!_pos _ _ (by simpa using hj)]; simp
    rw [gi, gj] at this
    exact this
  · have hfl : (flatK Tm.row 4 d').toList = flatT d'.toList := by
      have := flatK_is d'.toList
      simpa using this
    have hfs : (flatK Tm.row 4 d').size = n * 4 := by rw [size_flatK, hp1, hsz]
    refine ⟨by rw [flatT_len, hdl], .inr ⟨g, cap, putCells id 0 (flatK Tm.row 4 d') cur, rfl, h2, ?_, h4, h5, by simp [putCells, h6], ?_⟩⟩
    · show (grow (putRow id (Sort.ahead w q) g 0 (flatK Tm.row 4 d')) os).heap[g]? = _
      rw [heap_grow_old _ _ (by simpa [putRow, mapBlock, Sort.ahead] using hgs)]
      simp [putRow, mapBlock, Sort.ahead, Array.getElem?_modify, h3, onCells]
    · rw [← hfl]
      apply List.ext_getElem?
      intro j
      by_cases hj : j < n * 4
      · have hjc : j < cur.size := by rw [h6]; have := Nat.mul_le_mul_right 4 h4; omega
        rw [List.getElem?_take_of_lt hj, Array.getElem?_toList, Array.getElem?_toList]
        simp [putCells, hfs, hj, hjc]
      · rw [List.getElem?_take_eq_none (by omega), List.getElem?_eq_none (by simp [hfs]; omega)]
  · refine ⟨rfl, rfl, rfl, by simp [sortWorldK, putRowK, putRow, mapBlock, Sort.ahead, grow], fun k hk hne => ?_⟩
    show (grow (putRow id (Sort.ahead w q) g 0 (flatK Tm.row 4 d')) os).heap[k]? = _
    rw [heap_grow_old _ _ (by simpa [putRow, mapBlock, Sort.ahead] using hk)]
    have : g ≠ k := fun e => hne e.symm
    simp [putRow, mapBlock, Sort.ahead, Array.getElem?_modify, this]
theorem sortC_none (p : Option Addr) (cap : Nat) (w : World) : Calls Try.prog 25 #[.slice p 0 cap, .func (.func 26) #[] #[]] w fun e w' => e = .returned (.tuple #[]) ∧ w' = w := AnyF.slices_SortFunc_none sortC p cap _ w
end Go.Proofs.Ytmnihombiabkgaa
