import Derived.Test.YtgohjkamikpdcaaSm2
import Derived.Test.YtgohjkamikpdcaaMix2
import Derived.Sort.Grow
namespace Go.Proofs.Ytgohjkamikpdcaa
open Go.RowKit Go.PlainAid
set_option linter.unusedVariables false
set_option linter.unusedSimpArgs false
set_option maxRecDepth 100000 in
set_option maxHeartbeats 1600000 in
theorem closure_any (i j rb ro n cap bx : Nat) (zi zj : Int) (W : World) (hbx : W.cell? ⟨bx, 0, none⟩ = some (.slice (some ⟨rb, ro, none⟩) n cap)) (hi : i < n) (hj : j < n) (hn : n ≤ 1000) (ci : W.cell? ⟨rb, ro + i, none⟩ = some (.int .i64 zi)) (cj : W.cell? ⟨rb, ro + j, none⟩ = some (.int .i64 zj)) :
    Calls Try.prog 35 #[.int .i64 (i : Int), .int .i64 (j : Int), .pointer (some ⟨bx, 0, none⟩)] W fun e w' => e = .returned (.int .i64 (orI (cmpI zj zi) (cmpI i j))) ∧ ∃ q os', w' = Sort.grow (W.drewN q) os' := by
  go_enter Try.func35, Try.ntmps35
  go_wp2_with fail
  rename_i K hK
  try rw [show ∀ a : Act, a.put none undef = a from fun _ => rfl]
  refine wp_region_mix (fun wr => Below (({ W with drawn := W.drawn + 1 } : World)).heap.size (({ W with drawn := W.drawn + 1 } : World)) wr) (fun i => i == 8 || i == 11 || i == 12 || i == 13 || i == 99) 99 (by kernel_rfl) rfl (by kernel_rfl) (by kernel_rfl) (by kernel_rfl) ?_
  refine withFrP (N := 20) rfl ?_
  intro f0 F0 hff
  have e0 : f0 0 = Value.int .i64 (i : Int) := hff 0
  have e1 : f0 1 = Value.int .i64 (j : Int) := hff 1
  have e2 : f0 2 = Value.pointer (some ⟨bx, 0, none⟩) := hff 2
  clear hff
  have HC : Below (({ W with drawn := W.drawn + 1 } : World)).heap.size (({ W with drawn := W.drawn + 1 } : World)) (({ W with drawn := W.drawn + 1 } : World)) := Below.refl _ _
  have cb : ∀ wr, Below (({ W with drawn := W.drawn + 1 } : World)).heap.size (({ W with drawn := W.drawn + 1 } : World)) wr → wr.cell? ⟨bx, 0, none⟩ = some (Value.slice (some ⟨rb, ro, none⟩) n cap) := fun wr h => (h.cell (p := ⟨bx, 0, none⟩) (World.block_lt_of_cell? W _ hbx)).trans hbx
  have cj' : ∀ wr, Below (({ W with drawn := W.drawn + 1 } : World)).heap.size (({ W with drawn := W.drawn + 1 } : World)) wr → wr.cell? ⟨rb, ro + j, none⟩ = some (.int .i64 zj) := fun wr h => (h.cell (p := ⟨rb, ro + j, none⟩) (World.block_lt_of_cell? W _ cj)).trans cj
  have ci' : ∀ wr, Below (({ W with drawn := W.drawn + 1 } : World)).heap.size (({ W with drawn := W.drawn + 1 } : World)) wr → wr.cell? ⟨rb, ro + i, none⟩ = some (.int .i64 zi) := fun wr h => (h.cell (p := ⟨rb, ro + i, none⟩) (World.block_lt_of_cell? W _ ci)).trans ci
  refine lyp F0 rfl HC rfl (by omega) (wanted_none rfl) (v := Value.slice (some ⟨rb, ro, none⟩) n cap) (fun wr hwr => by simp only [execOp, (F0.eval 2 (by omega)).trans (show _ = Value.pointer (some ⟨bx, 0, none⟩) from by simp [upd, e0, e1, e2])]; simp [go_sem, cb wr hwr]) fun F1 => ?_
  refine lyp F1 rfl HC rfl (by omega) (wanted_none rfl) (v := Value.int .i64 (j : Int)) (fun wr hwr => by simp only [execOp, (F1.eval 1 (by omega)).trans (show _ = Value.int .i64 (j : Int) from by simp [upd, e0, e1, e2])]; first | rfl | simp [go_sem]) fun F2 => ?_
  refine lyp F2 rfl HC rfl (by omega) (wanted_none rfl) (v := Value.pointer (some ⟨rb, ro + j, none⟩)) (fun wr hwr => by simp only [execOp, (F2.eval 6 (by omega)).trans (show _ = Value.slice (some ⟨rb, ro, none⟩) n cap from by simp [upd, e0, e1, e2]), (F2.eval 7 (by omega)).trans (show _ = Value.int .i64 (j : Int) from by simp [upd, e0, e1, e2])]; simp [go_sem, hj]) fun F3 => ?_
  refine lyp F3 rfl HC rfl (by omega) (wanted_none rfl) (v := Value.int .i64 zj) (fun wr hwr => by simp only [execOp, (F3.eval 8 (by omega)).trans (show _ = Value.pointer (some ⟨rb, ro + j, none⟩) from by simp [upd, e0, e1, e2])]; simp [go_sem, cj' wr hwr]) fun F4 => ?_
  refine lyp F4 rfl HC rfl (by omega) (wanted_none rfl) (v := Value.slice (some ⟨rb, ro, none⟩) n cap) (fun wr hwr => by simp only [execOp, (F4.eval 2 (by omega)).trans (show _ = Value.pointer (some ⟨bx, 0, none⟩) from by simp [upd, e0, e1, e2])]; simp [go_sem, cb wr hwr]) fun F5 => ?_
  refine lyp F5 rfl HC rfl (by omega) (wanted_none rfl) (v := Value.int .i64 (i : Int)) (fun wr hwr => by simp only [execOp, (F5.eval 0 (by omega)).trans (show _ = Value.int .i64 (i : Int) from by simp [upd, e0, e1, e2])]; first | rfl | simp [go_sem]) fun F6 => ?_
  refine lyp F6 rfl HC rfl (by omega) (wanted_none rfl) (v := Value.pointer (some ⟨rb, ro + i, none⟩)) (fun wr hwr => by simp only [execOp, (F6.eval 10 (by omega)).trans (show _ = Value.slice (some ⟨rb, ro, none⟩) n cap from by simp [upd, e0, e1, e2]), (F6.eval 11 (by omega)).trans (show _ = Value.int .i64 (i : Int) from by simp [upd, e0, e1, e2])]; simp [go_sem, hi]) fun F7 => ?_
  refine lyp F7 rfl HC rfl (by omega) (wanted_none rfl) (v := Value.int .i64 zi) (fun wr hwr => by simp only [execOp, (F7.eval 12 (by omega)).trans (show _ = Value.pointer (some ⟨rb, ro + i, none⟩) from by simp [upd, e0, e1, e2])]; simp [go_sem, ci' wr hwr]) fun F8 => ?_
  refine lcp F8 rfl HC rfl (by omega) (wanted_none rfl) (g := 37) (args := #[Value.int .i64 zj, Value.int .i64 zi]) (by simp only [execOp, resolve, invoke, List.map_toArray, List.map_cons, List.map_nil, (F8.eval 9 (by omega)).trans (show _ = Value.int .i64 zj from by simp [upd, e0, e1, e2]), (F8.eval 13 (by omega)).trans (show _ = Value.int .i64 zi from by simp [upd, e0, e1, e2])]; simp [go_sem, Act.eval]) (compare_any zj zi _) ?_
  rintro e w1 ⟨rfl, hw1⟩
  subst hw1
  refine ⟨_, rfl, fun F9 => ?_⟩
  refine lyp F9 rfl HC rfl (by omega) (wanted_none rfl) (v := Value.int .i64 (i : Int)) (fun wr hwr => by simp only [execOp, (F9.eval 0 (by omega)).trans (show _ = Value.int .i64 (i : Int) from by simp [upd, e0, e1, e2])]; first | rfl | simp [go_sem]) fun F10 => ?_
  refine lyp F10 rfl HC rfl (by omega) (wanted_none rfl) (v := Value.int .i64 (j : Int)) (fun wr hwr => by simp only [execOp, (F10.eval 1 (by omega)).trans (show _ = Value.int .i64 (j : Int) from by simp [upd, e0, e1, e2])]; first | rfl | simp [go_sem]) fun F11 => ?_
  refine lcp F11 rfl HC rfl (by omega) (wanted_none rfl) (g := 37) (args := #[Value.int .i64 (i : Int), Value.int .i64 (j : Int)]) (by simp only [execOp, resolve, invoke, List.map_toArray, List.map_cons, List.map_nil, (F11.eval 15 (by omega)).trans (show _ = Value.int .i64 (i : Int) from by simp [upd, e0, e1, e2]), (F11.eval 16 (by omega)).trans (show _ = Value.int .i64 (j : Int) from by simp [upd, e0, e1, e2])]; simp [go_sem, Act.eval]) (compare_any (i : Int) (j : Int) _) ?_
  rintro e w1 ⟨rfl, hw1⟩
  subst hw1
  refine ⟨_, rfl, fun F12 => ?_⟩
  refine lep F12 rfl HC rfl (by omega) (wanted_none rfl) (v := Value.slice (some ⟨(({ W with drawn := W.drawn + 1 } : World)).heap.size, 0, none⟩) 2 2) (w1 := (({ W with drawn := W.drawn + 1 } : World)).alloc (.cells #[.int .i64 (cmpI zj zi), .int .i64 (cmpI i j)] 3)) (by simp only [execOp, List.map_toArray, List.map_cons, List.map_nil, (F12.eval 14 (by omega)).trans (show _ = Value.int .i64 (cmpI zj zi) from by simp [upd, e0, e1, e2]), (F12.eval 17 (by omega)).trans (show _ = Value.int .i64 (cmpI i j) from by simp [upd, e0, e1, e2])]; simp [go_sem]) fun F13 => ?_
  have HC2 : Below (({ W with drawn := W.drawn + 1 } : World)).heap.size (({ W with drawn := W.drawn + 1 } : World)) ((({ W with drawn := W.drawn + 1 } : World)).alloc (.cells #[.int .i64 (cmpI zj zi), .int .i64 (cmpI i j)] 3)) := HC.alloc (Nat.le_refl _) _
  have hnew := Blk.cell (show Blk ((({ W with drawn := W.drawn + 1 } : World)).alloc (.cells #[.int .i64 (cmpI zj zi), .int .i64 (cmpI i j)] 3)) (({ W with drawn := W.drawn + 1 } : World)).heap.size #[.int .i64 (cmpI zj zi), .int .i64 (cmpI i j)] 3 from heap_alloc_new _ _)
  refine lcp F13 rfl HC2 rfl (by omega) (wanted_none rfl) (g := 36) (args := #[Value.slice (some ⟨(({ W with drawn := W.drawn + 1 } : World)).heap.size, 0, none⟩) 2 2]) (by simp only [execOp, resolve, invoke, List.map_toArray, List.map_cons, List.map_nil, (F13.eval 18 (by omega)).trans (show _ = Value.slice (some ⟨(({ W with drawn := W.drawn + 1 } : World)).heap.size, 0, none⟩) 2 2 from by simp [upd, e0, e1, e2])]; simp [go_sem, Act.eval]) (or_any (cmpI zj zi) (cmpI i j) (({ W with drawn := W.drawn + 1 } : World)).heap.size 2 ((({ W with drawn := W.drawn + 1 } : World)).alloc (.cells #[.int .i64 (cmpI zj zi), .int .i64 (cmpI i j)] 3)) (hnew 0) (hnew 1)) ?_
  rintro e w1 ⟨rfl, hw1⟩
  subst hw1
  refine ⟨_, rfl, fun F14 => ?_⟩
  refine lyp F14 rfl HC2 rfl (by omega) (wanted_none rfl) (v := Value.int .i64 (orI (cmpI zj zi) (cmpI i j))) (fun wr hwr => by simp only [execOp, (F14.eval 19 (by omega)).trans (show _ = Value.int .i64 (orI (cmpI zj zi) (cmpI i j)) from by simp [upd, e0, e1, e2])]; first | rfl | simp [go_sem]) fun F15 => ?_
  refine ⟨fun _ => HC2, ?_⟩
  refine hK _ _ ?_
  clear F0 F1 F2 F3 F4 F5 F6 F7 F8 F9 F10 F11 F12 F13 F14 F15 e0 e1 e2 HC HC2 cb ci' cj' hnew
  simp only [Act.put, List.setIfInBounds_toArray, List.set_cons_succ, List.set_cons_zero]
  go_wp2
  go_ret
  exact ⟨rfl, 1, #[.cells #[.int .i64 (cmpI zj zi), .int .i64 (cmpI i j)] 3], Sort.alloc_eq_grow _ _⟩
end Go.Proofs.Ytgohjkamikpdcaa
