import Derived.Test.YtadfmnlkfcigoaaCm0
namespace Go.Proofs.Ytadfmnlkfcigoaa
open Go.RowKit Go.PlainAid Go.MapKept
set_option linter.unusedVariables false
set_option linter.unusedSimpArgs false
theorem zero69 (w : World) : (zeroValue 69).run Try.prog w = .ok (.agg #[.int .i64 0, .int .i64 0]) w := by kernel_rfl
theorem wrap_mod {s r : Int} (hr : 2 ≤ r ∧ r ≤ 16) : IntKind.i64.wrap (Int.tmod s r) = Int.tmod s r := by
  have h1 := Int.tmod_lt_of_pos s (show 0 < r by omega)
  have h2 := Int.lt_tmod_of_pos s (show 0 < r by omega)
  rw [IntKind.wrap_i64]
  omega
theorem div_in {s r : Int} (hs : (-9223372036854775808 : Int) ≤ s ∧ s ≤ 9223372036854775807) (hr : 2 ≤ r ∧ r ≤ 16) : (-9223372036854775808 : Int) ≤ Int.tdiv s r ∧ Int.tdiv s r ≤ 9223372036854775807 := by
  have h0 := Int.tmod_add_mul_tdiv s r
  have h1 := Int.tmod_lt_of_pos s (show 0 < r by omega)
  have h2 := Int.lt_tmod_of_pos s (show 0 < r by omega)
  generalize Int.tdiv s r = q at *
  generalize Int.tmod s r = m at *
  rcases (show r = 2 ∨ r = 3 ∨ r = 4 ∨ r = 5 ∨ r = 6 ∨ r = 7 ∨ r = 8 ∨ r = 9 ∨ r = 10 ∨ r = 11 ∨ r = 12 ∨ r = 13 ∨ r = 14 ∨ r = 15 ∨ r = 16 by omega) with rfl | rfl | rfl | rfl | rfl | rfl | rfl | rfl | rfl | rfl | rfl | rfl | rfl | rfl | rfl <;> omega
theorem wrap_div {s r : Int} (hs : (-9223372036854775808 : Int) ≤ s ∧ s ≤ 9223372036854775807) (hr : 2 ≤ r ∧ r ≤ 16) : IntKind.i64.wrap (Int.tdiv s r) = Int.tdiv s r := by
  have := div_in hs hr
  rw [IntKind.wrap_i64]
  omega
set_option maxRecDepth 100000 in
set_option maxHeartbeats 1600000 in
theorem seatOf_any {a : CA} {x : CX} (s : Int) (w : World) (hM : CM a x w) (hs : (-9223372036854775808 : Int) ≤ s ∧ s ≤ 9223372036854775807) :
    Calls Try.prog 20 #[.pointer (some ⟨a.cb, 0, none⟩), .int .i64 s] w fun e w' => e = .returned (callV (Int.tmod s a.rep, Int.tdiv s a.rep)) ∧ Below w.heap.size w w' := by
  have hr := hM.ok.rep
  have e1 := wrap_mod (s := s) hr
  have e2 := wrap_div hs hr
  have c0 := hM.c0
  have d0 : (w.alloc (.cells #[.int .i64 0, .int .i64 0] 69)).cell? ⟨a.cb, 0, none⟩ = some (.int .i64 a.rep) := (((Below.refl _ w).alloc (Nat.le_refl _) _).cell (p := ⟨a.cb, 0, none⟩) hM.blk.lt).trans c0
  have hne : a.rep ≠ 0 := by omega
  have hz := zero69
  unfold callV
  clear hM
  go_enter Try.func20, Try.ntmps20
  go_wp2_with fail
  go_region
  rename_i K hK
  refine hK _ _ ?_
  go_wp2_with fail
  refine bodyPost_ret (results_cell_row Try.results20 _ _ w.heap.size 69 #[.int .i64 (Int.tmod s a.rep), .int .i64 (Int.tdiv s a.rep)] (0, 0) _ rfl (heap_alloc_new w _) Try.underlying69 rfl (by kernel_rfl)) rfl ?_
  exact ⟨rfl, (((Below.refl _ w).alloc (Nat.le_refl _) _)).drew⟩
end Go.Proofs.Ytadfmnlkfcigoaa
namespace Go.Proofs.Ytadfmnlkfcigoaa
open Go.RowKit Go.PlainAid Go.MapKept
set_option linter.unusedVariables false
set_option linter.unusedSimpArgs false
theorem zero36 (w : World) : (zeroValue 36).run Try.prog w = .ok (.agg #[.int .i64 0, .int .i64 0, .int .i64 0, .int .i64 0]) w := by kernel_rfl
theorem zero74 (w : World) : (zeroValue 74).run Try.prog w = .ok (.agg #[]) w := by kernel_rfl
set_option maxRecDepth 100000 in
set_option maxHeartbeats 1600000 in
theorem at_any {C : Array Value} {la : Int} {sl : Nat → Rp} {m f n hb : Nat} (i : Nat) (w : World) (hB : Blk w hb C 67) (hC : HC C la sl m f n) (hf : f < m) (hm : m ≤ 16) (hi : i ≤ 16) :
    Calls Try.prog 27 #[.pointer (some ⟨hb, 1, none⟩), .int .i64 (i : Nat)] w fun e w' => e = .returned (.pointer (some ⟨hb, 1 + 4 * ((f + i) % m), none⟩)) ∧ ∃ q, w' = w.drewN q := by
  have c65 : w.cell? ⟨hb, 65, none⟩ = some (.int .i64 (m : Nat)) := (hB.cell 65).trans hC.c65
  have c66 : w.cell? ⟨hb, 66, none⟩ = some (.int .i64 (f : Nat)) := (hB.cell 66).trans hC.c66
  have hlt : (f + i) % m < m := Nat.mod_lt _ (by omega)
  obtain ⟨k, hk⟩ : ∃ k, k = (f + i) % m := ⟨_, rfl⟩
  rw [← hk] at hlt ⊢
  rw [Nat.mul_comm 4 k]
  have hk16 : k < 16 := by omega
  have hm1 : m ≠ 0 := by omega
  have hk2 : ((f : Int) + (i : Int)).tmod (m : Int) = (k : Int) := by
    rw [Int.tmod_eq_emod_of_nonneg (by omega), hk]
    rfl
  clear hB hC
  go_enter Try.func27, Try.ntmps27
  go_wp2_with fail
  rename_i K hK
  try rw [show ∀ a : Act, a.put none undef = a from fun _ => rfl]
  refine wp_region_mix (fun wq => wq.cell? ⟨hb, 65, none⟩ = some (.int .i64 (m : Nat)) ∧ wq.cell? ⟨hb, 66, none⟩ = some (.int .i64 (f : Nat))) (fun i => i == 99) 99 (by kernel_rfl) rfl (by kernel_rfl) (by kernel_rfl) (by kernel_rfl) ?_
  refine withFrP (N := 20) rfl ?_
  intro f0 F0 hff
  have e0 : f0 0 = Value.pointer (some ⟨hb, 1, none⟩) := hff 0
  have e1 : f0 1 = Value.int .i64 (i : Nat) := hff 1
  clear hff
  have HCC : (fun wq => wq.cell? ⟨hb, 65, none⟩ = some (.int .i64 (m : Nat)) ∧ wq.cell? ⟨hb, 66, none⟩ = some (.int .i64 (f : Nat))) (({ w with drawn := w.drawn + 1 } : World)) := ⟨c65, c66⟩
  refine lyp F0 rfl HCC rfl (by omega) (wanted_none rfl) (v := Value.pointer (some ⟨hb, 1, none⟩)) (fun wr hwr => by simp only [execOp, (F0.eval 0 (by omega)).trans (show _ = Value.pointer (some ⟨hb, 1, none⟩) from by simp [upd, e0, e1])]; first | rfl | simp [go_sem]) fun F1 => ?_
  refine lyp F1 rfl HCC rfl (by omega) (wanted_none rfl) (v := Value.pointer (some ⟨hb, 1, none⟩)) (fun wr hwr => by simp only [execOp, (F1.eval 0 (by omega)).trans (show _ = Value.pointer (some ⟨hb, 1, none⟩) from by simp [upd, e0, e1])]; first | rfl | simp [go_sem]) fun F2 => ?_
  refine lyp F2 rfl HCC rfl (by omega) (wanted_none rfl) (v := Value.pointer (some ⟨hb, 1, none⟩)) (fun wr hwr => by simp only [execOp, (F2.eval 6 (by omega)).trans (show _ = Value.pointer (some ⟨hb, 1, none⟩) from by simp [upd, e0, e1])]; simp [go_sem]) fun F3 => ?_
  refine lyp F3 rfl HCC rfl (by omega) (wanted_none rfl) (v := Value.pointer (some ⟨hb, 66, none⟩)) (fun wr hwr => by simp only [execOp, (F3.eval 7 (by omega)).trans (show _ = Value.pointer (some ⟨hb, 1, none⟩) from by simp [upd, e0, e1])]; simp [go_sem]) fun F4 => ?_
  refine lyp F4 rfl HCC rfl (by omega) (wanted_none rfl) (v := Value.int .i64 (f : Nat)) (fun wr hwr => by simp only [execOp, (F4.eval 8 (by omega)).trans (show _ = Value.pointer (some ⟨hb, 66, none⟩) from by simp [upd, e0, e1])]; simp [go_sem, hwr.2]) fun F5 => ?_
  refine lyp F5 rfl HCC rfl (by omega) (wanted_none rfl) (v := Value.int .i64 (i : Nat)) (fun wr hwr => by simp only [execOp, (F5.eval 1 (by omega)).trans (show _ = Value.int .i64 (i : Nat) from by simp [upd, e0, e1])]; first | rfl | simp [go_sem]) fun F6 => ?_
  refine lyp F6 rfl HCC rfl (by omega) (wanted_none rfl) (v := Value.int .i64 ((f + i : Nat) : Int)) (fun wr hwr => by simp only [execOp, (F6.eval 9 (by omega)).trans (show _ = Value.int .i64 (f : Nat) from by simp [upd, e0, e1]), (F6.eval 10 (by omega)).trans (show _ = Value.int .i64 (i : Nat) from by simp [upd, e0, e1])]; simp [go_sem, Act.eval]; rw [IntKind.wrap_i64]; omega) fun F7 => ?_
  refine lyp F7 rfl HCC rfl (by omega) (wanted_none rfl) (v := Value.pointer (some ⟨hb, 1, none⟩)) (fun wr hwr => by simp only [execOp, (F7.eval 0 (by omega)).trans (show _ = Value.pointer (some ⟨hb, 1, none⟩) from by simp [upd, e0, e1])]; first | rfl | simp [go_sem]) fun F8 => ?_
  refine lyp F8 rfl HCC rfl (by omega) (wanted_none rfl) (v := Value.pointer (some ⟨hb, 1, none⟩)) (fun wr hwr => by simp only [execOp, (F8.eval 12 (by omega)).trans (show _ = Value.pointer (some ⟨hb, 1, none⟩) from by simp [upd, e0, e1])]; simp [go_sem]) fun F9 => ?_
  refine lyp F9 rfl HCC rfl (by omega) (wanted_none rfl) (v := Value.pointer (some ⟨hb, 65, none⟩)) (fun wr hwr => by simp only [execOp, (F9.eval 13 (by omega)).trans (show _ = Value.pointer (some ⟨hb, 1, none⟩) from by simp [upd, e0, e1])]; simp [go_sem]) fun F10 => ?_
  refine lyp F10 rfl HCC rfl (by omega) (wanted_none rfl) (v := Value.int .i64 (m : Nat)) (fun wr hwr => by simp only [execOp, (F10.eval 14 (by omega)).trans (show _ = Value.pointer (some ⟨hb, 65, none⟩) from by simp [upd, e0, e1])]; simp [go_sem, hwr.1]) fun F11 => ?_
  refine lyp F11 rfl HCC rfl (by omega) (wanted_none rfl) (v := Value.int .i64 ((k : Nat) : Int)) (fun wr hwr => by simp only [execOp, (F11.eval 11 (by omega)).trans (show _ = Value.int .i64 ((f + i : Nat) : Int) from by simp [upd, e0, e1]), (F11.eval 15 (by omega)).trans (show _ = Value.int .i64 (m : Nat) from by simp [upd, e0, e1])]; simp [go_sem, Act.eval, hm1, hk2]) fun F12 => ?_
  refine lyp F12 rfl HCC rfl (by omega) (wanted_none rfl) (v := Value.pointer (some ⟨hb, 1, none⟩)) (fun wr hwr => by simp only [execOp, (F12.eval 5 (by omega)).trans (show _ = Value.pointer (some ⟨hb, 1, none⟩) from by simp [upd, e0, e1])]; simp [go_sem]) fun F13 => ?_
  refine lyp F13 rfl HCC rfl (by omega) (wanted_none rfl) (v := Value.pointer (some ⟨hb, 1, none⟩)) (fun wr hwr => by simp only [execOp, (F13.eval 17 (by omega)).trans (show _ = Value.pointer (some ⟨hb, 1, none⟩) from by simp [upd, e0, e1])]; simp [go_sem]) fun F14 => ?_
  refine lyp F14 rfl HCC rfl (by omega) (wanted_none rfl) (v := Value.pointer (some ⟨hb, 1 + k * 4, none⟩)) (fun wr hwr => by simp only [execOp, (F14.eval 18 (by omega)).trans (show _ = Value.pointer (some ⟨hb, 1, none⟩) from by simp [upd, e0, e1]), (F14.eval 16 (by omega)).trans (show _ = Value.int .i64 ((k : Nat) : Int) from by simp [upd, e0, e1])]; simp [go_sem, Act.eval, hk16]; intro h; omega) fun F15 => ?_
  refine lyp F15 rfl HCC rfl (by omega) (wanted_none rfl) (v := Value.pointer (some ⟨hb, 1 + k * 4, none⟩)) (fun wr hwr => by simp only [execOp, (F15.eval 19 (by omega)).trans (show _ = Value.pointer (some ⟨hb, 1 + k * 4, none⟩) from by simp [upd, e0, e1])]; first | rfl | simp [go_sem]) fun F16 => ?_
  refine ⟨fun _ => HCC, ?_⟩
  refine hK _ _ ?_
  clear F0 F1 F2 F3 F4 F5 F6 F7 F8 F9 F10 F11 F12 F13 F14 F15 F16 e0 e1 HCC
  simp only [Act.put, List.setIfInBounds_toArray, List.set_cons_succ, List.set_cons_zero]
  go_wp2_with fail
  go_ret
  exact ⟨rfl, 1, rfl⟩
end Go.Proofs.Ytadfmnlkfcigoaa
namespace Go.Proofs.Ytadfmnlkfcigoaa
open Go.RowKit Go.PlainAid Go.MapKept
set_option linter.unusedVariables false
set_option linter.unusedSimpArgs false
def isIn (c : Int × Int) (op : List (Int × Int)) : Bool := decide (c ∈ op)
theorem look_op (c : Int × Int) : ∀ op : List (Int × Int), (look c (op.map fun c => (c, ()))).isSome = isIn c op
  | [] => rfl
  | h :: t => by
    have ih := look_op c t
    unfold look isIn at ih ⊢
    by_cases e : c = h
    · simp [e]
    · simp only [List.map_cons, List.find?_cons, e, decide_false]
      simp only [List.mem_cons, e, false_or]
      exact ih
theorem CM.lookP {a : CA} {x : CX} {w : World} (h : CM a x w) (c : Int × Int) : (Instr.lookup 59 (.map (some a.mp)) (callV c) true).run Try.prog w = .ok (.tuple #[.agg #[], .bool (isIn c x.op)]) w := by
  have := h.pm.look_ok c true
  rw [look_op] at this
  exact this
set_option maxRecDepth 100000 in
set_option maxHeartbeats 1600000 in
theorem isPending_any {a : CA} {x : CX} (c : Int × Int) (w : World) (hM : CM a x w) :
    Calls Try.prog 21 #[.pointer (some ⟨a.cb, 0, none⟩), callV c] w fun e w' => e = .returned (.bool (isIn c x.op)) ∧ Below w.heap.size w w' := by
  obtain ⟨cs, ci⟩ := c
  have HLK : Hid (∀ wr, CM a x wr → (Instr.lookup 59 (.map (some a.mp)) (.agg #[.int .i64 cs, .int .i64 ci]) true).run Try.prog wr = .ok (.tuple #[.agg #[], .bool (isIn (cs, ci) x.op)]) wr) := fun wr h => h.lookP (cs, ci)
  obtain ⟨b, hb⟩ : ∃ b, b = isIn (cs, ci) x.op := ⟨_, rfl⟩
  rw [← hb] at HLK ⊢
  clear hb
  unfold callV
  obtain ⟨X, hX⟩ : ∃ X, X = w.alloc (.cells #[.int .i64 cs, .int .i64 ci] 32) := ⟨_, rfl⟩
  have hbX : Below w.heap.size w X := by rw [hX]; exact (Below.refl _ _).alloc (Nat.le_refl _) _
  obtain ⟨cb, hcb⟩ : ∃ cb, cb = w.heap.size := ⟨_, rfl⟩
  have HCB : Hid (Blk X cb #[.int .i64 cs, .int .i64 ci] 32) := show Blk X cb #[.int .i64 cs, .int .i64 ci] 32 from by rw [hX, hcb]; exact heap_alloc_new w _
  have HT : Hid (CM a x X) := hM.more hbX
  have HBX : Hid _ := hbX
  clear hM hbX
  go_enter Try.func21, Try.ntmps21
  go_wp2_with fail
  simp only [← hX, ← hcb]
  clear hX hcb
  rename_i K hK
  try rw [show ∀ a : Act, a.put none undef = a from fun _ => rfl]
  refine wp_region_mix (fun wq => Below X.heap.size X wq) (fun i => i == 9 || i == 10 || i == 99) 99 (by kernel_rfl) rfl (by kernel_rfl) (by kernel_rfl) (by kernel_rfl) ?_
  refine withFrP (N := 17) rfl ?_
  intro f0 F0 hff
  have e0 : f0 0 = Value.pointer (some ⟨a.cb, 0, none⟩) := hff 0
  have ec : f0 3 = Value.pointer (some ⟨cb, 0, none⟩) := hff 3
  clear hff
  have HCC : (fun wq => Below X.heap.size X wq) (({ X with drawn := X.drawn + 1 } : World)) := (Below.drew (Below.refl X.heap.size X))
  have VH : ∀ wr, Below X.heap.size X wr → wr.cell? ⟨a.cb, 2, none⟩ = some (.map (some a.mp)) := fun wr hw => (HT.out.more hw).c2
  have V0 : ∀ wr, Below X.heap.size X wr → wr.cell? ⟨cb, 0, none⟩ = some (.int .i64 cs) := fun wr hw => (Blk.below HCB.out hw (Blk.lt HCB.out)).cell 0
  have V1 : ∀ wr, Below X.heap.size X wr → wr.cell? ⟨cb, 1, none⟩ = some (.int .i64 ci) := fun wr hw => (Blk.below HCB.out hw (Blk.lt HCB.out)).cell 1
  have VL : ∀ wr, Below X.heap.size X wr → (Instr.lookup 59 (.map (some a.mp)) (.agg #[.int .i64 cs, .int .i64 ci]) true).run Try.prog wr = .ok (.tuple #[.agg #[], .bool b]) wr := fun wr hw => HLK.out wr (HT.out.more hw)
  have HC2 : (fun wq => Below X.heap.size X wq) (({ X with drawn := X.drawn + 1 } : World).alloc (.cells #[] 74)) := HCC.alloc (Nat.le_refl _) _
  refine lyp F0 rfl HCC rfl (by omega) (wanted_none rfl) (v := Value.pointer (some ⟨a.cb, 0, none⟩)) (fun wr hwr => by simp only [execOp, (F0.eval 0 (by omega)).trans (show _ = Value.pointer (some ⟨a.cb, 0, none⟩) from by simp [upd, e0, ec])]; first | rfl | simp [go_sem]) fun F1 => ?_
  refine lyp F1 rfl HCC rfl (by omega) (wanted_none rfl) (v := Value.pointer (some ⟨a.cb, 0, none⟩)) (fun wr hwr => by simp only [execOp, (F1.eval 8 (by omega)).trans (show _ = Value.pointer (some ⟨a.cb, 0, none⟩) from by simp [upd, e0, ec])]; simp [go_sem]) fun F2 => ?_
  refine lyp F2 rfl HCC rfl (by omega) (wanted_none rfl) (v := Value.pointer (some ⟨a.cb, 2, none⟩)) (fun wr hwr => by simp only [execOp, (F2.eval 9 (by omega)).trans (show _ = Value.pointer (some ⟨a.cb, 0, none⟩) from by simp [upd, e0, ec])]; simp [go_sem]) fun F3 => ?_
  refine lyp F3 rfl HCC rfl (by omega) (wanted_none rfl) (v := Value.map (some a.mp)) (fun wr hwr => by simp only [execOp, (F3.eval 10 (by omega)).trans (show _ = Value.pointer (some ⟨a.cb, 2, none⟩) from by simp [upd, e0, ec])]; simp [go_sem, VH wr hwr]) fun F4 => ?_
  refine lyp F4 rfl HCC rfl (by omega) (wanted_none rfl) (v := Value.agg #[.int .i64 cs, .int .i64 ci]) (fun wr hwr => by simp only [execOp, (F4.eval 3 (by omega)).trans (show _ = Value.pointer (some ⟨cb, 0, none⟩) from by simp [upd, e0, ec])]; simp [go_sem, V0 wr hwr, V1 wr hwr]) fun F5 => ?_
  refine lyp F5 rfl HCC rfl (by omega) (wanted_none rfl) (v := Value.tuple #[.agg #[], .bool b]) (fun wr hwr => by simp only [execOp, (F5.eval 11 (by omega)).trans (show _ = Value.map (some a.mp) from by simp [upd, e0, ec]), (F5.eval 12 (by omega)).trans (show _ = Value.agg #[.int .i64 cs, .int .i64 ci] from by simp [upd, e0, ec])]; simp [go_sem, VL wr hwr]) fun F6 => ?_
  refine lyp F6 rfl HCC rfl (by omega) (wanted_none rfl) (v := Value.tuple #[.agg #[], .bool b]) (fun wr hwr => by simp only [execOp, (F6.eval 13 (by omega)).trans (show _ = Value.tuple #[.agg #[], .bool b] from by simp [upd, e0, ec])]; first | rfl | simp [go_sem]) fun F7 => ?_
  refine lyp F7 rfl HCC rfl (by omega) (wanted_none rfl) (v := Value.agg #[]) (fun wr hwr => by simp only [execOp, (F7.eval 7 (by omega)).trans (show _ = Value.tuple #[.agg #[], .bool b] from by simp [upd, e0, ec])]; simp [go_sem]) fun F8 => ?_
  refine lyp F8 rfl HCC rfl (by omega) (wanted_none rfl) (v := Value.bool b) (fun wr hwr => by simp only [execOp, (F8.eval 7 (by omega)).trans (show _ = Value.tuple #[.agg #[], .bool b] from by simp [upd, e0, ec])]; simp [go_sem]) fun F9 => ?_
  refine lep F9 rfl HCC rfl (by omega) (wanted_none rfl) (v := Value.pointer (some ⟨X.heap.size, 0, none⟩)) (w1 := ({ X with drawn := X.drawn + 1 } : World).alloc (.cells #[] 74)) (by simp only [execOp]; simp [go_sem, zero74]) fun F10 => ?_
  refine lst rfl HC2 rfl (wanted_none rfl) (w1 := ({ X with drawn := X.drawn + 1 } : World).alloc (.cells #[] 74)) (by simp only [execOp, (F10.eval 5 (by omega)).trans (show _ = Value.pointer (some ⟨X.heap.size, 0, none⟩) from by simp [upd, e0, ec]), (F10.eval 14 (by omega)).trans (show _ = Value.agg #[] from by simp [upd, e0, ec])]; simp [go_sem]) ?_
  refine lyp F10 rfl HC2 rfl (by omega) (wanted_none rfl) (v := Value.bool b) (fun wr hwr => by simp only [execOp, (F10.eval 15 (by omega)).trans (show _ = Value.bool b from by simp [upd, e0, ec])]; first | rfl | simp [go_sem]) fun F11 => ?_
  refine ⟨fun _ => HC2, ?_⟩
  refine hK _ _ ?_
  clear F0 F1 F2 F3 F4 F5 F6 F7 F8 F9 F10 F11 e0 ec HCC
  simp only [Act.put, List.setIfInBounds_toArray, List.set_cons_succ, List.set_cons_zero]
  go_wp2_with fail
  go_ret
  exact ⟨rfl, HBX.out.trans (HC2.mono HBX.out.size)⟩
theorem CM.seatAll {a : CA} {x : CX} {w : World} (h : CM a x w) {s : Int} (hs : mine a.me a.rep a.ses s) : ∃ (j : Nat) (b : Nat), a.hs[j]? = some b ∧ s = a.me + j * a.rep ∧ ∀ (x' : CX) (wr : World), CM a x' wr → (Instr.lookup 58 (.map (some a.ms)) (callV (Int.tmod s a.rep, Int.tdiv s a.rep)) true).run Try.prog wr = .ok (.tuple #[.pointer (some ⟨b, 0, none⟩), .bool true]) wr := by
  obtain ⟨j, hb, hj, hsj, _⟩ := h.seatYes hs
  refine ⟨j, hb, hj, hsj, fun x' wr h2 => ?_⟩
  obtain ⟨j2, hb2, hj2, hsj2, hl⟩ := h2.seatYes hs
  have : j2 = j := by
    have hr := h.ok.rep
    have e : (j2 : Int) * a.rep = j * a.rep := by omega
    have := Int.eq_of_mul_eq_mul_right (by omega) e
    omega
  subst this
  rw [hj2] at hj
  cases hj
  exact hl
def lastA (a : CA) (x : CX) (s : Int) : Int := if mine a.me a.rep a.ses s then x.la s else 0
def In64 (z : Int) : Prop := (-9223372036854775808 : Int) ≤ z ∧ z ≤ 9223372036854775807
set_option maxRecDepth 100000 in
set_option maxHeartbeats 1600000 in
theorem last_any {a : CA} {x : CX} (s : Int) (w : World) (hM : CM a x w) (hs : In64 s) :
    Calls Try.prog 14 #[.pointer (some ⟨a.cb, 0, none⟩), .int .i64 s] w fun e w' => e = .returned (.int .i64 (lastA a x s)) ∧ Below w.heap.size w w' := by
  have HS : Hid _ := hs
  have HT : Hid _ := hM
  by_cases hmi : mine a.me a.rep a.ses s
  · rw [show lastA a x s = x.la s from if_pos hmi]
    obtain ⟨j, hb, hj, hsj, hall⟩ := hM.seatAll hmi
    have HLK : Hid (∀ wr, CM a x wr → _) := fun wr h => hall x wr h
    clear hall
    have HLA : Hid (∀ wr, CM a x wr → wr.cell? ⟨hb, 0, none⟩ = some (.int .i64 (x.la s))) := fun wr h => by
      have := (h.hist j hb hj).last
      rw [← hsj] at this
      exact this
    clear hM hs hmi hj hsj
    go_enter Try.func14, Try.ntmps14
    go_wp2_with fail
    rename_i K hK
    try rw [show ∀ a : Act, a.put none undef = a from fun _ => rfl]
    refine wp_region_mix (fun wq => Below w.heap.size w wq) (fun i => i == 6 || i == 99) 99 (by kernel_rfl) rfl (by kernel_rfl) (by kernel_rfl) (by kernel_rfl) ?_
    refine withFrP (N := 23) rfl ?_
    intro f0 F0 hff
    have e0 : f0 0 = Value.pointer (some ⟨a.cb, 0, none⟩) := hff 0
    have e1 : f0 1 = Value.int .i64 s := hff 1
    clear hff
    have HCC : (fun wq => Below w.heap.size w wq) (({ w with drawn := w.drawn + 1 } : World)) := (Below.drew (Below.refl w.heap.size w))
    have VH : ∀ wr, Below w.heap.size w wr → wr.cell? ⟨a.cb, 1, none⟩ = some (.map (some a.ms)) := fun wr hw => (HT.out.more hw).c1
    refine lyp F0 rfl HCC rfl (by omega) (wanted_none rfl) (v := Value.pointer (some ⟨a.cb, 0, none⟩)) (fun wr hwr => by simp only [execOp, (F0.eval 0 (by omega)).trans (show _ = Value.pointer (some ⟨a.cb, 0, none⟩) from by simp [upd, e0, e1])]; first | rfl | simp [go_sem]) fun F1 => ?_
    refine lyp F1 rfl HCC rfl (by omega) (wanted_none rfl) (v := Value.pointer (some ⟨a.cb, 0, none⟩)) (fun wr hwr => by simp only [execOp, (F1.eval 8 (by omega)).trans (show _ = Value.pointer (some ⟨a.cb, 0, none⟩) from by simp [upd, e0, e1])]; simp [go_sem]) fun F2 => ?_
    refine lyp F2 rfl HCC rfl (by omega) (wanted_none rfl) (v := Value.pointer (some ⟨a.cb, 1, none⟩)) (fun wr hwr => by simp only [execOp, (F2.eval 9 (by omega)).trans (show _ = Value.pointer (some ⟨a.cb, 0, none⟩) from by simp [upd, e0, e1])]; simp [go_sem]) fun F3 => ?_
    refine lyp F3 rfl HCC rfl (by omega) (wanted_none rfl) (v := Value.map (some a.ms)) (fun wr hwr => by simp only [execOp, (F3.eval 10 (by omega)).trans (show _ = Value.pointer (some ⟨a.cb, 1, none⟩) from by simp [upd, e0, e1])]; simp [go_sem, VH wr hwr]) fun F4 => ?_
    refine lyp F4 rfl HCC rfl (by omega) (wanted_none rfl) (v := Value.pointer (some ⟨a.cb, 0, none⟩)) (fun wr hwr => by simp only [execOp, (F4.eval 0 (by omega)).trans (show _ = Value.pointer (some ⟨a.cb, 0, none⟩) from by simp [upd, e0, e1])]; first | rfl | simp [go_sem]) fun F5 => ?_
    refine lyp F5 rfl HCC rfl (by omega) (wanted_none rfl) (v := Value.int .i64 s) (fun wr hwr => by simp only [execOp, (F5.eval 1 (by omega)).trans (show _ = Value.int .i64 s from by simp [upd, e0, e1])]; first | rfl | simp [go_sem]) fun F6 => ?_
    refine lcp F6 rfl HCC rfl (by omega) (wanted_none rfl) (g := 20) (args := #[Value.pointer (some ⟨a.cb, 0, none⟩), Value.int .i64 s]) (by simp only [execOp, resolve, invoke, List.map_toArray, List.map_cons, List.map_nil, (F6.eval 12 (by omega)).trans (show _ = Value.pointer (some ⟨a.cb, 0, none⟩) from by simp [upd, e0, e1]), (F6.eval 13 (by omega)).trans (show _ = Value.int .i64 s from by simp [upd, e0, e1])]; simp [go_sem, Act.eval]) (seatOf_any s _ (HT.out.more HCC) HS.out) ?_
    rintro e w1 ⟨rfl, hw1⟩
    have HC1 : (fun wq => Below w.heap.size w wq) w1 := HCC.trans (hw1.mono HCC.size)
    refine ⟨_, rfl, fun F7 => ?_⟩
    refine lyp F7 rfl HC1 rfl (by omega) (wanted_none rfl) (v := Value.tuple #[.pointer (some ⟨hb, 0, none⟩), .bool true]) (fun wr hwr => by simp only [execOp, (F7.eval 11 (by omega)).trans (show _ = Value.map (some a.ms) from by simp [upd, e0, e1]), (F7.eval 14 (by omega)).trans (show _ = callV (Int.tmod s a.rep, Int.tdiv s a.rep) from by simp [upd, e0, e1])]; simp [go_sem, HLK.out wr (HT.out.more hwr)]) fun F8 => ?_
    refine lyp F8 rfl HC1 rfl (by omega) (wanted_none rfl) (v := Value.tuple #[.pointer (some ⟨hb, 0, none⟩), .bool true]) (fun wr hwr => by simp only [execOp, (F8.eval 15 (by omega)).trans (show _ = Value.tuple #[.pointer (some ⟨hb, 0, none⟩), .bool true] from by simp [upd, e0, e1])]; first | rfl | simp [go_sem]) fun F9 => ?_
    refine lyp F9 rfl HC1 rfl (by omega) (wanted_none rfl) (v := Value.pointer (some ⟨hb, 0, none⟩)) (fun wr hwr => by simp only [execOp, (F9.eval 7 (by omega)).trans (show _ = Value.tuple #[.pointer (some ⟨hb, 0, none⟩), .bool true] from by simp [upd, e0, e1])]; simp [go_sem]) fun F10 => ?_
    refine lyp F10 rfl HC1 rfl (by omega) (wanted_none rfl) (v := Value.bool true) (fun wr hwr => by simp only [execOp, (F10.eval 7 (by omega)).trans (show _ = Value.tuple #[.pointer (some ⟨hb, 0, none⟩), .bool true] from by simp [upd, e0, e1])]; simp [go_sem]) fun F11 => ?_
    refine lyp F11 rfl HC1 rfl (by omega) (wanted_none rfl) (v := Value.pointer (some ⟨hb, 0, none⟩)) (fun wr hwr => by simp only [execOp, (F11.eval 16 (by omega)).trans (show _ = Value.pointer (some ⟨hb, 0, none⟩) from by simp [upd, e0, e1])]; first | rfl | simp [go_sem]) fun F12 => ?_
    refine lyp F12 rfl HC1 rfl (by omega) (wanted_none rfl) (v := Value.bool true) (fun wr hwr => by simp only [execOp, (F12.eval 17 (by omega)).trans (show _ = Value.bool true from by simp [upd, e0, e1])]; first | rfl | simp [go_sem]) fun F13 => ?_
    refine ⟨fun _ => HC1, ?_⟩
    refine hK _ _ ?_
    clear F0 F1 F2 F3 F4 F5 F6 F7 F8 F9 F10 F11 F12 F13 e0 e1 HCC VH
    simp only [Act.put, List.setIfInBounds_toArray, List.set_cons_succ, List.set_cons_zero]
    have l0 := HLA.out _ (HT.out.more HC1)
    have HB1 : Hid _ := HC1
    clear HC1 hw1
    go_wp2_with fail
    go_ret
    exact ⟨rfl, HB1.out⟩
  · rw [show lastA a x s = 0 from if_neg hmi]
    have HLK : Hid (∀ wr, CM a x wr → (Instr.lookup 58 (.map (some a.ms)) (callV (Int.tmod s a.rep, Int.tdiv s a.rep)) true).run Try.prog wr = .ok (.tuple #[.pointer none, .bool false]) wr) := fun wr h => h.seatNo hmi true
    clear hM hs hmi
    go_enter Try.func14, Try.ntmps14
    go_wp2_with fail
    rename_i K hK
    try rw [show ∀ a : Act, a.put none undef = a from fun _ => rfl]
    refine wp_region_mix (fun wq => Below w.heap.size w wq) (fun i => i == 6 || i == 99) 99 (by kernel_rfl) rfl (by kernel_rfl) (by kernel_rfl) (by kernel_rfl) ?_
    refine withFrP (N := 23) rfl ?_
    intro f0 F0 hff
    have e0 : f0 0 = Value.pointer (some ⟨a.cb, 0, none⟩) := hff 0
    have e1 : f0 1 = Value.int .i64 s := hff 1
    clear hff
    have HCC : (fun wq => Below w.heap.size w wq) (({ w with drawn := w.drawn + 1 } : World)) := (Below.drew (Below.refl w.heap.size w))
    have VH : ∀ wr, Below w.heap.size w wr → wr.cell? ⟨a.cb, 1, none⟩ = some (.map (some a.ms)) := fun wr hw => (HT.out.more hw).c1
    refine lyp F0 rfl HCC rfl (by omega) (wanted_none rfl) (v := Value.pointer (some ⟨a.cb, 0, none⟩)) (fun wr hwr => by simp only [execOp, (F0.eval 0 (by omega)).trans (show _ = Value.pointer (some ⟨a.cb, 0, none⟩) from by simp [upd, e0, e1])]; first | rfl | simp [go_sem]) fun F1 => ?_
    refine lyp F1 rfl HCC rfl (by omega) (wanted_none rfl) (v := Value.pointer (some ⟨a.cb, 0, none⟩)) (fun wr hwr => by simp only [execOp, (F1.eval 8 (by omega)).trans (show _ = Value.pointer (some ⟨a.cb, 0, none⟩) from by simp [upd, e0, e1])]; simp [go_sem]) fun F2 => ?_
    refine lyp F2 rfl HCC rfl (by omega) (wanted_none rfl) (v := Value.pointer (some ⟨a.cb, 1, none⟩)) (fun wr hwr => by simp only [execOp, (F2.eval 9 (by omega)).trans (show _ = Value.pointer (some ⟨a.cb, 0, none⟩) from by simp [upd, e0, e1])]; simp [go_sem]) fun F3 => ?_
    refine lyp F3 rfl HCC rfl (by omega) (wanted_none rfl) (v := Value.map (some a.ms)) (fun wr hwr => by simp only [execOp, (F3.eval 10 (by omega)).trans (show _ = Value.pointer (some ⟨a.cb, 1, none⟩) from by simp [upd, e0, e1])]; simp [go_sem, VH wr hwr]) fun F4 => ?_
    refine lyp F4 rfl HCC rfl (by omega) (wanted_none rfl) (v := Value.pointer (some ⟨a.cb, 0, none⟩)) (fun wr hwr => by simp only [execOp, (F4.eval 0 (by omega)).trans (show _ = Value.pointer (some ⟨a.cb, 0, none⟩) from by simp [upd, e0, e1])]; first | rfl | simp [go_sem]) fun F5 => ?_
    refine lyp F5 rfl HCC rfl (by omega) (wanted_none rfl) (v := Value.int .i64 s) (fun wr hwr => by simp only [execOp, (F5.eval 1 (by omega)).trans (show _ = Value.int .i64 s from by simp [upd, e0, e1])]; first | rfl | simp [go_sem]) fun F6 => ?_
    refine lcp F6 rfl HCC rfl (by omega) (wanted_none rfl) (g := 20) (args := #[Value.pointer (some ⟨a.cb, 0, none⟩), Value.int .i64 s]) (by simp only [execOp, resolve, invoke, List.map_toArray, List.map_cons, List.map_nil, (F6.eval 12 (by omega)).trans (show _ = Value.pointer (some ⟨a.cb, 0, none⟩) from by simp [upd, e0, e1]), (F6.eval 13 (by omega)).trans (show _ = Value.int .i64 s from by simp [upd, e0, e1])]; simp [go_sem, Act.eval]) (seatOf_any s _ (HT.out.more HCC) HS.out) ?_
    rintro e w1 ⟨rfl, hw1⟩
    have HC1 : (fun wq => Below w.heap.size w wq) w1 := HCC.trans (hw1.mono HCC.size)
    refine ⟨_, rfl, fun F7 => ?_⟩
    refine lyp F7 rfl HC1 rfl (by omega) (wanted_none rfl) (v := Value.tuple #[.pointer none, .bool false]) (fun wr hwr => by simp only [execOp, (F7.eval 11 (by omega)).trans (show _ = Value.map (some a.ms) from by simp [upd, e0, e1]), (F7.eval 14 (by omega)).trans (show _ = callV (Int.tmod s a.rep, Int.tdiv s a.rep) from by simp [upd, e0, e1])]; simp [go_sem, HLK.out wr (HT.out.more hwr)]) fun F8 => ?_
    refine lyp F8 rfl HC1 rfl (by omega) (wanted_none rfl) (v := Value.tuple #[.pointer none, .bool false]) (fun wr hwr => by simp only [execOp, (F8.eval 15 (by omega)).trans (show _ = Value.tuple #[.pointer none, .bool false] from by simp [upd, e0, e1])]; first | rfl | simp [go_sem]) fun F9 => ?_
    refine lyp F9 rfl HC1 rfl (by omega) (wanted_none rfl) (v := Value.pointer none) (fun wr hwr => by simp only [execOp, (F9.eval 7 (by omega)).trans (show _ = Value.tuple #[.pointer none, .bool false] from by simp [upd, e0, e1])]; simp [go_sem]) fun F10 => ?_
    refine lyp F10 rfl HC1 rfl (by omega) (wanted_none rfl) (v := Value.bool false) (fun wr hwr => by simp only [execOp, (F10.eval 7 (by omega)).trans (show _ = Value.tuple #[.pointer none, .bool false] from by simp [upd, e0, e1])]; simp [go_sem]) fun F11 => ?_
    refine lyp F11 rfl HC1 rfl (by omega) (wanted_none rfl) (v := Value.pointer none) (fun wr hwr => by simp only [execOp, (F11.eval 16 (by omega)).trans (show _ = Value.pointer none from by simp [upd, e0, e1])]; first | rfl | simp [go_sem]) fun F12 => ?_
    refine lyp F12 rfl HC1 rfl (by omega) (wanted_none rfl) (v := Value.bool false) (fun wr hwr => by simp only [execOp, (F12.eval 17 (by omega)).trans (show _ = Value.bool false from by simp [upd, e0, e1])]; first | rfl | simp [go_sem]) fun F13 => ?_
    refine ⟨fun _ => HC1, ?_⟩
    refine hK _ _ ?_
    clear F0 F1 F2 F3 F4 F5 F6 F7 F8 F9 F10 F11 F12 F13 e0 e1 HCC VH
    simp only [Act.put, List.setIfInBounds_toArray, List.set_cons_succ, List.set_cons_zero]
    have HB1 : Hid _ := HC1
    clear HC1 hw1
    go_wp2_with fail
    go_ret
    exact ⟨rfl, HB1.out⟩
end Go.Proofs.Ytadfmnlkfcigoaa
