import Derived.Test.YtbjlaloofpdbfaaKp
namespace Go.Proofs.Ytbjlaloofpdbfaa
open Go.RowKit Go.PlainAid Go.MapKept
set_option linter.unusedVariables false
set_option linter.unusedSimpArgs false
theorem zero39 (w : World) : (zeroValue 39).run Try.prog w = .ok (.agg #[.int .i64 0, .string ⟨#[]⟩, .int .i64 0, .int .i64 0]) w := by kernel_rfl
def askCode (WT : List ((Int × Int) × OpA)) (c : Int × Int) (o : OpA) : Int := if nameB o.n = false then 1 else if (look c WT).isSome = true then 133 else 0
def askNext (WT : List ((Int × Int) × OpA)) (c : Int × Int) (o : OpA) : List ((Int × Int) × OpA) := if askCode WT c o = 0 then WT ++ [(c, o)] else WT
def zop : OpA := ⟨0, [], 0, 0⟩
theorem not_waits {c : Int × Int} {WT : List ((Int × Int) × OpA)} (h : (look c WT).isSome = false) : ∀ p ∈ WT, c ≠ p.1 := by
  unfold look at h
  intro p hp e
  have h2 : WT.find? (fun p => decide (c = p.1)) = none := by
    cases hf : WT.find? (fun p => decide (c = p.1)) with
    | none => rfl
    | some x => rw [hf] at h; cases h
  have := List.find?_eq_none.1 h2 p hp
  simp [e] at this
set_option maxRecDepth 100000 in
set_option maxHeartbeats 1600000 in
theorem ask_any {hb mh mw : Nat} {me rep per : Int} {KN : List (List UInt8 × Int)} {WT : List ((Int × Int) × OpA)} (c : Int × Int) (o : OpA) (w : World) (hT : Tb hb mh mw me rep per KN WT w) (hl : o.n.length ≤ 140737488355328) :
    Calls Try.prog 19 #[.pointer (some ⟨hb, 0, none⟩), callV c, opV o] w fun q w' => q = .returned (.int .i64 (askCode WT c o)) ∧ Tb hb mh mw me rep per KN (askNext WT c o) w' ∧ Chg (fun k => k = mw) w w' := by
  obtain ⟨cs, ci⟩ := c
  obtain ⟨k, n, a, b⟩ := o
  simp only at hl
  have HG : Hid (∀ w, _) := fun w => good_any n w (by omega)
  have HCLN : Hid (∀ w, _) := fun w => clone_any n w (by omega)
  have HLK0 : Hid (∀ wr, Tb hb mh mw me rep per KN WT wr → (Instr.lookup 70 (.map (some mw)) (.agg #[.int .i64 cs, .int .i64 ci]) true).run Try.prog wr = .ok (.tuple #[opV ((look (cs, ci) WT).getD zop), .bool (look (cs, ci) WT).isSome]) wr) := fun wr h => h.wm.look_ok (cs, ci) true
  unfold callV opV
  simp only
  obtain ⟨X, hX⟩ : ∃ X, X = (w.alloc (.cells #[.int .i64 cs, .int .i64 ci] 37)).alloc (.cells #[.int .i64 k, .string ⟨n.toArray⟩, .int .i64 a, .int .i64 b] 39) := ⟨_, rfl⟩
  have hb1 : Below w.heap.size w (w.alloc (.cells #[.int .i64 cs, .int .i64 ci] 37)) := (Below.refl _ _).alloc (Nat.le_refl _) _
  have hbX : Below w.heap.size w X := by rw [hX]; exact hb1.alloc hb1.size _
  have hCB : Blk X w.heap.size #[.int .i64 cs, .int .i64 ci] 37 := by
    rw [hX]
    exact Blk.below (heap_alloc_new w _) ((Below.refl _ _).alloc (Nat.le_refl _) _) (by simp)
  have hOB : Blk X (w.heap.size + 1) #[.int .i64 k, .string ⟨n.toArray⟩, .int .i64 a, .int .i64 b] 39 := by
    rw [hX]
    have := heap_alloc_new (w.alloc (.cells #[.int .i64 cs, .int .i64 ci] 37)) (.cells #[.int .i64 k, .string ⟨n.toArray⟩, .int .i64 a, .int .i64 b] 39)
    rw [World.size_alloc] at this
    exact this
  have HT : Hid _ := hT.more hbX
  have HBX : Hid _ := hbX
  have HTW : Hid _ := hT
  obtain ⟨cb, hcb⟩ : ∃ cb, cb = w.heap.size := ⟨_, rfl⟩
  obtain ⟨ob, hob⟩ : ∃ ob, ob = w.heap.size + 1 := ⟨_, rfl⟩
  have HCB : Hid (Blk X cb #[.int .i64 cs, .int .i64 ci] 37) := show Blk X cb #[.int .i64 cs, .int .i64 ci] 37 from by rw [hcb]; exact hCB
  have HOB : Hid (Blk X ob #[.int .i64 k, .string ⟨n.toArray⟩, .int .i64 a, .int .i64 b] 39) := show Blk X ob #[.int .i64 k, .string ⟨n.toArray⟩, .int .i64 a, .int .i64 b] 39 from by rw [hob]; exact hOB
  have HCW : Hid (w.heap.size ≤ cb ∧ w.heap.size ≤ ob) := ⟨by omega, by omega⟩
  have o1 : X.cell? ⟨ob, 1, none⟩ = some (.string ⟨n.toArray⟩) := HOB.out.cell 1
  clear hb1 hbX hCB hOB hT
  unfold askNext
  by_cases g1 : nameB n = false
  · have hc : askCode WT (cs, ci) ⟨k, n, a, b⟩ = 1 := by unfold askCode; rw [if_pos g1]
    rw [hc, if_neg (by decide)]
    clear hc
    go_enter Try.func19, Try.ntmps19
    go_wp2_with fail
    rw [← hX, ← hob, ← hcb]
    clear hX hob hcb
    refine Calls.mono (HG.out _) ?_
    rintro e w' ⟨rfl, hw'⟩
    replace hw' := hw'.symm
    subst hw'
    rw [g1]
    clear o1
    go_wp2_with fail
    go_ret
    exact ⟨rfl, HT.out, Chg.ofBelow _ HBX.out⟩
  have g1t : nameB n = true := by simpa using g1
  by_cases g2 : (look (cs, ci) WT).isSome = true
  · have hc : askCode WT (cs, ci) ⟨k, n, a, b⟩ = 133 := by unfold askCode; rw [if_neg g1, if_pos g2]
    rw [hc, if_neg (by decide)]
    obtain ⟨l0, hl0⟩ : ∃ l0, l0 = (look (cs, ci) WT).getD zop := ⟨_, rfl⟩
    have HLK : Hid (∀ wr, Tb hb mh mw me rep per KN WT wr → (Instr.lookup 70 (.map (some mw)) (.agg #[.int .i64 cs, .int .i64 ci]) true).run Try.prog wr = .ok (.tuple #[.agg #[.int .i64 l0.k, .string ⟨l0.n.toArray⟩, .int .i64 l0.a, .int .i64 l0.b], .bool true]) wr) := fun wr h => by
      have := HLK0.out wr h
      rw [g2, ← hl0] at this
      exact this
    clear hc g1 g2 hl0
    go_enter Try.func19, Try.ntmps19
    go_wp2_with fail
    rw [← hX, ← hob, ← hcb]
    clear hX hob hcb
    refine Calls.mono (HG.out _) ?_
    rintro e w' ⟨rfl, hw'⟩
    replace hw' := hw'.symm
    subst hw'
    rw [g1t]
    clear o1
    go_wp2_with fail
    rename_i K hK
    try rw [show ∀ a : Act, a.put none undef = a from fun _ => rfl]
    refine wp_region_mix (fun wq => Below X.heap.size X wq) (fun i => i == 9 || i == 10 || i == 99) 99 (by kernel_rfl) rfl (by kernel_rfl) (by kernel_rfl) (by kernel_rfl) ?_
    refine withFrP (N := 33) rfl ?_
    intro f0 F0 hff
    have e0 : f0 0 = Value.pointer (some ⟨hb, 0, none⟩) := hff 0
    have ec : f0 4 = Value.pointer (some ⟨cb, 0, none⟩) := hff 4
    clear hff
    have HCC : (fun wq => Below X.heap.size X wq) (({ X with drawn := X.drawn + 1 } : World)) := (Below.drew (Below.refl X.heap.size X))
    have VH : ∀ wr, Below X.heap.size X wr → wr.cell? ⟨hb, 4, none⟩ = some (.map (some mw)) := fun wr hw => (hw.cell (p := ⟨hb, 4, none⟩) (World.block_lt_of_cell? X _ HT.out.c4)).trans HT.out.c4
    have V0 : ∀ wr, Below X.heap.size X wr → wr.cell? ⟨cb, 0, none⟩ = some (.int .i64 cs) := fun wr hw => (Blk.below HCB.out hw (Blk.lt HCB.out)).cell 0
    have V1 : ∀ wr, Below X.heap.size X wr → wr.cell? ⟨cb, 1, none⟩ = some (.int .i64 ci) := fun wr hw => (Blk.below HCB.out hw (Blk.lt HCB.out)).cell 1
    have VL : ∀ wr, Below X.heap.size X wr → (Instr.lookup 70 (.map (some mw)) (.agg #[.int .i64 cs, .int .i64 ci]) true).run Try.prog wr = .ok (.tuple #[.agg #[.int .i64 l0.k, .string ⟨l0.n.toArray⟩, .int .i64 l0.a, .int .i64 l0.b], .bool true]) wr := fun wr hw => HLK.out wr (HT.out.more hw)
    have HC2 : (fun wq => Below X.heap.size X wq) (({ X with drawn := X.drawn + 1 } : World).alloc (.cells #[.int .i64 0, .string ⟨#[]⟩, .int .i64 0, .int .i64 0] 39)) := HCC.alloc (Nat.le_refl _) _
    have HC3 : (fun wq => Below X.heap.size X wq) (({ X with drawn := X.drawn + 1 } : World).alloc (.cells #[.int .i64 l0.k, .string ⟨l0.n.toArray⟩, .int .i64 l0.a, .int .i64 l0.b] 39)) := HCC.alloc (Nat.le_refl _) _
    refine lyp F0 rfl HCC rfl (by omega) (wanted_none rfl) (v := Value.pointer (some ⟨hb, 0, none⟩)) (fun wr hwr => by simp only [execOp, (F0.eval 0 (by omega)).trans (show _ = Value.pointer (some ⟨hb, 0, none⟩) from by simp [upd, e0, ec])]; first | rfl | simp [go_sem]) fun F1 => ?_
    refine lyp F1 rfl HCC rfl (by omega) (wanted_none rfl) (v := Value.pointer (some ⟨hb, 0, none⟩)) (fun wr hwr => by simp only [execOp, (F1.eval 14 (by omega)).trans (show _ = Value.pointer (some ⟨hb, 0, none⟩) from by simp [upd, e0, ec])]; simp [go_sem]) fun F2 => ?_
    refine lyp F2 rfl HCC rfl (by omega) (wanted_none rfl) (v := Value.pointer (some ⟨hb, 4, none⟩)) (fun wr hwr => by simp only [execOp, (F2.eval 15 (by omega)).trans (show _ = Value.pointer (some ⟨hb, 0, none⟩) from by simp [upd, e0, ec])]; simp [go_sem]) fun F3 => ?_
    refine lyp F3 rfl HCC rfl (by omega) (wanted_none rfl) (v := Value.map (some mw)) (fun wr hwr => by simp only [execOp, (F3.eval 16 (by omega)).trans (show _ = Value.pointer (some ⟨hb, 4, none⟩) from by simp [upd, e0, ec])]; simp [go_sem, VH wr hwr]) fun F4 => ?_
    refine lyp F4 rfl HCC rfl (by omega) (wanted_none rfl) (v := Value.agg #[.int .i64 cs, .int .i64 ci]) (fun wr hwr => by simp only [execOp, (F4.eval 4 (by omega)).trans (show _ = Value.pointer (some ⟨cb, 0, none⟩) from by simp [upd, e0, ec])]; simp [go_sem, V0 wr hwr, V1 wr hwr]) fun F5 => ?_
    refine lyp F5 rfl HCC rfl (by omega) (wanted_none rfl) (v := Value.tuple #[.agg #[.int .i64 l0.k, .string ⟨l0.n.toArray⟩, .int .i64 l0.a, .int .i64 l0.b], .bool true]) (fun wr hwr => by simp only [execOp, (F5.eval 17 (by omega)).trans (show _ = Value.map (some mw) from by simp [upd, e0, ec]), (F5.eval 18 (by omega)).trans (show _ = Value.agg #[.int .i64 cs, .int .i64 ci] from by simp [upd, e0, ec])]; simp [go_sem, VL wr hwr]) fun F6 => ?_
    refine lyp F6 rfl HCC rfl (by omega) (wanted_none rfl) (v := Value.tuple #[.agg #[.int .i64 l0.k, .string ⟨l0.n.toArray⟩, .int .i64 l0.a, .int .i64 l0.b], .bool true]) (fun wr hwr => by simp only [execOp, (F6.eval 19 (by omega)).trans (show _ = Value.tuple #[.agg #[.int .i64 l0.k, .string ⟨l0.n.toArray⟩, .int .i64 l0.a, .int .i64 l0.b], .bool true] from by simp [upd, e0, ec])]; first | rfl | simp [go_sem]) fun F7 => ?_
    refine lyp F7 rfl HCC rfl (by omega) (wanted_none rfl) (v := Value.agg #[.int .i64 l0.k, .string ⟨l0.n.toArray⟩, .int .i64 l0.a, .int .i64 l0.b]) (fun wr hwr => by simp only [execOp, (F7.eval 13 (by omega)).trans (show _ = Value.tuple #[.agg #[.int .i64 l0.k, .string ⟨l0.n.toArray⟩, .int .i64 l0.a, .int .i64 l0.b], .bool true] from by simp [upd, e0, ec])]; simp [go_sem]) fun F8 => ?_
    refine lyp F8 rfl HCC rfl (by omega) (wanted_none rfl) (v := Value.bool true) (fun wr hwr => by simp only [execOp, (F8.eval 13 (by omega)).trans (show _ = Value.tuple #[.agg #[.int .i64 l0.k, .string ⟨l0.n.toArray⟩, .int .i64 l0.a, .int .i64 l0.b], .bool true] from by simp [upd, e0, ec])]; simp [go_sem]) fun F9 => ?_
    refine lep F9 rfl HCC rfl (by omega) (wanted_none rfl) (v := Value.pointer (some ⟨X.heap.size, 0, none⟩)) (w1 := ({ X with drawn := X.drawn + 1 } : World).alloc (.cells #[.int .i64 0, .string ⟨#[]⟩, .int .i64 0, .int .i64 0] 39)) (by simp only [execOp]; simp [go_sem, zero39]) fun F10 => ?_
    refine lst rfl HC2 rfl (wanted_none rfl) (w1 := ({ X with drawn := X.drawn + 1 } : World).alloc (.cells #[.int .i64 l0.k, .string ⟨l0.n.toArray⟩, .int .i64 l0.a, .int .i64 l0.b] 39)) (by simp only [execOp, (F10.eval 7 (by omega)).trans (show _ = Value.pointer (some ⟨X.heap.size, 0, none⟩) from by simp [upd, e0, ec]), (F10.eval 20 (by omega)).trans (show _ = Value.agg #[.int .i64 l0.k, .string ⟨l0.n.toArray⟩, .int .i64 l0.a, .int .i64 l0.b] from by simp [upd, e0, ec])]; simp [go_sem]) ?_
    refine lyp F10 rfl HC3 rfl (by omega) (wanted_none rfl) (v := Value.bool true) (fun wr hwr => by simp only [execOp, (F10.eval 21 (by omega)).trans (show _ = Value.bool true from by simp [upd, e0, ec])]; first | rfl | simp [go_sem]) fun F11 => ?_
    refine ⟨fun _ => HC3, ?_⟩
    refine hK _ _ ?_
    clear F0 F1 F2 F3 F4 F5 F6 F7 F8 F9 F10 F11 e0 ec HCC
    simp only [Act.put, List.setIfInBounds_toArray, List.set_cons_succ, List.set_cons_zero]

    have HTF : Hid _ := HT.out.more HC3
    have HCF : Hid (Chg (fun k => k = mw) w (({ X with drawn := X.drawn + 1 } : World).alloc (.cells #[.int .i64 l0.k, .string ⟨l0.n.toArray⟩, .int .i64 l0.a, .int .i64 l0.b] 39))) := Chg.ofBelow _ (HBX.out.trans (HC3.mono HBX.out.size))
    clear HC3 HC2 VL V0 V1 VH
    go_wp2_with fail
    go_ret
    exact ⟨rfl, HTF.out, HCF.out⟩
  have g2f : (look (cs, ci) WT).isSome = false := by simpa using g2
  have hc : askCode WT (cs, ci) ⟨k, n, a, b⟩ = 0 := by unfold askCode; rw [if_neg g1, if_neg g2]
  rw [hc, if_pos rfl]
  have HNK : Hid _ := not_waits g2f
  obtain ⟨l0, hl0⟩ : ∃ l0, l0 = (look (cs, ci) WT).getD zop := ⟨_, rfl⟩
  have HLK : Hid (∀ wr, Tb hb mh mw me rep per KN WT wr → (Instr.lookup 70 (.map (some mw)) (.agg #[.int .i64 cs, .int .i64 ci]) true).run Try.prog wr = .ok (.tuple #[.agg #[.int .i64 l0.k, .string ⟨l0.n.toArray⟩, .int .i64 l0.a, .int .i64 l0.b], .bool false]) wr) := fun wr h => by
    have := HLK0.out wr h
    rw [g2f, ← hl0] at this
    exact this
  clear hc g1 g2 g2f hl0
  go_enter Try.func19, Try.ntmps19
  go_wp2_with fail
  rw [← hX, ← hob, ← hcb]
  clear hX hob hcb
  refine Calls.mono (HG.out _) ?_
  rintro e w' ⟨rfl, hw'⟩
  replace hw' := hw'.symm
  subst hw'
  rw [g1t]
  clear o1
  go_wp2_with fail
  rename_i K hK
  try rw [show ∀ a : Act, a.put none undef = a from fun _ => rfl]
  refine wp_region_mix (fun wq => Below X.heap.size X wq) (fun i => i == 9 || i == 10 || i == 99) 99 (by kernel_rfl) rfl (by kernel_rfl) (by kernel_rfl) (by kernel_rfl) ?_
  refine withFrP (N := 33) rfl ?_
  intro f0 F0 hff
  have e0 : f0 0 = Value.pointer (some ⟨hb, 0, none⟩) := hff 0
  have ec : f0 4 = Value.pointer (some ⟨cb, 0, none⟩) := hff 4
  clear hff
  have HCC : (fun wq => Below X.heap.size X wq) (({ X with drawn := X.drawn + 1 } : World)) := (Below.drew (Below.refl X.heap.size X))
  have VH : ∀ wr, Below X.heap.size X wr → wr.cell? ⟨hb, 4, none⟩ = some (.map (some mw)) := fun wr hw => (hw.cell (p := ⟨hb, 4, none⟩) (World.block_lt_of_cell? X _ HT.out.c4)).trans HT.out.c4
  have V0 : ∀ wr, Below X.heap.size X wr → wr.cell? ⟨cb, 0, none⟩ = some (.int .i64 cs) := fun wr hw => (Blk.below HCB.out hw (Blk.lt HCB.out)).cell 0
  have V1 : ∀ wr, Below X.heap.size X wr → wr.cell? ⟨cb, 1, none⟩ = some (.int .i64 ci) := fun wr hw => (Blk.below HCB.out hw (Blk.lt HCB.out)).cell 1
  have VL : ∀ wr, Below X.heap.size X wr → (Instr.lookup 70 (.map (some mw)) (.agg #[.int .i64 cs, .int .i64 ci]) true).run Try.prog wr = .ok (.tuple #[.agg #[.int .i64 l0.k, .string ⟨l0.n.toArray⟩, .int .i64 l0.a, .int .i64 l0.b], .bool false]) wr := fun wr hw => HLK.out wr (HT.out.more hw)
  have HC2 : (fun wq => Below X.heap.size X wq) (({ X with drawn := X.drawn + 1 } : World).alloc (.cells #[.int .i64 0, .string ⟨#[]⟩, .int .i64 0, .int .i64 0] 39)) := HCC.alloc (Nat.le_refl _) _
  have HC3 : (fun wq => Below X.heap.size X wq) (({ X with drawn := X.drawn + 1 } : World).alloc (.cells #[.int .i64 l0.k, .string ⟨l0.n.toArray⟩, .int .i64 l0.a, .int .i64 l0.b] 39)) := HCC.alloc (Nat.le_refl _) _
  refine lyp F0 rfl HCC rfl (by omega) (wanted_none rfl) (v := Value.pointer (some ⟨hb, 0, none⟩)) (fun wr hwr => by simp only [execOp, (F0.eval 0 (by omega)).trans (show _ = Value.pointer (some ⟨hb, 0, none⟩) from by simp [upd, e0, ec])]; first | rfl | simp [go_sem]) fun F1 => ?_
  refine lyp F1 rfl HCC rfl (by omega) (wanted_none rfl) (v := Value.pointer (some ⟨hb, 0, none⟩)) (fun wr hwr => by simp only [execOp, (F1.eval 14 (by omega)).trans (show _ = Value.pointer (some ⟨hb, 0, none⟩) from by simp [upd, e0, ec])]; simp [go_sem]) fun F2 => ?_
  refine lyp F2 rfl HCC rfl (by omega) (wanted_none rfl) (v := Value.pointer (some ⟨hb, 4, none⟩)) (fun wr hwr => by simp only [execOp, (F2.eval 15 (by omega)).trans (show _ = Value.pointer (some ⟨hb, 0, none⟩) from by simp [upd, e0, ec])]; simp [go_sem]) fun F3 => ?_
  refine lyp F3 rfl HCC rfl (by omega) (wanted_none rfl) (v := Value.map (some mw)) (fun wr hwr => by simp only [execOp, (F3.eval 16 (by omega)).trans (show _ = Value.pointer (some ⟨hb, 4, none⟩) from by simp [upd, e0, ec])]; simp [go_sem, VH wr hwr]) fun F4 => ?_
  refine lyp F4 rfl HCC rfl (by omega) (wanted_none rfl) (v := Value.agg #[.int .i64 cs, .int .i64 ci]) (fun wr hwr => by simp only [execOp, (F4.eval 4 (by omega)).trans (show _ = Value.pointer (some ⟨cb, 0, none⟩) from by simp [upd, e0, ec])]; simp [go_sem, V0 wr hwr, V1 wr hwr]) fun F5 => ?_
  refine lyp F5 rfl HCC rfl (by omega) (wanted_none rfl) (v := Value.tuple #[.agg #[.int .i64 l0.k, .string ⟨l0.n.toArray⟩, .int .i64 l0.a, .int .i64 l0.b], .bool false]) (fun wr hwr => by simp only [execOp, (F5.eval 17 (by omega)).trans (show _ = Value.map (some mw) from by simp [upd, e0, ec]), (F5.eval 18 (by omega)).trans (show _ = Value.agg #[.int .i64 cs, .int .i64 ci] from by simp [upd, e0, ec])]; simp [go_sem, VL wr hwr]) fun F6 => ?_
  refine lyp F6 rfl HCC rfl (by omega) (wanted_none rfl) (v := Value.tuple #[.agg #[.int .i64 l0.k, .string ⟨l0.n.toArray⟩, .int .i64 l0.a, .int .i64 l0.b], .bool false]) (fun wr hwr => by simp only [execOp, (F6.eval 19 (by omega)).trans (show _ = Value.tuple #[.agg #[.int .i64 l0.k, .string ⟨l0.n.toArray⟩, .int .i64 l0.a, .int .i64 l0.b], .bool false] from by simp [upd, e0, ec])]; first | rfl | simp [go_sem]) fun F7 => ?_
  refine lyp F7 rfl HCC rfl (by omega) (wanted_none rfl) (v := Value.agg #[.int .i64 l0.k, .string ⟨l0.n.toArray⟩, .int .i64 l0.a, .int .i64 l0.b]) (fun wr hwr => by simp only [execOp, (F7.eval 13 (by omega)).trans (show _ = Value.tuple #[.agg #[.int .i64 l0.k, .string ⟨l0.n.toArray⟩, .int .i64 l0.a, .int .i64 l0.b], .bool false] from by simp [upd, e0, ec])]; simp [go_sem]) fun F8 => ?_
  refine lyp F8 rfl HCC rfl (by omega) (wanted_none rfl) (v := Value.bool false) (fun wr hwr => by simp only [execOp, (F8.eval 13 (by omega)).trans (show _ = Value.tuple #[.agg #[.int .i64 l0.k, .string ⟨l0.n.toArray⟩, .int .i64 l0.a, .int .i64 l0.b], .bool false] from by simp [upd, e0, ec])]; simp [go_sem]) fun F9 => ?_
  refine lep F9 rfl HCC rfl (by omega) (wanted_none rfl) (v := Value.pointer (some ⟨X.heap.size, 0, none⟩)) (w1 := ({ X with drawn := X.drawn + 1 } : World).alloc (.cells #[.int .i64 0, .string ⟨#[]⟩, .int .i64 0, .int .i64 0] 39)) (by simp only [execOp]; simp [go_sem, zero39]) fun F10 => ?_
  refine lst rfl HC2 rfl (wanted_none rfl) (w1 := ({ X with drawn := X.drawn + 1 } : World).alloc (.cells #[.int .i64 l0.k, .string ⟨l0.n.toArray⟩, .int .i64 l0.a, .int .i64 l0.b] 39)) (by simp only [execOp, (F10.eval 7 (by omega)).trans (show _ = Value.pointer (some ⟨X.heap.size, 0, none⟩) from by simp [upd, e0, ec]), (F10.eval 20 (by omega)).trans (show _ = Value.agg #[.int .i64 l0.k, .string ⟨l0.n.toArray⟩, .int .i64 l0.a, .int .i64 l0.b] from by simp [upd, e0, ec])]; simp [go_sem]) ?_
  refine lyp F10 rfl HC3 rfl (by omega) (wanted_none rfl) (v := Value.bool false) (fun wr hwr => by simp only [execOp, (F10.eval 21 (by omega)).trans (show _ = Value.bool false from by simp [upd, e0, ec])]; first | rfl | simp [go_sem]) fun F11 => ?_
  refine ⟨fun _ => HC3, ?_⟩
  refine hK _ _ ?_
  clear F0 F1 F2 F3 F4 F5 F6 F7 F8 F9 F10 F11 e0 ec HCC
  simp only [Act.put, List.setIfInBounds_toArray, List.set_cons_succ, List.set_cons_zero]

  obtain ⟨X2, hX2⟩ : ∃ X2, X2 = ({ X with drawn := X.drawn + 1 } : World).alloc (.cells #[.int .i64 l0.k, .string ⟨l0.n.toArray⟩, .int .i64 l0.a, .int .i64 l0.b] 39) := ⟨_, rfl⟩
  rw [← hX2] at HC3 ⊢
  have hTF := HT.out.more HC3
  have hO2 : Blk X2 ob #[.int .i64 k, .string ⟨n.toArray⟩, .int .i64 a, .int .i64 b] 39 := Blk.below HOB.out HC3 (Blk.lt HOB.out)
  have hC2 : Blk X2 cb #[.int .i64 cs, .int .i64 ci] 37 := Blk.below HCB.out HC3 (Blk.lt HCB.out)
  have HBF : Hid (Below w.heap.size w X2) := HBX.out.trans (HC3.mono HBX.out.size)
  have o1 : X2.cell? ⟨ob, 1, none⟩ = some (.string ⟨n.toArray⟩) := hO2.cell 1
  have HTF : Hid _ := hTF
  have HO2 : Hid _ := hO2
  have HC2b : Hid _ := hC2
  clear HC3 HC2 VL V0 V1 VH hX2 hTF hO2 hC2
  go_wp2_with fail
  refine Calls.mono (HCLN.out _) ?_
  rintro e w3 ⟨rfl, hb3⟩
  have hO3 : Blk w3 ob #[.int .i64 k, .string ⟨n.toArray⟩, .int .i64 a, .int .i64 b] 39 := Blk.below HO2.out hb3 (Blk.lt HO2.out)
  have f3 := hO3.frozen 1
  have q3 : w3.cell? ⟨ob, 1, none⟩ = some (.string ⟨n.toArray⟩) := hO3.cell 1
  obtain ⟨Y, hY⟩ : ∃ Y, Y = w3.setCell ⟨ob, 1, none⟩ (.string ⟨n.toArray⟩) := ⟨_, rfl⟩
  have hs : Chg (fun b => b = ob) w3 Y := by rw [hY]; exact ⟨rfl, rfl, rfl, by simp [World.setCell], fun j hj hn => Below.heap_setCell _ _ _ _ hn⟩
  have hT3 := HTF.out.more hb3
  have HTY : Hid (Tb hb mh mw me rep per KN WT Y) := hT3.keep hs (hT3.blk.ne_t hO3 (by decide)) (fun e => hT3.hm.ne_b hO3 e.symm) (fun e => hT3.wm.ne_b hO3 e.symm)
  have HOY : Hid (Blk Y ob #[.int .i64 k, .string ⟨n.toArray⟩, .int .i64 a, .int .i64 b] 39) := show Blk Y ob #[.int .i64 k, .string ⟨n.toArray⟩, .int .i64 a, .int .i64 b] 39 from by rw [hY]; exact hO3.set 1 (.string ⟨n.toArray⟩)
  have hC3 : Blk w3 cb #[.int .i64 cs, .int .i64 ci] 37 := Blk.below HC2b.out hb3 (Blk.lt HC2b.out)
  have HCY : Hid (Blk Y cb #[.int .i64 cs, .int .i64 ci] 37) := hs.blk hC3 (hC3.ne_t hO3 (by decide))
  have HBY : Hid (Below w.heap.size w Y) := (HBF.out.trans (hb3.mono HBF.out.size)).trans (hs.below (Nat.le_trans HBF.out.size hb3.size) (fun k e => by rw [e]; exact HCW.out.2))
  clear hb3 hO3 hs hT3 hC3 o1
  go_wp2_with fail
  rw [← hY]
  clear hY f3 q3
  try rw [show ∀ a : Act, a.put none undef = a from fun _ => rfl]
  refine wp_region_mix (fun wq => wq.cell? ⟨hb, 4, none⟩ = some (.map (some mw)) ∧ (wq.cell? ⟨cb, 0, none⟩ = some (.int .i64 cs) ∧ wq.cell? ⟨cb, 1, none⟩ = some (.int .i64 ci)) ∧ (wq.cell? ⟨ob, 0, none⟩ = some (.int .i64 k) ∧ wq.cell? ⟨ob, 1, none⟩ = some (.string ⟨n.toArray⟩) ∧ wq.cell? ⟨ob, 2, none⟩ = some (.int .i64 a) ∧ wq.cell? ⟨ob, 3, none⟩ = some (.int .i64 b))) (fun i => i == 6) 6 (by kernel_rfl) rfl (by kernel_rfl) (by kernel_rfl) (by kernel_rfl) ?_
  refine withFrP (N := 33) rfl ?_
  intro f0 F0 hff
  have e0 : f0 0 = Value.pointer (some ⟨hb, 0, none⟩) := hff 0
  have ec : f0 4 = Value.pointer (some ⟨cb, 0, none⟩) := hff 4
  have eo : f0 5 = Value.pointer (some ⟨ob, 0, none⟩) := hff 5
  clear hff
  have HCC : (fun wq => wq.cell? ⟨hb, 4, none⟩ = some (.map (some mw)) ∧ (wq.cell? ⟨cb, 0, none⟩ = some (.int .i64 cs) ∧ wq.cell? ⟨cb, 1, none⟩ = some (.int .i64 ci)) ∧ (wq.cell? ⟨ob, 0, none⟩ = some (.int .i64 k) ∧ wq.cell? ⟨ob, 1, none⟩ = some (.string ⟨n.toArray⟩) ∧ wq.cell? ⟨ob, 2, none⟩ = some (.int .i64 a) ∧ wq.cell? ⟨ob, 3, none⟩ = some (.int .i64 b))) (({ Y with drawn := Y.drawn + 1 } : World)) := ⟨HTY.out.c4, ⟨HCY.out.cell 0, HCY.out.cell 1⟩, HOY.out.cell 0, HOY.out.cell 1, HOY.out.cell 2, HOY.out.cell 3⟩
  obtain ⟨w4, hrun, hm4, hc4, hs4⟩ := HMap.put (w := ({ Y with drawn := Y.drawn + 1 } : World)) (HTY.out.wm.same rfl) (cs, ci) ⟨k, n, a, b⟩ HNK.out
  replace hrun : (Instr.mapUpdate 70 (.map (some mw)) (.agg #[.int .i64 cs, .int .i64 ci]) (.agg #[.int .i64 k, .string ⟨n.toArray⟩, .int .i64 a, .int .i64 b])).run Try.prog ({ Y with drawn := Y.drawn + 1 } : World) = .ok () w4 := hrun
  refine lyp F0 rfl HCC rfl (by omega) (wanted_none rfl) (v := Value.pointer (some ⟨hb, 0, none⟩)) (fun wr hwr => by simp only [execOp, (F0.eval 0 (by omega)).trans (show _ = Value.pointer (some ⟨hb, 0, none⟩) from by simp [upd, e0, ec, eo])]; first | rfl | simp [go_sem]) fun F1 => ?_
  refine lyp F1 rfl HCC rfl (by omega) (wanted_none rfl) (v := Value.pointer (some ⟨hb, 0, none⟩)) (fun wr hwr => by simp only [execOp, (F1.eval 27 (by omega)).trans (show _ = Value.pointer (some ⟨hb, 0, none⟩) from by simp [upd, e0, ec, eo])]; simp [go_sem]) fun F2 => ?_
  refine lyp F2 rfl HCC rfl (by omega) (wanted_none rfl) (v := Value.pointer (some ⟨hb, 4, none⟩)) (fun wr hwr => by simp only [execOp, (F2.eval 28 (by omega)).trans (show _ = Value.pointer (some ⟨hb, 0, none⟩) from by simp [upd, e0, ec, eo])]; simp [go_sem]) fun F3 => ?_
  refine lyp F3 rfl HCC rfl (by omega) (wanted_none rfl) (v := Value.map (some mw)) (fun wr hwr => by simp only [execOp, (F3.eval 29 (by omega)).trans (show _ = Value.pointer (some ⟨hb, 4, none⟩) from by simp [upd, e0, ec, eo])]; simp [go_sem, hwr.1]) fun F4 => ?_
  refine lyp F4 rfl HCC rfl (by omega) (wanted_none rfl) (v := Value.agg #[.int .i64 cs, .int .i64 ci]) (fun wr hwr => by simp only [execOp, (F4.eval 4 (by omega)).trans (show _ = Value.pointer (some ⟨cb, 0, none⟩) from by simp [upd, e0, ec, eo])]; simp [go_sem, hwr.2.1.1, hwr.2.1.2]) fun F5 => ?_
  refine lyp F5 rfl HCC rfl (by omega) (wanted_none rfl) (v := Value.agg #[.int .i64 k, .string ⟨n.toArray⟩, .int .i64 a, .int .i64 b]) (fun wr hwr => by simp only [execOp, (F5.eval 5 (by omega)).trans (show _ = Value.pointer (some ⟨ob, 0, none⟩) from by simp [upd, e0, ec, eo])]; simp [go_sem, hwr.2.2.1, hwr.2.2.2.1, hwr.2.2.2.2.1, hwr.2.2.2.2.2]) fun F6 => ?_
  refine lst rfl HCC rfl (wanted_none rfl) (w1 := w4) (by simp only [execOp, (F6.eval 30 (by omega)).trans (show _ = Value.map (some mw) from by simp [upd, e0, ec, eo]), (F6.eval 31 (by omega)).trans (show _ = Value.agg #[.int .i64 cs, .int .i64 ci] from by simp [upd, e0, ec, eo]), (F6.eval 32 (by omega)).trans (show _ = Value.agg #[.int .i64 k, .string ⟨n.toArray⟩, .int .i64 a, .int .i64 b] from by simp [upd, e0, ec, eo])]; simp [go_sem, show (Instr.mapUpdate 70 (.map (some mw)) (.agg #[.int .i64 cs, .int .i64 ci]) (.agg #[.int .i64 k, .string ⟨n.toArray⟩, .int .i64 a, .int .i64 b])).run Try.prog Y.drew = .ok () w4 from hrun, hrun]) ?_
  refine ⟨fun h => by omega, ?_⟩
  clear F0 F1 F2 F3 F4 F5 F6 e0 ec eo HCC
  simp only [Act.put, List.setIfInBounds_toArray, List.set_cons_succ, List.set_cons_zero]

  have hfin := (HTY.out.more (Below.drew (Below.refl Y.heap.size Y))).putW hc4 hm4
  have hch : Chg (fun k => k = mw) w w4 := ((Chg.ofBelow (fun k => k = mw) HBY.out).drewN 1).trans hc4 (fun _ _ e => e)
  have HFI : Hid _ := hfin
  have HCH : Hid _ := hch
  clear hfin hch hc4 hm4 hrun hs4
  go_wp2_with fail
  go_ret
  exact ⟨rfl, HFI.out, HCH.out⟩
end Go.Proofs.Ytbjlaloofpdbfaa
