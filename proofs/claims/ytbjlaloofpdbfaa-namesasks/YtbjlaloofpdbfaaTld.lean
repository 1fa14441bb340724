import Derived.Test.YtbjlaloofpdbfaaAsk
import Derived.Laws.ResultCell
import Derived.Deep.Cut
namespace Go.Proofs.Ytbjlaloofpdbfaa
open Go.RowKit Go.PlainAid Go.MapKept
set_option linter.unusedVariables false
set_option linter.unusedSimpArgs false
section
variable {ops : Array Oper} {C : World → Prop} {eff : Nat → Bool} {z : Nat} {Q : Act → World → Prop} {rest : List Oper} {k : Nat} {a : Act} {w w1 : World} {o : Oper}
theorem lsv (he : eff k = true) (hC : C w) (hd : o.dst = none) (hw : Region.wanted o (yielded ops a.tmps) = true) {v : Value} (hr : (execOp a.eval o).run Try.prog w = .ok (.value v) w1)
    (h : wpLex Try.prog ops C eff z Q rest (k + 1) a w1) : wpLex Try.prog ops C eff z Q (o :: rest) k a w := by
  refine ⟨hC, ?_⟩
  rw [if_pos he]
  exact Or.inl ⟨hw, Or.inl ⟨v, w1, Or.inl hr, by rw [hd]; exact h⟩⟩
end
theorem results_cell_row2 {fn : Func} {p u : Tmp} (h : fn.results = #[.cell p 39, .tmp u]) (tmps : Array Value) (w : World) (g : Nat) (cs : Array Value) (v : Value)
    (hp : tmps.getD p undef = .pointer (some ⟨g, 0, none⟩)) (hv : tmps.getD u undef = v) (hg : Blk w g cs 39) (hi : (Try.prog.info? 39).map (·.size) = some cs.size) :
    (results fn tmps).run Try.prog w = .ok (.tuple #[.agg cs, v]) w := by
  have hld := run_loadVar_row (P := Try.prog) w g 39 39 cs (0, 0) _ hg Try.underlying39 rfl hi
  rw [results_cell_tmp h, hp, hv]
  simp [asAddr, hld]
theorem rmK_none {c : Int × Int} {WT : List ((Int × Int) × OpA)} (h : (look c WT).isSome = false) : rmK c WT = WT := by
  unfold rmK
  rw [List.eraseP_of_forall_not]
  intro x hx
  have := not_waits h x hx
  simpa using this
set_option maxRecDepth 100000 in
set_option maxHeartbeats 1600000 in
theorem told_any {hb mh mw : Nat} {me rep per : Int} {KN : List (List UInt8 × Int)} {WT : List ((Int × Int) × OpA)} (c : Int × Int) (w : World) (hT : Tb hb mh mw me rep per KN WT w) :
    Calls Try.prog 18 #[.pointer (some ⟨hb, 0, none⟩), callV c] w fun q w' => q = .returned (.tuple #[opV ((look c WT).getD zop), .bool (look c WT).isSome]) ∧ Tb hb mh mw me rep per KN (rmK c WT) w' ∧ Chg (fun k => k = mw) w w' := by
  obtain ⟨cs, ci⟩ := c
  obtain ⟨l0, hl0⟩ : ∃ l0, l0 = (look (cs, ci) WT).getD zop := ⟨_, rfl⟩
  obtain ⟨th, hth⟩ : ∃ th, th = (look (cs, ci) WT).isSome := ⟨_, rfl⟩
  have HLK : Hid (∀ wr, Tb hb mh mw me rep per KN WT wr → (Instr.lookup 70 (.map (some mw)) (.agg #[.int .i64 cs, .int .i64 ci]) true).run Try.prog wr = .ok (.tuple #[.agg #[.int .i64 l0.k, .string ⟨l0.n.toArray⟩, .int .i64 l0.a, .int .i64 l0.b], .bool th]) wr) := fun wr h => by
    have := h.wm.look_ok (cs, ci) true
    rw [hth, hl0]
    exact this
  rw [← hl0, ← hth]
  clear hl0 hth
  unfold callV opV
  simp only
  obtain ⟨X, hX⟩ : ∃ X, X = (w.alloc (.cells #[.int .i64 cs, .int .i64 ci] 37)).alloc (.cells #[.int .i64 0, .string ⟨#[]⟩, .int .i64 0, .int .i64 0] 39) := ⟨_, rfl⟩
  have hb1 : Below w.heap.size w (w.alloc (.cells #[.int .i64 cs, .int .i64 ci] 37)) := (Below.refl _ _).alloc (Nat.le_refl _) _
  have hbX : Below w.heap.size w X := by rw [hX]; exact hb1.alloc hb1.size _
  have hCB : Blk X w.heap.size #[.int .i64 cs, .int .i64 ci] 37 := by
    rw [hX]
    exact Blk.below (heap_alloc_new w _) ((Below.refl _ _).alloc (Nat.le_refl _) _) (by simp)
  have hOB : Blk X (w.heap.size + 1) #[.int .i64 0, .string ⟨#[]⟩, .int .i64 0, .int .i64 0] 39 := by
    rw [hX]
    have := heap_alloc_new (w.alloc (.cells #[.int .i64 cs, .int .i64 ci] 37)) (.cells #[.int .i64 0, .string ⟨#[]⟩, .int .i64 0, .int .i64 0] 39)
    rw [World.size_alloc] at this
    exact this
  have HT : Hid _ := hT.more hbX
  have HBX : Hid _ := hbX
  obtain ⟨cb, hcb⟩ : ∃ cb, cb = w.heap.size := ⟨_, rfl⟩
  obtain ⟨ob, hob⟩ : ∃ ob, ob = w.heap.size + 1 := ⟨_, rfl⟩
  have HCB : Hid (Blk X cb #[.int .i64 cs, .int .i64 ci] 37) := show Blk X cb #[.int .i64 cs, .int .i64 ci] 37 from by rw [hcb]; exact hCB
  have HOB : Hid (Blk X ob #[.int .i64 0, .string ⟨#[]⟩, .int .i64 0, .int .i64 0] 39) := show Blk X ob #[.int .i64 0, .string ⟨#[]⟩, .int .i64 0, .int .i64 0] 39 from by rw [hob]; exact hOB
  have HCW : Hid (w.heap.size ≤ cb ∧ w.heap.size ≤ ob) := ⟨by omega, by omega⟩
  clear hb1 hbX hCB hOB hT
  have hz39 := zero39
  go_enter Try.func18, Try.ntmps18
  go_upto_region 1 with fail
  rw [← hX, ← hob, ← hcb]
  clear hX hob hcb
  go_wp2_with fail
  rename_i K hK
  try rw [show ∀ a : Act, a.put none undef = a from fun _ => rfl]
  refine wp_region_mix (fun wq => Below X.heap.size X wq) (fun i => i == 9 || i == 10 || i == 99) 99 (by kernel_rfl) rfl (by kernel_rfl) (by kernel_rfl) (by kernel_rfl) ?_
  refine withFrP (N := 24) rfl ?_
  intro f0 F0 hff
  have e0 : f0 0 = Value.pointer (some ⟨hb, 0, none⟩) := hff 0
  have ec : f0 3 = Value.pointer (some ⟨cb, 0, none⟩) := hff 3
  clear hff
  have HCC : (fun wq => Below X.heap.size X wq) (({ X with drawn := X.drawn + 1 } : World)) := (Below.drew (Below.refl X.heap.size X))
  have VH : ∀ wr, Below X.heap.size X wr → wr.cell? ⟨hb, 4, none⟩ = some (.map (some mw)) := fun wr hw => (hw.cell (p := ⟨hb, 4, none⟩) (World.block_lt_of_cell? X _ HT.out.c4)).trans HT.out.c4
  have V0 : ∀ wr, Below X.heap.size X wr → wr.cell? ⟨cb, 0, none⟩ = some (.int .i64 cs) := fun wr hw => (Blk.below HCB.out hw (Blk.lt HCB.out)).cell 0
  have V1 : ∀ wr, Below X.heap.size X wr → wr.cell? ⟨cb, 1, none⟩ = some (.int .i64 ci) := fun wr hw => (Blk.below HCB.out hw (Blk.lt HCB.out)).cell 1
  have VL : ∀ wr, Below X.heap.size X wr → (Instr.lookup 70 (.map (some mw)) (.agg #[.int .i64 cs, .int .i64 ci]) true).run Try.prog wr = .ok (.tuple #[.agg #[.int .i64 l0.k, .string ⟨l0.n.toArray⟩, .int .i64 l0.a, .int .i64 l0.b], .bool th]) wr := fun wr hw => HLK.out wr (HT.out.more hw)
  have HC2 : (fun wq => Below X.heap.size X wq) (({ X with drawn := X.drawn + 1 } : World).alloc (.cells #[.int .i64 0, .string ⟨#[]⟩, .int .i64 0, .int .i64 0] 39)) := HCC.alloc (Nat.le_refl _) _
  have HC3 : (fun wq => Below X.heap.size X wq) (({ X with drawn := X.drawn + 1 } : World).alloc (.cells #[.int .i64 l0.k, .string ⟨l0.n.toArray⟩, .int .i64 l0.a, .int .i64 l0.b] 39)) := HCC.alloc (Nat.le_refl _) _
  refine lyp F0 rfl HCC rfl (by omega) (wanted_none rfl) (v := Value.pointer (some ⟨hb, 0, none⟩)) (fun wr hwr => by simp only [execOp, (F0.eval 0 (by omega)).trans (show _ = Value.pointer (some ⟨hb, 0, none⟩) from by simp [upd, e0, ec])]; first | rfl | simp [go_sem]) fun F1 => ?_
  refine lyp F1 rfl HCC rfl (by omega) (wanted_none rfl) (v := Value.pointer (some ⟨hb, 0, none⟩)) (fun wr hwr => by simp only [execOp, (F1.eval 9 (by omega)).trans (show _ = Value.pointer (some ⟨hb, 0, none⟩) from by simp [upd, e0, ec])]; simp [go_sem]) fun F2 => ?_
  refine lyp F2 rfl HCC rfl (by omega) (wanted_none rfl) (v := Value.pointer (some ⟨hb, 4, none⟩)) (fun wr hwr => by simp only [execOp, (F2.eval 10 (by omega)).trans (show _ = Value.pointer (some ⟨hb, 0, none⟩) from by simp [upd, e0, ec])]; simp [go_sem]) fun F3 => ?_
  refine lyp F3 rfl HCC rfl (by omega) (wanted_none rfl) (v := Value.map (some mw)) (fun wr hwr => by simp only [execOp, (F3.eval 11 (by omega)).trans (show _ = Value.pointer (some ⟨hb, 4, none⟩) from by simp [upd, e0, ec])]; simp [go_sem, VH wr hwr]) fun F4 => ?_
  refine lyp F4 rfl HCC rfl (by omega) (wanted_none rfl) (v := Value.agg #[.int .i64 cs, .int .i64 ci]) (fun wr hwr => by simp only [execOp, (F4.eval 3 (by omega)).trans (show _ = Value.pointer (some ⟨cb, 0, none⟩) from by simp [upd, e0, ec])]; simp [go_sem, V0 wr hwr, V1 wr hwr]) fun F5 => ?_
  refine lyp F5 rfl HCC rfl (by omega) (wanted_none rfl) (v := Value.tuple #[.agg #[.int .i64 l0.k, .string ⟨l0.n.toArray⟩, .int .i64 l0.a, .int .i64 l0.b], .bool th]) (fun wr hwr => by simp only [execOp, (F5.eval 12 (by omega)).trans (show _ = Value.map (some mw) from by simp [upd, e0, ec]), (F5.eval 13 (by omega)).trans (show _ = Value.agg #[.int .i64 cs, .int .i64 ci] from by simp [upd, e0, ec])]; simp [go_sem, VL wr hwr]) fun F6 => ?_
  refine lyp F6 rfl HCC rfl (by omega) (wanted_none rfl) (v := Value.tuple #[.agg #[.int .i64 l0.k, .string ⟨l0.n.toArray⟩, .int .i64 l0.a, .int .i64 l0.b], .bool th]) (fun wr hwr => by simp only [execOp, (F6.eval 14 (by omega)).trans (show _ = Value.tuple #[.agg #[.int .i64 l0.k, .string ⟨l0.n.toArray⟩, .int .i64 l0.a, .int .i64 l0.b], .bool th] from by simp [upd, e0, ec])]; first | rfl | simp [go_sem]) fun F7 => ?_
  refine lyp F7 rfl HCC rfl (by omega) (wanted_none rfl) (v := Value.agg #[.int .i64 l0.k, .string ⟨l0.n.toArray⟩, .int .i64 l0.a, .int .i64 l0.b]) (fun wr hwr => by simp only [execOp, (F7.eval 8 (by omega)).trans (show _ = Value.tuple #[.agg #[.int .i64 l0.k, .string ⟨l0.n.toArray⟩, .int .i64 l0.a, .int .i64 l0.b], .bool th] from by simp [upd, e0, ec])]; simp [go_sem]) fun F8 => ?_
  refine lyp F8 rfl HCC rfl (by omega) (wanted_none rfl) (v := Value.bool th) (fun wr hwr => by simp only [execOp, (F8.eval 8 (by omega)).trans (show _ = Value.tuple #[.agg #[.int .i64 l0.k, .string ⟨l0.n.toArray⟩, .int .i64 l0.a, .int .i64 l0.b], .bool th] from by simp [upd, e0, ec])]; simp [go_sem]) fun F9 => ?_
  refine lep F9 rfl HCC rfl (by omega) (wanted_none rfl) (v := Value.pointer (some ⟨X.heap.size, 0, none⟩)) (w1 := ({ X with drawn := X.drawn + 1 } : World).alloc (.cells #[.int .i64 0, .string ⟨#[]⟩, .int .i64 0, .int .i64 0] 39)) (by simp only [execOp]; simp [go_sem, zero39]) fun F10 => ?_
  refine lst rfl HC2 rfl (wanted_none rfl) (w1 := ({ X with drawn := X.drawn + 1 } : World).alloc (.cells #[.int .i64 l0.k, .string ⟨l0.n.toArray⟩, .int .i64 l0.a, .int .i64 l0.b] 39)) (by simp only [execOp, (F10.eval 6 (by omega)).trans (show _ = Value.pointer (some ⟨X.heap.size, 0, none⟩) from by simp [upd, e0, ec]), (F10.eval 15 (by omega)).trans (show _ = Value.agg #[.int .i64 l0.k, .string ⟨l0.n.toArray⟩, .int .i64 l0.a, .int .i64 l0.b] from by simp [upd, e0, ec])]; simp [go_sem]) ?_
  refine lyp F10 rfl HC3 rfl (by omega) (wanted_none rfl) (v := Value.bool th) (fun wr hwr => by simp only [execOp, (F10.eval 16 (by omega)).trans (show _ = Value.bool th from by simp [upd, e0, ec])]; first | rfl | simp [go_sem]) fun F11 => ?_
  refine ⟨fun _ => HC3, ?_⟩
  refine hK _ _ ?_
  clear F0 F1 F2 F3 F4 F5 F6 F7 F8 F9 F10 F11 e0 ec HCC
  simp only [Act.put, List.setIfInBounds_toArray, List.set_cons_succ, List.set_cons_zero]

  obtain ⟨nb, hnb⟩ : ∃ nb, nb = X.heap.size := ⟨_, rfl⟩
  obtain ⟨X2, hX2⟩ : ∃ X2, X2 = ({ X with drawn := X.drawn + 1 } : World).alloc (.cells #[.int .i64 l0.k, .string ⟨l0.n.toArray⟩, .int .i64 l0.a, .int .i64 l0.b] 39) := ⟨_, rfl⟩
  have hNB : Blk X2 nb #[.int .i64 l0.k, .string ⟨l0.n.toArray⟩, .int .i64 l0.a, .int .i64 l0.b] 39 := by rw [hX2, hnb]; exact heap_alloc_new ({ X with drawn := X.drawn + 1 } : World) _
  rw [← hX2] at HC3 ⊢
  rw [← hnb]
  have HTF : Hid _ := HT.out.more HC3
  have HC2b : Hid (Blk X2 cb #[.int .i64 cs, .int .i64 ci] 37) := Blk.below HCB.out HC3 (Blk.lt HCB.out)
  have HO2 : Hid (Blk X2 ob #[.int .i64 0, .string ⟨#[]⟩, .int .i64 0, .int .i64 0] 39) := Blk.below HOB.out HC3 (Blk.lt HOB.out)
  have HBF : Hid (Below w.heap.size w X2) := HBX.out.trans (HC3.mono HBX.out.size)
  have HNB : Hid (Blk X2 nb #[.int .i64 l0.k, .string ⟨l0.n.toArray⟩, .int .i64 l0.a, .int .i64 l0.b] 39) := hNB
  have HNO : Hid (¬ nb = ob) := show ¬ nb = ob from by have := Blk.lt HOB.out; omega
  clear HC3 HC2 VL V0 V1 VH hX2 hNB hnb hz39
  go_wp2_with fail
  try rw [show ∀ a : Act, a.put none undef = a from fun _ => rfl]
  refine wp_region_mix (fun wq => wq.cell? ⟨hb, 4, none⟩ = some (.map (some mw)) ∧ (wq.cell? ⟨cb, 0, none⟩ = some (.int .i64 cs) ∧ wq.cell? ⟨cb, 1, none⟩ = some (.int .i64 ci))) (fun i => i == 5) 5 (by kernel_rfl) rfl (by kernel_rfl) (by kernel_rfl) (by kernel_rfl) ?_
  refine withFrP (N := 24) rfl ?_
  intro f0 F0 hff
  have e0 : f0 0 = Value.pointer (some ⟨hb, 0, none⟩) := hff 0
  have ec : f0 3 = Value.pointer (some ⟨cb, 0, none⟩) := hff 3
  clear hff
  have HCC : (fun wq => wq.cell? ⟨hb, 4, none⟩ = some (.map (some mw)) ∧ (wq.cell? ⟨cb, 0, none⟩ = some (.int .i64 cs) ∧ wq.cell? ⟨cb, 1, none⟩ = some (.int .i64 ci))) (({ X2 with drawn := X2.drawn + 1 } : World)) := ⟨HTF.out.c4, HC2b.out.cell 0, HC2b.out.cell 1⟩
  obtain ⟨w4, hrun, hm4, hc4, hs4⟩ := HMap.del (w := ({ X2 with drawn := X2.drawn + 1 } : World)) (HTF.out.wm.same rfl) (cs, ci)
  replace hrun : ∀ ty, (Builtin.delete_ #[70, 37] ty #[.map (some mw), .agg #[.int .i64 cs, .int .i64 ci]]).run Try.prog ({ X2 with drawn := X2.drawn + 1 } : World) = .ok (.tuple #[]) w4 := hrun
  refine lyp F0 rfl HCC rfl (by omega) (wanted_none rfl) (v := Value.pointer (some ⟨hb, 0, none⟩)) (fun wr hwr => by simp only [execOp, (F0.eval 0 (by omega)).trans (show _ = Value.pointer (some ⟨hb, 0, none⟩) from by simp [upd, e0, ec])]; first | rfl | simp [go_sem]) fun F1 => ?_
  refine lyp F1 rfl HCC rfl (by omega) (wanted_none rfl) (v := Value.pointer (some ⟨hb, 0, none⟩)) (fun wr hwr => by simp only [execOp, (F1.eval 17 (by omega)).trans (show _ = Value.pointer (some ⟨hb, 0, none⟩) from by simp [upd, e0, ec])]; simp [go_sem]) fun F2 => ?_
  refine lyp F2 rfl HCC rfl (by omega) (wanted_none rfl) (v := Value.pointer (some ⟨hb, 4, none⟩)) (fun wr hwr => by simp only [execOp, (F2.eval 18 (by omega)).trans (show _ = Value.pointer (some ⟨hb, 0, none⟩) from by simp [upd, e0, ec])]; simp [go_sem]) fun F3 => ?_
  refine lyp F3 rfl HCC rfl (by omega) (wanted_none rfl) (v := Value.map (some mw)) (fun wr hwr => by simp only [execOp, (F3.eval 19 (by omega)).trans (show _ = Value.pointer (some ⟨hb, 4, none⟩) from by simp [upd, e0, ec])]; simp [go_sem, hwr.1]) fun F4 => ?_
  refine lyp F4 rfl HCC rfl (by omega) (wanted_none rfl) (v := Value.agg #[.int .i64 cs, .int .i64 ci]) (fun wr hwr => by simp only [execOp, (F4.eval 3 (by omega)).trans (show _ = Value.pointer (some ⟨cb, 0, none⟩) from by simp [upd, e0, ec])]; simp [go_sem, hwr.2.1, hwr.2.2]) fun F5 => ?_
  refine lsv rfl HCC rfl (wanted_none rfl) (v := .tuple #[]) (w1 := w4) (by simp only [execOp, resolve, invoke, builtin, List.map_toArray, List.map_cons, List.map_nil, (F5.eval 20 (by omega)).trans (show _ = Value.map (some mw) from by simp [upd, e0, ec]), (F5.eval 21 (by omega)).trans (show _ = Value.agg #[.int .i64 cs, .int .i64 ci] from by simp [upd, e0, ec])]; simp [go_sem, builtin, show ∀ ty, (Builtin.delete_ #[70, 37] ty #[.map (some mw), .agg #[.int .i64 cs, .int .i64 ci]]).run Try.prog X2.drew = .ok (.tuple #[]) w4 from hrun, hrun]) ?_
  refine ⟨fun h => by omega, ?_⟩
  clear F0 F1 F2 F3 F4 F5 e0 ec HCC
  simp only [Act.put, List.setIfInBounds_toArray, List.set_cons_succ, List.set_cons_zero]

  have hfin := (HTF.out.more (Below.drew (Below.refl X2.heap.size X2))).putW hc4 hm4
  have hch : Chg (fun k => k = mw) w w4 := ((Chg.ofBelow (fun k => k = mw) HBF.out).drewN 1).trans hc4 (fun _ _ e => e)
  have hN4 : Blk w4 nb #[.int .i64 l0.k, .string ⟨l0.n.toArray⟩, .int .i64 l0.a, .int .i64 l0.b] 39 := hc4.blk (show Blk ({ X2 with drawn := X2.drawn + 1 } : World) nb #[.int .i64 l0.k, .string ⟨l0.n.toArray⟩, .int .i64 l0.a, .int .i64 l0.b] 39 from HNB.out) (HTF.out.wm.ne_b HNB.out)
  have hO4 : Blk w4 ob #[.int .i64 0, .string ⟨#[]⟩, .int .i64 0, .int .i64 0] 39 := hc4.blk (show Blk ({ X2 with drawn := X2.drawn + 1 } : World) ob #[.int .i64 0, .string ⟨#[]⟩, .int .i64 0, .int .i64 0] 39 from HO2.out) (HTF.out.wm.ne_b HO2.out)
  have n0 : w4.cell? ⟨nb, 0, none⟩ = some (.int .i64 l0.k) := hN4.cell 0
  have n1 : w4.cell? ⟨nb, 1, none⟩ = some (.string ⟨l0.n.toArray⟩) := hN4.cell 1
  have n2 : w4.cell? ⟨nb, 2, none⟩ = some (.int .i64 l0.a) := hN4.cell 2
  have n3 : w4.cell? ⟨nb, 3, none⟩ = some (.int .i64 l0.b) := hN4.cell 3
  have z0 : w4.cell? ⟨ob, 0, none⟩ = some (.int .i64 0) := hO4.cell 0
  have z1 : w4.cell? ⟨ob, 1, none⟩ = some (.string ⟨#[]⟩) := hO4.cell 1
  have z2 : w4.cell? ⟨ob, 2, none⟩ = some (.int .i64 0) := hO4.cell 2
  have z3 : w4.cell? ⟨ob, 3, none⟩ = some (.int .i64 0) := hO4.cell 3
  have f0 := hO4.frozen 0
  have f1 := hO4.frozen 1
  have f2 := hO4.frozen 2
  have f3 := hO4.frozen 3
  obtain ⟨Y, hY⟩ : ∃ Y, Y = (((w4.setCell ⟨ob, 0, none⟩ (.int .i64 l0.k)).setCell ⟨ob, 1, none⟩ (.string ⟨l0.n.toArray⟩)).setCell ⟨ob, 2, none⟩ (.int .i64 l0.a)).setCell ⟨ob, 3, none⟩ (.int .i64 l0.b) := ⟨_, rfl⟩
  have hBY : Blk Y ob #[.int .i64 l0.k, .string ⟨l0.n.toArray⟩, .int .i64 l0.a, .int .i64 l0.b] 39 := by rw [hY]; exact (((hO4.set 0 (.int .i64 l0.k)).set 1 (.string ⟨l0.n.toArray⟩)).set 2 (.int .i64 l0.a)).set 3 (.int .i64 l0.b)
  have hs : Chg (fun b => b = ob) w4 Y := by
    rw [hY]
    have s1 : ∀ (W : World) (j : Nat) (v : Value), Chg (fun b => b = ob) W (W.setCell ⟨ob, j, none⟩ v) := fun W j v => ⟨rfl, rfl, rfl, by simp [World.setCell], fun k hk hn => Below.heap_setCell _ _ _ _ hn⟩
    exact (((s1 _ _ _).trans (s1 _ _ _) (fun _ _ e => e)).trans (s1 _ _ _) (fun _ _ e => e)).trans (s1 _ _ _) (fun _ _ e => e)
  have HFI : Hid (Tb hb mh mw me rep per KN (rmK (cs, ci) WT) Y) := hfin.keep hs (hfin.blk.ne_t hO4 (by decide)) (fun e => hfin.hm.ne_b hO4 e.symm) (fun e => hfin.wm.ne_b hO4 e.symm)
  have HCH : Hid (Chg (fun k => k = mw) w Y) := hch.trans hs (fun j hj e => by have := HCW.out.2; omega)
  have HBY : Hid _ := hBY
  have hno := HNO.out
  clear hfin hch hc4 hm4 hrun hs4 hN4 hO4 hs hBY
  go_wp2_with fail
  try rw [← hY]
  exact bodyPost_ret (results_cell_row2 Try.results18 _ _ ob _ _ rfl rfl HBY.out (by kernel_rfl)) rfl ⟨rfl, HFI.out, HCH.out⟩
end Go.Proofs.Ytbjlaloofpdbfaa
