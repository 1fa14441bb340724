import Derived.Test.YtadfmnlkfcigoaaBeg
namespace Go.Proofs.Ytadfmnlkfcigoaa
open Go.RowKit Go.PlainAid Go.MapKept
set_option linter.unusedVariables false
set_option linter.unusedSimpArgs false
section
variable {ops : Array Oper} {C : World → Prop} {eff : Nat → Bool} {z : Nat} {Q : Act → World → Prop} {rest : List Oper} {k : Nat} {a : Act} {w w1 : World} {o : Oper}
theorem lsv (he : eff k = true) (hC : C w) (hd : o.dst = none) (hw : Region.wanted o (yielded ops a.tmps) = true) {v : Value} (hr : (execOp a.eval o).run Try.prog w = .ok (.value v) w1)
    (h : wpLex Try.prog ops C eff z Q rest (k + 1) a w1) : wpLex Try.prog ops C eff z Q (o :: rest) k a w := by
  refine ⟨hC, ?_⟩
  rw [if_pos he]
  exact Or.inl ⟨hw, Or.inl ⟨v, w1, Or.inl hr, by rw [hd]; exact h⟩⟩
end
theorem rmK_op (c : Int × Int) : ∀ op : List (Int × Int), rmK c (op.map fun c => (c, ())) = (op.erase c).map fun c => (c, ())
  | [] => rfl
  | h :: t => by
    have ih := rmK_op c t
    unfold rmK at ih ⊢
    by_cases e : c = h
    · subst e
      simp
    · have e2 : ¬ (h == c) = true := by simpa using fun q => e q.symm
      simp only [List.map_cons, List.eraseP_cons, e, decide_false, cond_false, List.erase_cons, e2, if_false]
      rw [ih]
      simp
set_option maxRecDepth 100000 in
set_option maxHeartbeats 3200000 in
theorem end_none {a : CA} {x : CX} (s i ee vv : Int) (w : World) (hM : CM a x w) (hs : In64 s) (hmi : ¬ mine a.me a.rep a.ses s) :
    Calls Try.prog 12 #[.pointer (some ⟨a.cb, 0, none⟩), .agg #[.int .i64 s, .int .i64 i, .int .i64 ee, .int .i64 vv]] w fun e w' => e = .returned (.int .i64 132) ∧ CM a x w' ∧ Chg a.own w w' := by
  have HLK : Hid (∀ wr, CM a x wr → (Instr.lookup 58 (.map (some a.ms)) (callV (Int.tmod s a.rep, Int.tdiv s a.rep)) true).run Try.prog wr = .ok (.tuple #[.pointer none, .bool false]) wr) := fun wr h => h.seatNo hmi true
  obtain ⟨X, hX⟩ : ∃ X, X = w.alloc (.cells #[.int .i64 s, .int .i64 i, .int .i64 ee, .int .i64 vv] 36) := ⟨_, rfl⟩
  have hbX : Below w.heap.size w X := by rw [hX]; exact (Below.refl _ _).alloc (Nat.le_refl _) _
  obtain ⟨cb, hcb⟩ : ∃ cb, cb = w.heap.size := ⟨_, rfl⟩
  have HCB : Hid (Blk X cb #[.int .i64 s, .int .i64 i, .int .i64 ee, .int .i64 vv] 36) := show Blk X cb #[.int .i64 s, .int .i64 i, .int .i64 ee, .int .i64 vv] 36 from by rw [hX, hcb]; exact heap_alloc_new w _
  have HT : Hid (CM a x X) := hM.more hbX
  have HBX : Hid (Below w.heap.size w X) := hbX
  have HRW : Hid (w.heap.size ≤ cb) := show w.heap.size ≤ cb from by omega
  have HS : Hid (In64 s) := hs
  have HMW : Hid (CM a x w) := hM
  clear hM hbX hs
  go_enter Try.func12, Try.ntmps12
  go_wp2_with fail
  rw [← hX, ← hcb]
  clear hX hcb
  rename_i K hK
  try rw [show ∀ a : Act, a.put none undef = a from fun _ => rfl]
  refine wp_region_mix (fun wq => Below X.heap.size X wq) (fun i => i == 8 || i == 99) 99 (by kernel_rfl) rfl (by kernel_rfl) (by kernel_rfl) (by kernel_rfl) ?_
  refine withFrP (N := 49) rfl ?_
  intro f0 F0 hff
  have e0 : f0 0 = Value.pointer (some ⟨a.cb, 0, none⟩) := hff 0
  have e3 : f0 3 = Value.pointer (some ⟨cb, 0, none⟩) := hff 3
  clear hff
  have HCC : (fun wq => Below X.heap.size X wq) (({ X with drawn := X.drawn + 1 } : World)) := (Below.drew (Below.refl X.heap.size X))
  have VH : ∀ wr, Below X.heap.size X wr → wr.cell? ⟨a.cb, 1, none⟩ = some (.map (some a.ms)) := fun wr hw => (HT.out.more hw).c1
  have VS : ∀ wr, Below X.heap.size X wr → wr.cell? ⟨cb, 0, none⟩ = some (.int .i64 s) := fun wr hw => (Blk.below HCB.out hw (Blk.lt HCB.out)).cell 0
  refine lyp F0 rfl HCC rfl (by omega) (wanted_none rfl) (v := Value.pointer (some ⟨a.cb, 0, none⟩)) (fun wr hwr => by simp only [execOp, (F0.eval 0 (by omega)).trans (show _ = Value.pointer (some ⟨a.cb, 0, none⟩) from by simp [upd, e0, e3])]; first | rfl | simp [go_sem]) fun F1 => ?_
  refine lyp F1 rfl HCC rfl (by omega) (wanted_none rfl) (v := Value.pointer (some ⟨a.cb, 0, none⟩)) (fun wr hwr => by simp only [execOp, (F1.eval 8 (by omega)).trans (show _ = Value.pointer (some ⟨a.cb, 0, none⟩) from by simp [upd, e0, e3])]; simp [go_sem]) fun F2 => ?_
  refine lyp F2 rfl HCC rfl (by omega) (wanted_none rfl) (v := Value.pointer (some ⟨a.cb, 1, none⟩)) (fun wr hwr => by simp only [execOp, (F2.eval 9 (by omega)).trans (show _ = Value.pointer (some ⟨a.cb, 0, none⟩) from by simp [upd, e0, e3])]; simp [go_sem]) fun F3 => ?_
  refine lyp F3 rfl HCC rfl (by omega) (wanted_none rfl) (v := Value.map (some a.ms)) (fun wr hwr => by simp only [execOp, (F3.eval 10 (by omega)).trans (show _ = Value.pointer (some ⟨a.cb, 1, none⟩) from by simp [upd, e0, e3])]; simp [go_sem, VH wr hwr]) fun F4 => ?_
  refine lyp F4 rfl HCC rfl (by omega) (wanted_none rfl) (v := Value.pointer (some ⟨a.cb, 0, none⟩)) (fun wr hwr => by simp only [execOp, (F4.eval 0 (by omega)).trans (show _ = Value.pointer (some ⟨a.cb, 0, none⟩) from by simp [upd, e0, e3])]; first | rfl | simp [go_sem]) fun F5 => ?_
  refine lyp F5 rfl HCC rfl (by omega) (wanted_none rfl) (v := Value.pointer (some ⟨cb, 0, none⟩)) (fun wr hwr => by simp only [execOp, (F5.eval 3 (by omega)).trans (show _ = Value.pointer (some ⟨cb, 0, none⟩) from by simp [upd, e0, e3])]; simp [go_sem]) fun F6 => ?_
  refine lyp F6 rfl HCC rfl (by omega) (wanted_none rfl) (v := Value.pointer (some ⟨cb, 0, none⟩)) (fun wr hwr => by simp only [execOp, (F6.eval 13 (by omega)).trans (show _ = Value.pointer (some ⟨cb, 0, none⟩) from by simp [upd, e0, e3])]; simp [go_sem]) fun F7 => ?_
  refine lyp F7 rfl HCC rfl (by omega) (wanted_none rfl) (v := Value.int .i64 s) (fun wr hwr => by simp only [execOp, (F7.eval 14 (by omega)).trans (show _ = Value.pointer (some ⟨cb, 0, none⟩) from by simp [upd, e0, e3])]; simp [go_sem, VS wr hwr]) fun F8 => ?_
  refine lcp F8 rfl HCC rfl (by omega) (wanted_none rfl) (g := 20) (args := #[Value.pointer (some ⟨a.cb, 0, none⟩), Value.int .i64 s]) (by simp only [execOp, resolve, invoke, List.map_toArray, List.map_cons, List.map_nil, (F8.eval 12 (by omega)).trans (show _ = Value.pointer (some ⟨a.cb, 0, none⟩) from by simp [upd, e0, e3]), (F8.eval 15 (by omega)).trans (show _ = Value.int .i64 s from by simp [upd, e0, e3])]; simp [go_sem, Act.eval]) (seatOf_any s _ (HT.out.more HCC) HS.out) ?_
  rintro e w1 ⟨rfl, hw1⟩
  have HC1 : (fun wq => Below X.heap.size X wq) w1 := HCC.trans (hw1.mono HCC.size)
  refine ⟨_, rfl, fun F9 => ?_⟩
  refine lyp F9 rfl HC1 rfl (by omega) (wanted_none rfl) (v := Value.tuple #[.pointer none, .bool false]) (fun wr hwr => by simp only [execOp, (F9.eval 11 (by omega)).trans (show _ = Value.map (some a.ms) from by simp [upd, e0, e3]), (F9.eval 16 (by omega)).trans (show _ = callV (Int.tmod s a.rep, Int.tdiv s a.rep) from by simp [upd, e0, e3])]; simp [go_sem, HLK.out wr (HT.out.more hwr)]) fun F10 => ?_
  refine lyp F10 rfl HC1 rfl (by omega) (wanted_none rfl) (v := Value.tuple #[.pointer none, .bool false]) (fun wr hwr => by simp only [execOp, (F10.eval 17 (by omega)).trans (show _ = Value.tuple #[.pointer none, .bool false] from by simp [upd, e0, e3])]; first | rfl | simp [go_sem]) fun F11 => ?_
  refine lyp F11 rfl HC1 rfl (by omega) (wanted_none rfl) (v := Value.pointer none) (fun wr hwr => by simp only [execOp, (F11.eval 7 (by omega)).trans (show _ = Value.tuple #[.pointer none, .bool false] from by simp [upd, e0, e3])]; simp [go_sem]) fun F12 => ?_
  refine lyp F12 rfl HC1 rfl (by omega) (wanted_none rfl) (v := Value.bool false) (fun wr hwr => by simp only [execOp, (F12.eval 7 (by omega)).trans (show _ = Value.tuple #[.pointer none, .bool false] from by simp [upd, e0, e3])]; simp [go_sem]) fun F13 => ?_
  refine lyp F13 rfl HC1 rfl (by omega) (wanted_none rfl) (v := Value.pointer none) (fun wr hwr => by simp only [execOp, (F13.eval 18 (by omega)).trans (show _ = Value.pointer none from by simp [upd, e0, e3])]; first | rfl | simp [go_sem]) fun F14 => ?_
  refine lyp F14 rfl HC1 rfl (by omega) (wanted_none rfl) (v := Value.bool false) (fun wr hwr => by simp only [execOp, (F14.eval 19 (by omega)).trans (show _ = Value.bool false from by simp [upd, e0, e3])]; first | rfl | simp [go_sem]) fun F15 => ?_
  refine ⟨fun _ => HC1, ?_⟩
  refine hK _ _ ?_
  clear F0 F1 F2 F3 F4 F5 F6 F7 F8 F9 F10 F11 F12 F13 F14 F15 e0 e3 HCC VH VS
  simp only [Act.put, List.setIfInBounds_toArray, List.set_cons_succ, List.set_cons_zero]
  obtain ⟨V, hV⟩ : ∃ V, V = w1 := ⟨_, rfl⟩
  rw [← hV] at HC1 ⊢
  have HCV : Hid (Blk V cb #[.int .i64 s, .int .i64 i, .int .i64 ee, .int .i64 vv] 36) := show Blk V cb #[.int .i64 s, .int .i64 i, .int .i64 ee, .int .i64 vv] 36 from Blk.below HCB.out HC1 (Blk.lt HCB.out)
  have HMV : Hid (CM a x V) := HT.out.more HC1
  have HBV : Hid (Below w.heap.size w V) := HBX.out.trans (HC1.mono HBX.out.size)
  clear HC1 hw1 hV
  clear HLK HT HCB
  go_wp2_with fail
  go_ret
  exact ⟨rfl, HMV.out, Chg.ofBelow _ HBV.out⟩
set_option maxRecDepth 100000 in
set_option maxHeartbeats 3200000 in
theorem end_order {a : CA} {x : CX} (s i ee vv : Int) (w : World) (hM : CM a x w) (hs : In64 s) (hmi : mine a.me a.rep a.ses s) (ho : x.la s < i) :
    Calls Try.prog 12 #[.pointer (some ⟨a.cb, 0, none⟩), .agg #[.int .i64 s, .int .i64 i, .int .i64 ee, .int .i64 vv]] w fun e w' => e = .returned (.int .i64 131) ∧ CM a x w' ∧ Chg a.own w w' := by
  obtain ⟨j, hb, hj, hsj, hall⟩ := hM.seatAll hmi
  have HLK : Hid (∀ wr, CM a x wr → _) := fun wr h => hall x wr h
  have HLA : Hid (∀ wr, CM a x wr → wr.cell? ⟨hb, 0, none⟩ = some (.int .i64 (x.la s))) := fun wr h => by
    have := (h.hist j hb hj).last
    rw [← hsj] at this
    exact this
  have HJ : Hid (a.hs[j]? = some hb ∧ s = a.me + j * a.rep) := ⟨hj, hsj⟩
  clear hall hj hsj
  obtain ⟨X, hX⟩ : ∃ X, X = w.alloc (.cells #[.int .i64 s, .int .i64 i, .int .i64 ee, .int .i64 vv] 36) := ⟨_, rfl⟩
  have hbX : Below w.heap.size w X := by rw [hX]; exact (Below.refl _ _).alloc (Nat.le_refl _) _
  obtain ⟨cb, hcb⟩ : ∃ cb, cb = w.heap.size := ⟨_, rfl⟩
  have HCB : Hid (Blk X cb #[.int .i64 s, .int .i64 i, .int .i64 ee, .int .i64 vv] 36) := show Blk X cb #[.int .i64 s, .int .i64 i, .int .i64 ee, .int .i64 vv] 36 from by rw [hX, hcb]; exact heap_alloc_new w _
  have HT : Hid (CM a x X) := hM.more hbX
  have HBX : Hid (Below w.heap.size w X) := hbX
  have HRW : Hid (w.heap.size ≤ cb) := show w.heap.size ≤ cb from by omega
  have HS : Hid (In64 s) := hs
  have HMW : Hid (CM a x w) := hM
  clear hM hbX hs
  go_enter Try.func12, Try.ntmps12
  go_wp2_with fail
  rw [← hX, ← hcb]
  clear hX hcb
  rename_i K hK
  try rw [show ∀ a : Act, a.put none undef = a from fun _ => rfl]
  refine wp_region_mix (fun wq => Below X.heap.size X wq) (fun i => i == 8 || i == 99) 99 (by kernel_rfl) rfl (by kernel_rfl) (by kernel_rfl) (by kernel_rfl) ?_
  refine withFrP (N := 49) rfl ?_
  intro f0 F0 hff
  have e0 : f0 0 = Value.pointer (some ⟨a.cb, 0, none⟩) := hff 0
  have e3 : f0 3 = Value.pointer (some ⟨cb, 0, none⟩) := hff 3
  clear hff
  have HCC : (fun wq => Below X.heap.size X wq) (({ X with drawn := X.drawn + 1 } : World)) := (Below.drew (Below.refl X.heap.size X))
  have VH : ∀ wr, Below X.heap.size X wr → wr.cell? ⟨a.cb, 1, none⟩ = some (.map (some a.ms)) := fun wr hw => (HT.out.more hw).c1
  have VS : ∀ wr, Below X.heap.size X wr → wr.cell? ⟨cb, 0, none⟩ = some (.int .i64 s) := fun wr hw => (Blk.below HCB.out hw (Blk.lt HCB.out)).cell 0
  refine lyp F0 rfl HCC rfl (by omega) (wanted_none rfl) (v := Value.pointer (some ⟨a.cb, 0, none⟩)) (fun wr hwr => by simp only [execOp, (F0.eval 0 (by omega)).trans (show _ = Value.pointer (some ⟨a.cb, 0, none⟩) from by simp [upd, e0, e3])]; first | rfl | simp [go_sem]) fun F1 => ?_
  refine lyp F1 rfl HCC rfl (by omega) (wanted_none rfl) (v := Value.pointer (some ⟨a.cb, 0, none⟩)) (fun wr hwr => by simp only [execOp, (F1.eval 8 (by omega)).trans (show _ = Value.pointer (some ⟨a.cb, 0, none⟩) from by simp [upd, e0, e3])]; simp [go_sem]) fun F2 => ?_
  refine lyp F2 rfl HCC rfl (by omega) (wanted_none rfl) (v := Value.pointer (some ⟨a.cb, 1, none⟩)) (fun wr hwr => by simp only [execOp, (F2.eval 9 (by omega)).trans (show _ = Value.pointer (some ⟨a.cb, 0, none⟩) from by simp [upd, e0, e3])]; simp [go_sem]) fun F3 => ?_
  refine lyp F3 rfl HCC rfl (by omega) (wanted_none rfl) (v := Value.map (some a.ms)) (fun wr hwr => by simp only [execOp, (F3.eval 10 (by omega)).trans (show _ = Value.pointer (some ⟨a.cb, 1, none⟩) from by simp [upd, e0, e3])]; simp [go_sem, VH wr hwr]) fun F4 => ?_
  refine lyp F4 rfl HCC rfl (by omega) (wanted_none rfl) (v := Value.pointer (some ⟨a.cb, 0, none⟩)) (fun wr hwr => by simp only [execOp, (F4.eval 0 (by omega)).trans (show _ = Value.pointer (some ⟨a.cb, 0, none⟩) from by simp [upd, e0, e3])]; first | rfl | simp [go_sem]) fun F5 => ?_
  refine lyp F5 rfl HCC rfl (by omega) (wanted_none rfl) (v := Value.pointer (some ⟨cb, 0, none⟩)) (fun wr hwr => by simp only [execOp, (F5.eval 3 (by omega)).trans (show _ = Value.pointer (some ⟨cb, 0, none⟩) from by simp [upd, e0, e3])]; simp [go_sem]) fun F6 => ?_
  refine lyp F6 rfl HCC rfl (by omega) (wanted_none rfl) (v := Value.pointer (some ⟨cb, 0, none⟩)) (fun wr hwr => by simp only [execOp, (F6.eval 13 (by omega)).trans (show _ = Value.pointer (some ⟨cb, 0, none⟩) from by simp [upd, e0, e3])]; simp [go_sem]) fun F7 => ?_
  refine lyp F7 rfl HCC rfl (by omega) (wanted_none rfl) (v := Value.int .i64 s) (fun wr hwr => by simp only [execOp, (F7.eval 14 (by omega)).trans (show _ = Value.pointer (some ⟨cb, 0, none⟩) from by simp [upd, e0, e3])]; simp [go_sem, VS wr hwr]) fun F8 => ?_
  refine lcp F8 rfl HCC rfl (by omega) (wanted_none rfl) (g := 20) (args := #[Value.pointer (some ⟨a.cb, 0, none⟩), Value.int .i64 s]) (by simp only [execOp, resolve, invoke, List.map_toArray, List.map_cons, List.map_nil, (F8.eval 12 (by omega)).trans (show _ = Value.pointer (some ⟨a.cb, 0, none⟩) from by simp [upd, e0, e3]), (F8.eval 15 (by omega)).trans (show _ = Value.int .i64 s from by simp [upd, e0, e3])]; simp [go_sem, Act.eval]) (seatOf_any s _ (HT.out.more HCC) HS.out) ?_
  rintro e w1 ⟨rfl, hw1⟩
  have HC1 : (fun wq => Below X.heap.size X wq) w1 := HCC.trans (hw1.mono HCC.size)
  refine ⟨_, rfl, fun F9 => ?_⟩
  refine lyp F9 rfl HC1 rfl (by omega) (wanted_none rfl) (v := Value.tuple #[.pointer (some ⟨hb, 0, none⟩), .bool true]) (fun wr hwr => by simp only [execOp, (F9.eval 11 (by omega)).trans (show _ = Value.map (some a.ms) from by simp [upd, e0, e3]), (F9.eval 16 (by omega)).trans (show _ = callV (Int.tmod s a.rep, Int.tdiv s a.rep) from by simp [upd, e0, e3])]; simp [go_sem, HLK.out wr (HT.out.more hwr)]) fun F10 => ?_
  refine lyp F10 rfl HC1 rfl (by omega) (wanted_none rfl) (v := Value.tuple #[.pointer (some ⟨hb, 0, none⟩), .bool true]) (fun wr hwr => by simp only [execOp, (F10.eval 17 (by omega)).trans (show _ = Value.tuple #[.pointer (some ⟨hb, 0, none⟩), .bool true] from by simp [upd, e0, e3])]; first | rfl | simp [go_sem]) fun F11 => ?_
  refine lyp F11 rfl HC1 rfl (by omega) (wanted_none rfl) (v := Value.pointer (some ⟨hb, 0, none⟩)) (fun wr hwr => by simp only [execOp, (F11.eval 7 (by omega)).trans (show _ = Value.tuple #[.pointer (some ⟨hb, 0, none⟩), .bool true] from by simp [upd, e0, e3])]; simp [go_sem]) fun F12 => ?_
  refine lyp F12 rfl HC1 rfl (by omega) (wanted_none rfl) (v := Value.bool true) (fun wr hwr => by simp only [execOp, (F12.eval 7 (by omega)).trans (show _ = Value.tuple #[.pointer (some ⟨hb, 0, none⟩), .bool true] from by simp [upd, e0, e3])]; simp [go_sem]) fun F13 => ?_
  refine lyp F13 rfl HC1 rfl (by omega) (wanted_none rfl) (v := Value.pointer (some ⟨hb, 0, none⟩)) (fun wr hwr => by simp only [execOp, (F13.eval 18 (by omega)).trans (show _ = Value.pointer (some ⟨hb, 0, none⟩) from by simp [upd, e0, e3])]; first | rfl | simp [go_sem]) fun F14 => ?_
  refine lyp F14 rfl HC1 rfl (by omega) (wanted_none rfl) (v := Value.bool true) (fun wr hwr => by simp only [execOp, (F14.eval 19 (by omega)).trans (show _ = Value.bool true from by simp [upd, e0, e3])]; first | rfl | simp [go_sem]) fun F15 => ?_
  refine ⟨fun _ => HC1, ?_⟩
  refine hK _ _ ?_
  clear F0 F1 F2 F3 F4 F5 F6 F7 F8 F9 F10 F11 F12 F13 F14 F15 e0 e3 HCC VH VS
  simp only [Act.put, List.setIfInBounds_toArray, List.set_cons_succ, List.set_cons_zero]
  obtain ⟨V, hV⟩ : ∃ V, V = w1 := ⟨_, rfl⟩
  rw [← hV] at HC1 ⊢
  have HCV : Hid (Blk V cb #[.int .i64 s, .int .i64 i, .int .i64 ee, .int .i64 vv] 36) := show Blk V cb #[.int .i64 s, .int .i64 i, .int .i64 ee, .int .i64 vv] 36 from Blk.below HCB.out HC1 (Blk.lt HCB.out)
  have HMV : Hid (CM a x V) := HT.out.more HC1
  have HBV : Hid (Below w.heap.size w V) := HBX.out.trans (HC1.mono HBX.out.size)
  clear HC1 hw1 hV
  have i1 : V.cell? ⟨cb, 1, none⟩ = some (.int .i64 i) := Blk.cell HCV.out 1
  have l0 : V.cell? ⟨hb, 0, none⟩ = some (.int .i64 (x.la s)) := HLA.out V HMV.out
  clear HLK HT HCB
  go_wp2_with fail
  go_quiet (fail)
  obtain ⟨V2, hV2⟩ : ∃ V2, V2 = V.drewN nq := ⟨_, rfl⟩
  rw [← hV2]
  have HCV2 : Hid (Blk V2 cb #[.int .i64 s, .int .i64 i, .int .i64 ee, .int .i64 vv] 36) := show Blk V2 cb #[.int .i64 s, .int .i64 i, .int .i64 ee, .int .i64 vv] 36 from by rw [hV2]; exact HCV.out
  have HMV2 : Hid (CM a x V2) := show CM a x V2 from by rw [hV2]; exact HMV.out.more (below_drewN (Below.refl _ _) nq)
  have HBV2 : Hid (Below w.heap.size w V2) := show Below w.heap.size w V2 from by rw [hV2]; exact below_drewN HBV.out nq
  clear i1 l0 HCV HMV HBV hV2
  have HCV := HCV2
  have HMV := HMV2
  have HBV := HBV2
  clear HCV2 HMV2 HBV2
  have i1 : V2.cell? ⟨cb, 1, none⟩ = some (.int .i64 i) := Blk.cell HCV.out 1
  have l0 : V2.cell? ⟨hb, 0, none⟩ = some (.int .i64 (x.la s)) := HLA.out V2 HMV.out
  go_wp2_with fail
  go_ret
  exact ⟨rfl, HMV.out, Chg.ofBelow _ HBV.out⟩
set_option maxRecDepth 100000 in
set_option maxHeartbeats 3200000 in
theorem end_stale {a : CA} {x : CX} (s i ee vv : Int) (w : World) (hM : CM a x w) (hs : In64 s) (hmi : mine a.me a.rep a.ses s) (ho : i ≤ x.la s) (hin : isIn (s, i) x.op = false) :
    Calls Try.prog 12 #[.pointer (some ⟨a.cb, 0, none⟩), .agg #[.int .i64 s, .int .i64 i, .int .i64 ee, .int .i64 vv]] w fun e w' => e = .returned (.int .i64 130) ∧ CM a x w' ∧ Chg a.own w w' := by
  obtain ⟨j, hb, hj, hsj, hall⟩ := hM.seatAll hmi
  have HLK : Hid (∀ wr, CM a x wr → _) := fun wr h => hall x wr h
  have HLA : Hid (∀ wr, CM a x wr → wr.cell? ⟨hb, 0, none⟩ = some (.int .i64 (x.la s))) := fun wr h => by
    have := (h.hist j hb hj).last
    rw [← hsj] at this
    exact this
  have HJ : Hid (a.hs[j]? = some hb ∧ s = a.me + j * a.rep) := ⟨hj, hsj⟩
  clear hall hj hsj
  obtain ⟨X, hX⟩ : ∃ X, X = w.alloc (.cells #[.int .i64 s, .int .i64 i, .int .i64 ee, .int .i64 vv] 36) := ⟨_, rfl⟩
  have hbX : Below w.heap.size w X := by rw [hX]; exact (Below.refl _ _).alloc (Nat.le_refl _) _
  obtain ⟨cb, hcb⟩ : ∃ cb, cb = w.heap.size := ⟨_, rfl⟩
  have HCB : Hid (Blk X cb #[.int .i64 s, .int .i64 i, .int .i64 ee, .int .i64 vv] 36) := show Blk X cb #[.int .i64 s, .int .i64 i, .int .i64 ee, .int .i64 vv] 36 from by rw [hX, hcb]; exact heap_alloc_new w _
  have HT : Hid (CM a x X) := hM.more hbX
  have HBX : Hid (Below w.heap.size w X) := hbX
  have HRW : Hid (w.heap.size ≤ cb) := show w.heap.size ≤ cb from by omega
  have HS : Hid (In64 s) := hs
  have HMW : Hid (CM a x w) := hM
  clear hM hbX hs
  have ho2 : ¬ x.la s < i := by omega
  have HIP : Hid (∀ W, CM a x W → Calls Try.prog 21 #[.pointer (some ⟨a.cb, 0, none⟩), .agg #[.int .i64 s, .int .i64 i]] W fun e w' => e = .returned (.bool false) ∧ Below W.heap.size W w') := fun W h => by
    have := isPending_any (s, i) W h
    rw [hin] at this
    exact this
  clear hin
  go_enter Try.func12, Try.ntmps12
  go_wp2_with fail
  rw [← hX, ← hcb]
  clear hX hcb
  rename_i K hK
  try rw [show ∀ a : Act, a.put none undef = a from fun _ => rfl]
  refine wp_region_mix (fun wq => Below X.heap.size X wq) (fun i => i == 8 || i == 99) 99 (by kernel_rfl) rfl (by kernel_rfl) (by kernel_rfl) (by kernel_rfl) ?_
  refine withFrP (N := 49) rfl ?_
  intro f0 F0 hff
  have e0 : f0 0 = Value.pointer (some ⟨a.cb, 0, none⟩) := hff 0
  have e3 : f0 3 = Value.pointer (some ⟨cb, 0, none⟩) := hff 3
  clear hff
  have HCC : (fun wq => Below X.heap.size X wq) (({ X with drawn := X.drawn + 1 } : World)) := (Below.drew (Below.refl X.heap.size X))
  have VH : ∀ wr, Below X.heap.size X wr → wr.cell? ⟨a.cb, 1, none⟩ = some (.map (some a.ms)) := fun wr hw => (HT.out.more hw).c1
  have VS : ∀ wr, Below X.heap.size X wr → wr.cell? ⟨cb, 0, none⟩ = some (.int .i64 s) := fun wr hw => (Blk.below HCB.out hw (Blk.lt HCB.out)).cell 0
  refine lyp F0 rfl HCC rfl (by omega) (wanted_none rfl) (v := Value.pointer (some ⟨a.cb, 0, none⟩)) (fun wr hwr => by simp only [execOp, (F0.eval 0 (by omega)).trans (show _ = Value.pointer (some ⟨a.cb, 0, none⟩) from by simp [upd, e0, e3])]; first | rfl | simp [go_sem]) fun F1 => ?_
  refine lyp F1 rfl HCC rfl (by omega) (wanted_none rfl) (v := Value.pointer (some ⟨a.cb, 0, none⟩)) (fun wr hwr => by simp only [execOp, (F1.eval 8 (by omega)).trans (show _ = Value.pointer (some ⟨a.cb, 0, none⟩) from by simp [upd, e0, e3])]; simp [go_sem]) fun F2 => ?_
  refine lyp F2 rfl HCC rfl (by omega) (wanted_none rfl) (v := Value.pointer (some ⟨a.cb, 1, none⟩)) (fun wr hwr => by simp only [execOp, (F2.eval 9 (by omega)).trans (show _ = Value.pointer (some ⟨a.cb, 0, none⟩) from by simp [upd, e0, e3])]; simp [go_sem]) fun F3 => ?_
  refine lyp F3 rfl HCC rfl (by omega) (wanted_none rfl) (v := Value.map (some a.ms)) (fun wr hwr => by simp only [execOp, (F3.eval 10 (by omega)).trans (show _ = Value.pointer (some ⟨a.cb, 1, none⟩) from by simp [upd, e0, e3])]; simp [go_sem, VH wr hwr]) fun F4 => ?_
  refine lyp F4 rfl HCC rfl (by omega) (wanted_none rfl) (v := Value.pointer (some ⟨a.cb, 0, none⟩)) (fun wr hwr => by simp only [execOp, (F4.eval 0 (by omega)).trans (show _ = Value.pointer (some ⟨a.cb, 0, none⟩) from by simp [upd, e0, e3])]; first | rfl | simp [go_sem]) fun F5 => ?_
  refine lyp F5 rfl HCC rfl (by omega) (wanted_none rfl) (v := Value.pointer (some ⟨cb, 0, none⟩)) (fun wr hwr => by simp only [execOp, (F5.eval 3 (by omega)).trans (show _ = Value.pointer (some ⟨cb, 0, none⟩) from by simp [upd, e0, e3])]; simp [go_sem]) fun F6 => ?_
  refine lyp F6 rfl HCC rfl (by omega) (wanted_none rfl) (v := Value.pointer (some ⟨cb, 0, none⟩)) (fun wr hwr => by simp only [execOp, (F6.eval 13 (by omega)).trans (show _ = Value.pointer (some ⟨cb, 0, none⟩) from by simp [upd, e0, e3])]; simp [go_sem]) fun F7 => ?_
  refine lyp F7 rfl HCC rfl (by omega) (wanted_none rfl) (v := Value.int .i64 s) (fun wr hwr => by simp only [execOp, (F7.eval 14 (by omega)).trans (show _ = Value.pointer (some ⟨cb, 0, none⟩) from by simp [upd, e0, e3])]; simp [go_sem, VS wr hwr]) fun F8 => ?_
  refine lcp F8 rfl HCC rfl (by omega) (wanted_none rfl) (g := 20) (args := #[Value.pointer (some ⟨a.cb, 0, none⟩), Value.int .i64 s]) (by simp only [execOp, resolve, invoke, List.map_toArray, List.map_cons, List.map_nil, (F8.eval 12 (by omega)).trans (show _ = Value.pointer (some ⟨a.cb, 0, none⟩) from by simp [upd, e0, e3]), (F8.eval 15 (by omega)).trans (show _ = Value.int .i64 s from by simp [upd, e0, e3])]; simp [go_sem, Act.eval]) (seatOf_any s _ (HT.out.more HCC) HS.out) ?_
  rintro e w1 ⟨rfl, hw1⟩
  have HC1 : (fun wq => Below X.heap.size X wq) w1 := HCC.trans (hw1.mono HCC.size)
  refine ⟨_, rfl, fun F9 => ?_⟩
  refine lyp F9 rfl HC1 rfl (by omega) (wanted_none rfl) (v := Value.tuple #[.pointer (some ⟨hb, 0, none⟩), .bool true]) (fun wr hwr => by simp only [execOp, (F9.eval 11 (by omega)).trans (show _ = Value.map (some a.ms) from by simp [upd, e0, e3]), (F9.eval 16 (by omega)).trans (show _ = callV (Int.tmod s a.rep, Int.tdiv s a.rep) from by simp [upd, e0, e3])]; simp [go_sem, HLK.out wr (HT.out.more hwr)]) fun F10 => ?_
  refine lyp F10 rfl HC1 rfl (by omega) (wanted_none rfl) (v := Value.tuple #[.pointer (some ⟨hb, 0, none⟩), .bool true]) (fun wr hwr => by simp only [execOp, (F10.eval 17 (by omega)).trans (show _ = Value.tuple #[.pointer (some ⟨hb, 0, none⟩), .bool true] from by simp [upd, e0, e3])]; first | rfl | simp [go_sem]) fun F11 => ?_
  refine lyp F11 rfl HC1 rfl (by omega) (wanted_none rfl) (v := Value.pointer (some ⟨hb, 0, none⟩)) (fun wr hwr => by simp only [execOp, (F11.eval 7 (by omega)).trans (show _ = Value.tuple #[.pointer (some ⟨hb, 0, none⟩), .bool true] from by simp [upd, e0, e3])]; simp [go_sem]) fun F12 => ?_
  refine lyp F12 rfl HC1 rfl (by omega) (wanted_none rfl) (v := Value.bool true) (fun wr hwr => by simp only [execOp, (F12.eval 7 (by omega)).trans (show _ = Value.tuple #[.pointer (some ⟨hb, 0, none⟩), .bool true] from by simp [upd, e0, e3])]; simp [go_sem]) fun F13 => ?_
  refine lyp F13 rfl HC1 rfl (by omega) (wanted_none rfl) (v := Value.pointer (some ⟨hb, 0, none⟩)) (fun wr hwr => by simp only [execOp, (F13.eval 18 (by omega)).trans (show _ = Value.pointer (some ⟨hb, 0, none⟩) from by simp [upd, e0, e3])]; first | rfl | simp [go_sem]) fun F14 => ?_
  refine lyp F14 rfl HC1 rfl (by omega) (wanted_none rfl) (v := Value.bool true) (fun wr hwr => by simp only [execOp, (F14.eval 19 (by omega)).trans (show _ = Value.bool true from by simp [upd, e0, e3])]; first | rfl | simp [go_sem]) fun F15 => ?_
  refine ⟨fun _ => HC1, ?_⟩
  refine hK _ _ ?_
  clear F0 F1 F2 F3 F4 F5 F6 F7 F8 F9 F10 F11 F12 F13 F14 F15 e0 e3 HCC VH VS
  simp only [Act.put, List.setIfInBounds_toArray, List.set_cons_succ, List.set_cons_zero]
  obtain ⟨V, hV⟩ : ∃ V, V = w1 := ⟨_, rfl⟩
  rw [← hV] at HC1 ⊢
  have HCV : Hid (Blk V cb #[.int .i64 s, .int .i64 i, .int .i64 ee, .int .i64 vv] 36) := show Blk V cb #[.int .i64 s, .int .i64 i, .int .i64 ee, .int .i64 vv] 36 from Blk.below HCB.out HC1 (Blk.lt HCB.out)
  have HMV : Hid (CM a x V) := HT.out.more HC1
  have HBV : Hid (Below w.heap.size w V) := HBX.out.trans (HC1.mono HBX.out.size)
  clear HC1 hw1 hV
  have i1 : V.cell? ⟨cb, 1, none⟩ = some (.int .i64 i) := Blk.cell HCV.out 1
  have l0 : V.cell? ⟨hb, 0, none⟩ = some (.int .i64 (x.la s)) := HLA.out V HMV.out
  clear HLK HT HCB
  go_wp2_with fail
  go_quiet (fail)
  obtain ⟨V2, hV2⟩ : ∃ V2, V2 = V.drewN nq := ⟨_, rfl⟩
  rw [← hV2]
  have HCV2 : Hid (Blk V2 cb #[.int .i64 s, .int .i64 i, .int .i64 ee, .int .i64 vv] 36) := show Blk V2 cb #[.int .i64 s, .int .i64 i, .int .i64 ee, .int .i64 vv] 36 from by rw [hV2]; exact HCV.out
  have HMV2 : Hid (CM a x V2) := show CM a x V2 from by rw [hV2]; exact HMV.out.more (below_drewN (Below.refl _ _) nq)
  have HBV2 : Hid (Below w.heap.size w V2) := show Below w.heap.size w V2 from by rw [hV2]; exact below_drewN HBV.out nq
  clear i1 l0 HCV HMV HBV hV2
  have HCV := HCV2
  have HMV := HMV2
  have HBV := HBV2
  clear HCV2 HMV2 HBV2
  have i1 : V2.cell? ⟨cb, 1, none⟩ = some (.int .i64 i) := Blk.cell HCV.out 1
  have l0 : V2.cell? ⟨hb, 0, none⟩ = some (.int .i64 (x.la s)) := HLA.out V2 HMV.out
  have j0 : V2.cell? ⟨cb, 0, none⟩ = some (.int .i64 s) := Blk.cell HCV.out 0
  go_wp2_with fail
  refine Calls.mono (HIP.out _ HMV.out) ?_
  rintro e V ⟨rfl, hbv⟩
  have HCV2 : Hid (Blk V cb #[.int .i64 s, .int .i64 i, .int .i64 ee, .int .i64 vv] 36) := show Blk V cb #[.int .i64 s, .int .i64 i, .int .i64 ee, .int .i64 vv] 36 from Blk.below HCV.out hbv (Blk.lt HCV.out)
  have HMV2 : Hid (CM a x V) := HMV.out.more hbv
  have HBV2 : Hid (Below w.heap.size w V) := HBV.out.trans (hbv.mono HBV.out.size)
  clear HCV HMV HBV hbv j0 i1 l0 HIP
  have HCV := HCV2
  have HMV := HMV2
  have HBV := HBV2
  clear HCV2 HMV2 HBV2
  go_wp2_with fail
  go_ret
  exact ⟨rfl, HMV.out, Chg.ofBelow _ HBV.out⟩
set_option maxRecDepth 100000 in
set_option maxHeartbeats 3200000 in
theorem end_ok {a : CA} {x : CX} (s i ee vv : Int) (w : World) (hM : CM a x w) (hs : In64 s) (hmi : mine a.me a.rep a.ses s) (ho : i ≤ x.la s) (hin : isIn (s, i) x.op = true) :
    Calls Try.prog 12 #[.pointer (some ⟨a.cb, 0, none⟩), .agg #[.int .i64 s, .int .i64 i, .int .i64 ee, .int .i64 vv]] w fun e w' => e = .returned (.int .i64 0) ∧ (∃ R', RPut a.room ⟨s, i, ee, vv⟩ (x.rg s) R' ∧ CM a { x.setRg s R' with op := x.op.erase (s, i) } w') ∧ Chg a.own w w' := by
  obtain ⟨j, hb, hj, hsj, hall⟩ := hM.seatAll hmi
  have HLK : Hid (∀ wr, CM a x wr → _) := fun wr h => hall x wr h
  have HLA : Hid (∀ wr, CM a x wr → wr.cell? ⟨hb, 0, none⟩ = some (.int .i64 (x.la s))) := fun wr h => by
    have := (h.hist j hb hj).last
    rw [← hsj] at this
    exact this
  have HJ : Hid (a.hs[j]? = some hb ∧ s = a.me + j * a.rep) := ⟨hj, hsj⟩
  clear hall hj hsj
  obtain ⟨X, hX⟩ : ∃ X, X = w.alloc (.cells #[.int .i64 s, .int .i64 i, .int .i64 ee, .int .i64 vv] 36) := ⟨_, rfl⟩
  have hbX : Below w.heap.size w X := by rw [hX]; exact (Below.refl _ _).alloc (Nat.le_refl _) _
  obtain ⟨cb, hcb⟩ : ∃ cb, cb = w.heap.size := ⟨_, rfl⟩
  have HCB : Hid (Blk X cb #[.int .i64 s, .int .i64 i, .int .i64 ee, .int .i64 vv] 36) := show Blk X cb #[.int .i64 s, .int .i64 i, .int .i64 ee, .int .i64 vv] 36 from by rw [hX, hcb]; exact heap_alloc_new w _
  have HT : Hid (CM a x X) := hM.more hbX
  have HBX : Hid (Below w.heap.size w X) := hbX
  have HRW : Hid (w.heap.size ≤ cb) := show w.heap.size ≤ cb from by omega
  have HS : Hid (In64 s) := hs
  have HMW : Hid (CM a x w) := hM
  clear hM hbX hs
  have ho2 : ¬ x.la s < i := by omega
  have HIP : Hid (∀ W, CM a x W → Calls Try.prog 21 #[.pointer (some ⟨a.cb, 0, none⟩), .agg #[.int .i64 s, .int .i64 i]] W fun e w' => e = .returned (.bool true) ∧ Below W.heap.size W w') := fun W h => by
    have := isPending_any (s, i) W h
    rw [hin] at this
    exact this
  clear hin
  go_enter Try.func12, Try.ntmps12
  go_wp2_with fail
  rw [← hX, ← hcb]
  clear hX hcb
  rename_i K hK
  try rw [show ∀ a : Act, a.put none undef = a from fun _ => rfl]
  refine wp_region_mix (fun wq => Below X.heap.size X wq) (fun i => i == 8 || i == 99) 99 (by kernel_rfl) rfl (by kernel_rfl) (by kernel_rfl) (by kernel_rfl) ?_
  refine withFrP (N := 49) rfl ?_
  intro f0 F0 hff
  have e0 : f0 0 = Value.pointer (some ⟨a.cb, 0, none⟩) := hff 0
  have e3 : f0 3 = Value.pointer (some ⟨cb, 0, none⟩) := hff 3
  clear hff
  have HCC : (fun wq => Below X.heap.size X wq) (({ X with drawn := X.drawn + 1 } : World)) := (Below.drew (Below.refl X.heap.size X))
  have VH : ∀ wr, Below X.heap.size X wr → wr.cell? ⟨a.cb, 1, none⟩ = some (.map (some a.ms)) := fun wr hw => (HT.out.more hw).c1
  have VS : ∀ wr, Below X.heap.size X wr → wr.cell? ⟨cb, 0, none⟩ = some (.int .i64 s) := fun wr hw => (Blk.below HCB.out hw (Blk.lt HCB.out)).cell 0
  refine lyp F0 rfl HCC rfl (by omega) (wanted_none rfl) (v := Value.pointer (some ⟨a.cb, 0, none⟩)) (fun wr hwr => by simp only [execOp, (F0.eval 0 (by omega)).trans (show _ = Value.pointer (some ⟨a.cb, 0, none⟩) from by simp [upd, e0, e3])]; first | rfl | simp [go_sem]) fun F1 => ?_
  refine lyp F1 rfl HCC rfl (by omega) (wanted_none rfl) (v := Value.pointer (some ⟨a.cb, 0, none⟩)) (fun wr hwr => by simp only [execOp, (F1.eval 8 (by omega)).trans (show _ = Value.pointer (some ⟨a.cb, 0, none⟩) from by simp [upd, e0, e3])]; simp [go_sem]) fun F2 => ?_
  refine lyp F2 rfl HCC rfl (by omega) (wanted_none rfl) (v := Value.pointer (some ⟨a.cb, 1, none⟩)) (fun wr hwr => by simp only [execOp, (F2.eval 9 (by omega)).trans (show _ = Value.pointer (some ⟨a.cb, 0, none⟩) from by simp [upd, e0, e3])]; simp [go_sem]) fun F3 => ?_
  refine lyp F3 rfl HCC rfl (by omega) (wanted_none rfl) (v := Value.map (some a.ms)) (fun wr hwr => by simp only [execOp, (F3.eval 10 (by omega)).trans (show _ = Value.pointer (some ⟨a.cb, 1, none⟩) from by simp [upd, e0, e3])]; simp [go_sem, VH wr hwr]) fun F4 => ?_
  refine lyp F4 rfl HCC rfl (by omega) (wanted_none rfl) (v := Value.pointer (some ⟨a.cb, 0, none⟩)) (fun wr hwr => by simp only [execOp, (F4.eval 0 (by omega)).trans (show _ = Value.pointer (some ⟨a.cb, 0, none⟩) from by simp [upd, e0, e3])]; first | rfl | simp [go_sem]) fun F5 => ?_
  refine lyp F5 rfl HCC rfl (by omega) (wanted_none rfl) (v := Value.pointer (some ⟨cb, 0, none⟩)) (fun wr hwr => by simp only [execOp, (F5.eval 3 (by omega)).trans (show _ = Value.pointer (some ⟨cb, 0, none⟩) from by simp [upd, e0, e3])]; simp [go_sem]) fun F6 => ?_
  refine lyp F6 rfl HCC rfl (by omega) (wanted_none rfl) (v := Value.pointer (some ⟨cb, 0, none⟩)) (fun wr hwr => by simp only [execOp, (F6.eval 13 (by omega)).trans (show _ = Value.pointer (some ⟨cb, 0, none⟩) from by simp [upd, e0, e3])]; simp [go_sem]) fun F7 => ?_
  refine lyp F7 rfl HCC rfl (by omega) (wanted_none rfl) (v := Value.int .i64 s) (fun wr hwr => by simp only [execOp, (F7.eval 14 (by omega)).trans (show _ = Value.pointer (some ⟨cb, 0, none⟩) from by simp [upd, e0, e3])]; simp [go_sem, VS wr hwr]) fun F8 => ?_
  refine lcp F8 rfl HCC rfl (by omega) (wanted_none rfl) (g := 20) (args := #[Value.pointer (some ⟨a.cb, 0, none⟩), Value.int .i64 s]) (by simp only [execOp, resolve, invoke, List.map_toArray, List.map_cons, List.map_nil, (F8.eval 12 (by omega)).trans (show _ = Value.pointer (some ⟨a.cb, 0, none⟩) from by simp [upd, e0, e3]), (F8.eval 15 (by omega)).trans (show _ = Value.int .i64 s from by simp [upd, e0, e3])]; simp [go_sem, Act.eval]) (seatOf_any s _ (HT.out.more HCC) HS.out) ?_
  rintro e w1 ⟨rfl, hw1⟩
  have HC1 : (fun wq => Below X.heap.size X wq) w1 := HCC.trans (hw1.mono HCC.size)
  refine ⟨_, rfl, fun F9 => ?_⟩
  refine lyp F9 rfl HC1 rfl (by omega) (wanted_none rfl) (v := Value.tuple #[.pointer (some ⟨hb, 0, none⟩), .bool true]) (fun wr hwr => by simp only [execOp, (F9.eval 11 (by omega)).trans (show _ = Value.map (some a.ms) from by simp [upd, e0, e3]), (F9.eval 16 (by omega)).trans (show _ = callV (Int.tmod s a.rep, Int.tdiv s a.rep) from by simp [upd, e0, e3])]; simp [go_sem, HLK.out wr (HT.out.more hwr)]) fun F10 => ?_
  refine lyp F10 rfl HC1 rfl (by omega) (wanted_none rfl) (v := Value.tuple #[.pointer (some ⟨hb, 0, none⟩), .bool true]) (fun wr hwr => by simp only [execOp, (F10.eval 17 (by omega)).trans (show _ = Value.tuple #[.pointer (some ⟨hb, 0, none⟩), .bool true] from by simp [upd, e0, e3])]; first | rfl | simp [go_sem]) fun F11 => ?_
  refine lyp F11 rfl HC1 rfl (by omega) (wanted_none rfl) (v := Value.pointer (some ⟨hb, 0, none⟩)) (fun wr hwr => by simp only [execOp, (F11.eval 7 (by omega)).trans (show _ = Value.tuple #[.pointer (some ⟨hb, 0, none⟩), .bool true] from by simp [upd, e0, e3])]; simp [go_sem]) fun F12 => ?_
  refine lyp F12 rfl HC1 rfl (by omega) (wanted_none rfl) (v := Value.bool true) (fun wr hwr => by simp only [execOp, (F12.eval 7 (by omega)).trans (show _ = Value.tuple #[.pointer (some ⟨hb, 0, none⟩), .bool true] from by simp [upd, e0, e3])]; simp [go_sem]) fun F13 => ?_
  refine lyp F13 rfl HC1 rfl (by omega) (wanted_none rfl) (v := Value.pointer (some ⟨hb, 0, none⟩)) (fun wr hwr => by simp only [execOp, (F13.eval 18 (by omega)).trans (show _ = Value.pointer (some ⟨hb, 0, none⟩) from by simp [upd, e0, e3])]; first | rfl | simp [go_sem]) fun F14 => ?_
  refine lyp F14 rfl HC1 rfl (by omega) (wanted_none rfl) (v := Value.bool true) (fun wr hwr => by simp only [execOp, (F14.eval 19 (by omega)).trans (show _ = Value.bool true from by simp [upd, e0, e3])]; first | rfl | simp [go_sem]) fun F15 => ?_
  refine ⟨fun _ => HC1, ?_⟩
  refine hK _ _ ?_
  clear F0 F1 F2 F3 F4 F5 F6 F7 F8 F9 F10 F11 F12 F13 F14 F15 e0 e3 HCC VH VS
  simp only [Act.put, List.setIfInBounds_toArray, List.set_cons_succ, List.set_cons_zero]
  obtain ⟨V, hV⟩ : ∃ V, V = w1 := ⟨_, rfl⟩
  rw [← hV] at HC1 ⊢
  have HCV : Hid (Blk V cb #[.int .i64 s, .int .i64 i, .int .i64 ee, .int .i64 vv] 36) := show Blk V cb #[.int .i64 s, .int .i64 i, .int .i64 ee, .int .i64 vv] 36 from Blk.below HCB.out HC1 (Blk.lt HCB.out)
  have HMV : Hid (CM a x V) := HT.out.more HC1
  have HBV : Hid (Below w.heap.size w V) := HBX.out.trans (HC1.mono HBX.out.size)
  clear HC1 hw1 hV
  have i1 : V.cell? ⟨cb, 1, none⟩ = some (.int .i64 i) := Blk.cell HCV.out 1
  have l0 : V.cell? ⟨hb, 0, none⟩ = some (.int .i64 (x.la s)) := HLA.out V HMV.out
  clear HLK HT HCB
  go_wp2_with fail
  go_quiet (fail)
  obtain ⟨V2, hV2⟩ : ∃ V2, V2 = V.drewN nq := ⟨_, rfl⟩
  rw [← hV2]
  have HCV2 : Hid (Blk V2 cb #[.int .i64 s, .int .i64 i, .int .i64 ee, .int .i64 vv] 36) := show Blk V2 cb #[.int .i64 s, .int .i64 i, .int .i64 ee, .int .i64 vv] 36 from by rw [hV2]; exact HCV.out
  have HMV2 : Hid (CM a x V2) := show CM a x V2 from by rw [hV2]; exact HMV.out.more (below_drewN (Below.refl _ _) nq)
  have HBV2 : Hid (Below w.heap.size w V2) := show Below w.heap.size w V2 from by rw [hV2]; exact below_drewN HBV.out nq
  clear i1 l0 HCV HMV HBV hV2
  have HCV := HCV2
  have HMV := HMV2
  have HBV := HBV2
  clear HCV2 HMV2 HBV2
  have i1 : V2.cell? ⟨cb, 1, none⟩ = some (.int .i64 i) := Blk.cell HCV.out 1
  have l0 : V2.cell? ⟨hb, 0, none⟩ = some (.int .i64 (x.la s)) := HLA.out V2 HMV.out
  have j0 : V2.cell? ⟨cb, 0, none⟩ = some (.int .i64 s) := Blk.cell HCV.out 0
  go_wp2_with fail
  refine Calls.mono (HIP.out _ HMV.out) ?_
  rintro e V ⟨rfl, hbv⟩
  have HCV2 : Hid (Blk V cb #[.int .i64 s, .int .i64 i, .int .i64 ee, .int .i64 vv] 36) := show Blk V cb #[.int .i64 s, .int .i64 i, .int .i64 ee, .int .i64 vv] 36 from Blk.below HCV.out hbv (Blk.lt HCV.out)
  have HMV2 : Hid (CM a x V) := HMV.out.more hbv
  have HBV2 : Hid (Below w.heap.size w V) := HBV.out.trans (hbv.mono HBV.out.size)
  clear HCV HMV HBV hbv j0 i1 l0 HIP
  have HCV := HCV2
  have HMV := HMV2
  have HBV := HBV2
  clear HCV2 HMV2 HBV2
  go_wp2_with fail
  try rw [show ∀ a : Act, a.put none undef = a from fun _ => rfl]
  refine wp_region_mix (fun wq => wq.cell? ⟨a.cb, 2, none⟩ = some (.map (some a.mp)) ∧ wq.cell? ⟨cb, 0, none⟩ = some (.int .i64 s) ∧ wq.cell? ⟨cb, 1, none⟩ = some (.int .i64 i)) (fun i => i == 6) 6 (by kernel_rfl) rfl (by kernel_rfl) (by kernel_rfl) (by kernel_rfl) ?_
  refine withFrP (N := 49) rfl ?_
  intro f0 F0 hff
  have e0 : f0 0 = Value.pointer (some ⟨a.cb, 0, none⟩) := hff 0
  have e3 : f0 3 = Value.pointer (some ⟨cb, 0, none⟩) := hff 3
  clear hff
  have HCC : (fun wq => wq.cell? ⟨a.cb, 2, none⟩ = some (.map (some a.mp)) ∧ wq.cell? ⟨cb, 0, none⟩ = some (.int .i64 s) ∧ wq.cell? ⟨cb, 1, none⟩ = some (.int .i64 i)) (({ V with drawn := V.drawn + 1 } : World)) := ⟨HMV.out.c2, Blk.cell HCV.out 0, Blk.cell HCV.out 1⟩
  obtain ⟨w4, hrun, hm4, hc4, hs4⟩ := HMap.del (M := MP) (w := ({ V with drawn := V.drawn + 1 } : World)) (HMV.out.pm.same rfl) (s, i)
  replace hrun : ∀ ty, (Builtin.delete_ #[59, 32] ty #[.map (some a.mp), .agg #[.int .i64 s, .int .i64 i]]).run Try.prog ({ V with drawn := V.drawn + 1 } : World) = .ok (.tuple #[]) w4 := hrun
  refine lyp F0 rfl HCC rfl (by omega) (wanted_none rfl) (v := Value.pointer (some ⟨a.cb, 0, none⟩)) (fun wr hwr => by simp only [execOp, (F0.eval 0 (by omega)).trans (show _ = Value.pointer (some ⟨a.cb, 0, none⟩) from by simp [upd, e0, e3])]; first | rfl | simp [go_sem]) fun F1 => ?_
  refine lyp F1 rfl HCC rfl (by omega) (wanted_none rfl) (v := Value.pointer (some ⟨a.cb, 0, none⟩)) (fun wr hwr => by simp only [execOp, (F1.eval 38 (by omega)).trans (show _ = Value.pointer (some ⟨a.cb, 0, none⟩) from by simp [upd, e0, e3])]; simp [go_sem]) fun F2 => ?_
  refine lyp F2 rfl HCC rfl (by omega) (wanted_none rfl) (v := Value.pointer (some ⟨a.cb, 2, none⟩)) (fun wr hwr => by simp only [execOp, (F2.eval 39 (by omega)).trans (show _ = Value.pointer (some ⟨a.cb, 0, none⟩) from by simp [upd, e0, e3])]; simp [go_sem]) fun F3 => ?_
  refine lyp F3 rfl HCC rfl (by omega) (wanted_none rfl) (v := Value.map (some a.mp)) (fun wr hwr => by simp only [execOp, (F3.eval 40 (by omega)).trans (show _ = Value.pointer (some ⟨a.cb, 2, none⟩) from by simp [upd, e0, e3])]; simp [go_sem, hwr.1]) fun F4 => ?_
  refine lyp F4 rfl HCC rfl (by omega) (wanted_none rfl) (v := Value.pointer (some ⟨cb, 0, none⟩)) (fun wr hwr => by simp only [execOp, (F4.eval 3 (by omega)).trans (show _ = Value.pointer (some ⟨cb, 0, none⟩) from by simp [upd, e0, e3])]; simp [go_sem]) fun F5 => ?_
  refine lyp F5 rfl HCC rfl (by omega) (wanted_none rfl) (v := Value.agg #[.int .i64 s, .int .i64 i]) (fun wr hwr => by simp only [execOp, (F5.eval 42 (by omega)).trans (show _ = Value.pointer (some ⟨cb, 0, none⟩) from by simp [upd, e0, e3])]; simp [go_sem, hwr.2.1, hwr.2.2]) fun F6 => ?_
  refine lsv rfl HCC rfl (wanted_none rfl) (v := .tuple #[]) (w1 := w4) (by simp only [execOp, resolve, invoke, builtin, List.map_toArray, List.map_cons, List.map_nil, (F6.eval 41 (by omega)).trans (show _ = Value.map (some a.mp) from by simp [upd, e0, e3]), (F6.eval 43 (by omega)).trans (show _ = Value.agg #[.int .i64 s, .int .i64 i] from by simp [upd, e0, e3])]; simp [go_sem, show ∀ ty, (Builtin.delete_ #[59, 32] ty #[.map (some a.mp), .agg #[.int .i64 s, .int .i64 i]]).run Try.prog V.drew = .ok (.tuple #[]) w4 from hrun, hrun]) ?_
  refine ⟨fun h => by omega, ?_⟩
  clear F0 F1 F2 F3 F4 F5 F6 e0 e3 HCC
  simp only [Act.put, List.setIfInBounds_toArray, List.set_cons_succ, List.set_cons_zero]
  have hm5 : HMap MP w4 a.mp ((x.op.erase (s, i)).map fun c => (c, ())) := by rw [← rmK_op]; exact hm4
  have hM4 : CM a { x with op := x.op.erase (s, i) } w4 := (HMV.out.more (Below.drew (Below.refl V.heap.size V))).setP hc4 hm5
  have HM4 : Hid (CM a { x with op := x.op.erase (s, i) } w4) := hM4
  have HC4 : Hid (Blk w4 cb #[.int .i64 s, .int .i64 i, .int .i64 ee, .int .i64 vv] 36) := show Blk w4 cb #[.int .i64 s, .int .i64 i, .int .i64 ee, .int .i64 vv] 36 from Chg.blk (w := { V with drawn := V.drawn + 1 }) hc4 HCV.out (fun e => by have h1 := HMW.out.lt (k := a.mp) (Or.inr (Or.inr (Or.inl rfl))); have := HRW.out; omega)
  have HG4 : Hid (Chg a.own w w4) := ((Chg.ofBelow a.own HBV.out).drewN 1).trans hc4 (fun k hk e => by rw [e]; exact Or.inr (Or.inr (Or.inl rfl)))
  have HPU : Hid (∀ W : World, W.heap = w4.heap → Calls Try.prog 22 #[.pointer (some ⟨hb, 1, none⟩), .agg #[.int .i64 s, .int .i64 i, .int .i64 ee, .int .i64 vv]] W fun e w' => (∃ v, e = .returned v) ∧ ∃ R', RPut a.room ⟨s, i, ee, vv⟩ (x.rg s) R' ∧ Hist w' hb a.room (x.la s) R' ∧ Chg (fun k => k = hb) W w') := fun W hW => by
    have hH := hM4.hist _ _ HJ.out.1
    rw [← HJ.out.2] at hH
    exact put_any ⟨s, i, ee, vv⟩ W (hH.same (by rw [hW])) (by have := HMW.out.ok.room; omega)
  clear hm5 hM4 hrun hm4 hc4 hs4 HMV HBV HCV
  go_wp2_with fail
  try rw [show ∀ a : Act, a.put none undef = a from fun _ => rfl]
  refine wp_region_mix (fun wq => wq.cell? ⟨cb, 0, none⟩ = some (.int .i64 s) ∧ wq.cell? ⟨cb, 1, none⟩ = some (.int .i64 i) ∧ wq.cell? ⟨cb, 2, none⟩ = some (.int .i64 ee) ∧ wq.cell? ⟨cb, 3, none⟩ = some (.int .i64 vv)) (fun i => i == 4) 4 (by kernel_rfl) rfl (by kernel_rfl) (by kernel_rfl) (by kernel_rfl) ?_
  refine withFrP (N := 49) rfl ?_
  intro f0 F0 hff
  have e5 : f0 5 = Value.pointer (some ⟨hb, 0, none⟩) := hff 5
  have e3 : f0 3 = Value.pointer (some ⟨cb, 0, none⟩) := hff 3
  clear hff
  have HCC : (fun wq => wq.cell? ⟨cb, 0, none⟩ = some (.int .i64 s) ∧ wq.cell? ⟨cb, 1, none⟩ = some (.int .i64 i) ∧ wq.cell? ⟨cb, 2, none⟩ = some (.int .i64 ee) ∧ wq.cell? ⟨cb, 3, none⟩ = some (.int .i64 vv)) (({ w4 with drawn := w4.drawn + 1 } : World)) := ⟨Blk.cell HC4.out 0, Blk.cell HC4.out 1, Blk.cell HC4.out 2, Blk.cell HC4.out 3⟩
  refine lyp F0 rfl HCC rfl (by omega) (wanted_none rfl) (v := Value.pointer (some ⟨hb, 0, none⟩)) (fun wr hwr => by simp only [execOp, (F0.eval 5 (by omega)).trans (show _ = Value.pointer (some ⟨hb, 0, none⟩) from by simp [upd, e5, e3])]; first | rfl | simp [go_sem]) fun F1 => ?_
  refine lyp F1 rfl HCC rfl (by omega) (wanted_none rfl) (v := Value.pointer (some ⟨hb, 0, none⟩)) (fun wr hwr => by simp only [execOp, (F1.eval 44 (by omega)).trans (show _ = Value.pointer (some ⟨hb, 0, none⟩) from by simp [upd, e5, e3])]; simp [go_sem]) fun F2 => ?_
  refine lyp F2 rfl HCC rfl (by omega) (wanted_none rfl) (v := Value.pointer (some ⟨hb, 1, none⟩)) (fun wr hwr => by simp only [execOp, (F2.eval 45 (by omega)).trans (show _ = Value.pointer (some ⟨hb, 0, none⟩) from by simp [upd, e5, e3])]; simp [go_sem]) fun F3 => ?_
  refine lyp F3 rfl HCC rfl (by omega) (wanted_none rfl) (v := Value.agg #[.int .i64 s, .int .i64 i, .int .i64 ee, .int .i64 vv]) (fun wr hwr => by simp only [execOp, (F3.eval 3 (by omega)).trans (show _ = Value.pointer (some ⟨cb, 0, none⟩) from by simp [upd, e5, e3])]; simp [go_sem, hwr.1, hwr.2.1, hwr.2.2.1, hwr.2.2.2]) fun F4 => ?_
  refine lcp F4 rfl HCC rfl (by omega) (wanted_none rfl) (g := 22) (args := #[Value.pointer (some ⟨hb, 1, none⟩), Value.agg #[.int .i64 s, .int .i64 i, .int .i64 ee, .int .i64 vv]]) (by simp only [execOp, resolve, invoke, List.map_toArray, List.map_cons, List.map_nil, (F4.eval 46 (by omega)).trans (show _ = Value.pointer (some ⟨hb, 1, none⟩) from by simp [upd, e5, e3]), (F4.eval 47 (by omega)).trans (show _ = Value.agg #[.int .i64 s, .int .i64 i, .int .i64 ee, .int .i64 vv] from by simp [upd, e5, e3])]; simp [go_sem, Act.eval]) (HPU.out ({ w4 with drawn := w4.drawn + 1 } : World) rfl) ?_
  rintro e w5 ⟨⟨ve, rfl⟩, R', hrp, hH5, hc5⟩
  refine ⟨_, rfl, fun F5 => ?_⟩
  refine ⟨fun h => by omega, ?_⟩
  clear F0 F1 F2 F3 F4 F5 e5 e3 HCC
  simp only [Act.put, List.setIfInBounds_toArray, List.set_cons_succ, List.set_cons_zero]
  have HFI : Hid (CM a { x.setRg s R' with op := x.op.erase (s, i) } w5) := (HM4.out.more (Below.drew (Below.refl w4.heap.size w4))).setRing HJ.out.1 HJ.out.2 R' hc5 hH5
  have HG5 : Hid (Chg a.own w w5) := (HG4.out.drewN 1).trans hc5 (fun k hk e => by rw [e]; exact Or.inr (Or.inr (Or.inr (List.mem_of_getElem? HJ.out.1))))
  have HRP : Hid _ := hrp
  clear hrp hH5 hc5 HPU
  go_wp2_with fail
  go_ret
  exact ⟨rfl, ⟨R', HRP.out, HFI.out⟩, HG5.out⟩
end Go.Proofs.Ytadfmnlkfcigoaa
