import Derived.Test.YtadfmnlkfcigoaaBeg
import Derived.Test.YtadfmnlkfcigoaaJoinA
namespace Go.Proofs.Ytadfmnlkfcigoaa
open Go.RowKit Go.PlainAid Go.MapKept
set_option linter.unusedVariables false
set_option linter.unusedSimpArgs false
set_option maxRecDepth 100000 in
set_option maxHeartbeats 3200000 in
theorem begin_new {a : CA} {x : CX} (s i : Int) (w : World) (hM : CM a x w) (hs : In64 s) (hmi : mine a.me a.rep a.ses s) (hi : 1 ≤ i ∧ i ≤ 1099511627776) (hla : 0 ≤ x.la s ∧ x.la s ≤ 1099511627776) (ho : i = x.la s + 1) (hop : ∀ c ∈ x.op, c.2 ≤ x.la c.1) :
    Calls Try.prog 13 #[.pointer (some ⟨a.cb, 0, none⟩), .agg #[.int .i64 s, .int .i64 i]] w fun e w' => e = .returned (.tuple #[.agg (rpA zrp), .bool false, .int .i64 0]) ∧ CM a { x.setLa s i with op := x.op ++ [(s, i)] } w' ∧ Chg a.own w w' := by
  obtain ⟨j, hb, hj, hsj, hall⟩ := hM.seatAll hmi
  have HLK : Hid (∀ wr, CM a x wr → _) := fun wr h => hall x wr h
  have HLA : Hid (∀ wr, CM a x wr → wr.cell? ⟨hb, 0, none⟩ = some (.int .i64 (x.la s))) := fun wr h => by
    have := (h.hist j hb hj).last
    rw [← hsj] at this
    exact this
  have HJ : Hid (a.hs[j]? = some hb ∧ s = a.me + j * a.rep) := ⟨hj, hsj⟩
  clear hall hj hsj
  obtain ⟨X, hX⟩ : ∃ X, X = (w.alloc (.cells #[.int .i64 s, .int .i64 i] 32)).alloc (.cells #[.int .i64 0, .int .i64 0, .int .i64 0, .int .i64 0] 36) := ⟨_, rfl⟩
  have hb1 : Below w.heap.size w (w.alloc (.cells #[.int .i64 s, .int .i64 i] 32)) := (Below.refl _ _).alloc (Nat.le_refl _) _
  have hbX : Below w.heap.size w X := by rw [hX]; exact hb1.alloc hb1.size _
  obtain ⟨cb, hcb⟩ : ∃ cb, cb = w.heap.size := ⟨_, rfl⟩
  obtain ⟨rb, hrb⟩ : ∃ rb, rb = w.heap.size + 1 := ⟨_, rfl⟩
  have HCB : Hid (Blk X cb #[.int .i64 s, .int .i64 i] 32) := show Blk X cb #[.int .i64 s, .int .i64 i] 32 from by
    rw [hX, hcb]
    exact Blk.below (heap_alloc_new w _) ((Below.refl _ _).alloc (Nat.le_refl _) _) (by simp)
  have HRB : Hid (Blk X rb #[.int .i64 0, .int .i64 0, .int .i64 0, .int .i64 0] 36) := show Blk X rb #[.int .i64 0, .int .i64 0, .int .i64 0, .int .i64 0] 36 from by
    rw [hX, hrb]
    have := heap_alloc_new (w.alloc (.cells #[.int .i64 s, .int .i64 i] 32)) (.cells #[.int .i64 0, .int .i64 0, .int .i64 0, .int .i64 0] 36)
    rw [World.size_alloc] at this
    exact this
  have HT : Hid (CM a x X) := hM.more hbX
  have HBX : Hid (Below w.heap.size w X) := hbX
  have HRW : Hid (w.heap.size ≤ rb ∧ w.heap.size ≤ cb ∧ cb ≠ rb) := ⟨by omega, by omega, by omega⟩
  have HS : Hid (In64 s) := hs
  have HMW : Hid (CM a x w) := hM
  have hz := zero36
  clear hM hbX hb1 hs
  have HNR : Hid (∀ k, a.own k → k ≠ rb) := fun k hk e => by have := HMW.out.lt hk; have := HRW.out.1; omega
  have hi1 : ¬ i < 1 := by omega
  have hi2 : ¬ 1099511627776 < i := by omega
  have HNEW : Hid (∀ p ∈ x.op.map fun c => (c, ()), (s, i) ≠ p.1) := fun p hp e => by
    obtain ⟨c, hc, rfl⟩ := List.mem_map.1 hp
    simp only at e
    subst e
    have := hop _ hc
    simp only at this
    omega
  have ho2 : ¬ x.la s + 1 < i := by omega
  have HOI : Hid (i = x.la s + 1) := ho
  clear hop ho
  go_enter Try.func13, Try.ntmps13
  go_wp2_with fail
  rw [← hX, ← hrb, ← hcb]
  clear hX hcb hrb
  rename_i K hK
  try rw [show ∀ a : Act, a.put none undef = a from fun _ => rfl]
  refine wp_region_mix (fun wq => Below X.heap.size X wq) (fun i => i == 7 || i == 99) 99 (by kernel_rfl) rfl (by kernel_rfl) (by kernel_rfl) (by kernel_rfl) ?_
  refine withFrP (N := 85) rfl ?_
  intro f0 F0 hff
  have e0 : f0 0 = Value.pointer (some ⟨a.cb, 0, none⟩) := hff 0
  have e3 : f0 3 = Value.pointer (some ⟨cb, 0, none⟩) := hff 3
  clear hff
  have HCC : (fun wq => Below X.heap.size X wq) (({ X with drawn := X.drawn + 1 } : World)) := (Below.drew (Below.refl X.heap.size X))
  have VH : ∀ wr, Below X.heap.size X wr → wr.cell? ⟨a.cb, 1, none⟩ = some (.map (some a.ms)) := fun wr hw => (HT.out.more hw).c1
  have VS : ∀ wr, Below X.heap.size X wr → wr.cell? ⟨cb, 0, none⟩ = some (.int .i64 s) := fun wr hw => (Blk.below HCB.out hw (Blk.lt HCB.out)).cell 0
  refine lyp F0 rfl HCC rfl (by omega) (wanted_none rfl) (v := Value.pointer (some ⟨a.cb, 0, none⟩)) (fun wr hwr => by simp only [execOp, (F0.eval 0 (by omega)).trans (show _ = Value.pointer (some ⟨a.cb, 0, none⟩) from by simp [upd, e0, e3])]; first | rfl | simp [go_sem]) fun F1 => ?_
  refine lyp F1 rfl HCC rfl (by omega) (wanted_none rfl) (v := Value.pointer (some ⟨a.cb, 0, none⟩)) (fun wr hwr => by simp only [execOp, (F1.eval 12 (by omega)).trans (show _ = Value.pointer (some ⟨a.cb, 0, none⟩) from by simp [upd, e0, e3])]; simp [go_sem]) fun F2 => ?_
  refine lyp F2 rfl HCC rfl (by omega) (wanted_none rfl) (v := Value.pointer (some ⟨a.cb, 1, none⟩)) (fun wr hwr => by simp only [execOp, (F2.eval 13 (by omega)).trans (show _ = Value.pointer (some ⟨a.cb, 0, none⟩) from by simp [upd, e0, e3])]; simp [go_sem]) fun F3 => ?_
  refine lyp F3 rfl HCC rfl (by omega) (wanted_none rfl) (v := Value.map (some a.ms)) (fun wr hwr => by simp only [execOp, (F3.eval 14 (by omega)).trans (show _ = Value.pointer (some ⟨a.cb, 1, none⟩) from by simp [upd, e0, e3])]; simp [go_sem, VH wr hwr]) fun F4 => ?_
  refine lyp F4 rfl HCC rfl (by omega) (wanted_none rfl) (v := Value.pointer (some ⟨a.cb, 0, none⟩)) (fun wr hwr => by simp only [execOp, (F4.eval 0 (by omega)).trans (show _ = Value.pointer (some ⟨a.cb, 0, none⟩) from by simp [upd, e0, e3])]; first | rfl | simp [go_sem]) fun F5 => ?_
  refine lyp F5 rfl HCC rfl (by omega) (wanted_none rfl) (v := Value.pointer (some ⟨cb, 0, none⟩)) (fun wr hwr => by simp only [execOp, (F5.eval 3 (by omega)).trans (show _ = Value.pointer (some ⟨cb, 0, none⟩) from by simp [upd, e0, e3])]; simp [go_sem]) fun F6 => ?_
  refine lyp F6 rfl HCC rfl (by omega) (wanted_none rfl) (v := Value.int .i64 s) (fun wr hwr => by simp only [execOp, (F6.eval 17 (by omega)).trans (show _ = Value.pointer (some ⟨cb, 0, none⟩) from by simp [upd, e0, e3])]; simp [go_sem, VS wr hwr]) fun F7 => ?_
  refine lcp F7 rfl HCC rfl (by omega) (wanted_none rfl) (g := 20) (args := #[Value.pointer (some ⟨a.cb, 0, none⟩), Value.int .i64 s]) (by simp only [execOp, resolve, invoke, List.map_toArray, List.map_cons, List.map_nil, (F7.eval 16 (by omega)).trans (show _ = Value.pointer (some ⟨a.cb, 0, none⟩) from by simp [upd, e0, e3]), (F7.eval 18 (by omega)).trans (show _ = Value.int .i64 s from by simp [upd, e0, e3])]; simp [go_sem, Act.eval]) (seatOf_any s _ (HT.out.more HCC) HS.out) ?_
  rintro e w1 ⟨rfl, hw1⟩
  have HC1 : (fun wq => Below X.heap.size X wq) w1 := HCC.trans (hw1.mono HCC.size)
  refine ⟨_, rfl, fun F8 => ?_⟩
  refine lyp F8 rfl HC1 rfl (by omega) (wanted_none rfl) (v := Value.tuple #[.pointer (some ⟨hb, 0, none⟩), .bool true]) (fun wr hwr => by simp only [execOp, (F8.eval 15 (by omega)).trans (show _ = Value.map (some a.ms) from by simp [upd, e0, e3]), (F8.eval 19 (by omega)).trans (show _ = callV (Int.tmod s a.rep, Int.tdiv s a.rep) from by simp [upd, e0, e3])]; simp [go_sem, HLK.out wr (HT.out.more hwr)]) fun F9 => ?_
  refine lyp F9 rfl HC1 rfl (by omega) (wanted_none rfl) (v := Value.tuple #[.pointer (some ⟨hb, 0, none⟩), .bool true]) (fun wr hwr => by simp only [execOp, (F9.eval 20 (by omega)).trans (show _ = Value.tuple #[.pointer (some ⟨hb, 0, none⟩), .bool true] from by simp [upd, e0, e3])]; first | rfl | simp [go_sem]) fun F10 => ?_
  refine lyp F10 rfl HC1 rfl (by omega) (wanted_none rfl) (v := Value.pointer (some ⟨hb, 0, none⟩)) (fun wr hwr => by simp only [execOp, (F10.eval 11 (by omega)).trans (show _ = Value.tuple #[.pointer (some ⟨hb, 0, none⟩), .bool true] from by simp [upd, e0, e3])]; simp [go_sem]) fun F11 => ?_
  refine lyp F11 rfl HC1 rfl (by omega) (wanted_none rfl) (v := Value.bool true) (fun wr hwr => by simp only [execOp, (F11.eval 11 (by omega)).trans (show _ = Value.tuple #[.pointer (some ⟨hb, 0, none⟩), .bool true] from by simp [upd, e0, e3])]; simp [go_sem]) fun F12 => ?_
  refine lyp F12 rfl HC1 rfl (by omega) (wanted_none rfl) (v := Value.pointer (some ⟨hb, 0, none⟩)) (fun wr hwr => by simp only [execOp, (F12.eval 21 (by omega)).trans (show _ = Value.pointer (some ⟨hb, 0, none⟩) from by simp [upd, e0, e3])]; first | rfl | simp [go_sem]) fun F13 => ?_
  refine lyp F13 rfl HC1 rfl (by omega) (wanted_none rfl) (v := Value.bool true) (fun wr hwr => by simp only [execOp, (F13.eval 22 (by omega)).trans (show _ = Value.bool true from by simp [upd, e0, e3])]; first | rfl | simp [go_sem]) fun F14 => ?_
  refine ⟨fun _ => HC1, ?_⟩
  refine hK _ _ ?_
  clear F0 F1 F2 F3 F4 F5 F6 F7 F8 F9 F10 F11 F12 F13 F14 e0 e3 HCC VH VS
  simp only [Act.put, List.setIfInBounds_toArray, List.set_cons_succ, List.set_cons_zero]
  obtain ⟨V, hV⟩ : ∃ V, V = w1 := ⟨_, rfl⟩
  rw [← hV] at HC1 ⊢
  have HCV : Hid (Blk V cb #[.int .i64 s, .int .i64 i] 32) := show Blk V cb #[.int .i64 s, .int .i64 i] 32 from Blk.below HCB.out HC1 (Blk.lt HCB.out)
  have HRV : Hid (Blk V rb #[.int .i64 0, .int .i64 0, .int .i64 0, .int .i64 0] 36) := show Blk V rb #[.int .i64 0, .int .i64 0, .int .i64 0, .int .i64 0] 36 from Blk.below HRB.out HC1 (Blk.lt HRB.out)
  have HMV : Hid (CM a x V) := HT.out.more HC1
  have HBV : Hid (Below w.heap.size w V) := HBX.out.trans (HC1.mono HBX.out.size)
  clear HC1 hw1 hV
  have i1 : V.cell? ⟨cb, 1, none⟩ = some (.int .i64 i) := Blk.cell HCV.out 1
  have l0 : V.cell? ⟨hb, 0, none⟩ = some (.int .i64 (x.la s)) := HLA.out V HMV.out
  clear HLK HT HCB HRB
  go_wp2_with fail
  go_quiet (fail)
  obtain ⟨V2, hV2⟩ : ∃ V2, V2 = V.drewN nq := ⟨_, rfl⟩
  rw [← hV2]
  have HCV2 : Hid (Blk V2 cb #[.int .i64 s, .int .i64 i] 32) := show Blk V2 cb #[.int .i64 s, .int .i64 i] 32 from by rw [hV2]; exact HCV.out
  have HRV2 : Hid (Blk V2 rb #[.int .i64 0, .int .i64 0, .int .i64 0, .int .i64 0] 36) := show Blk V2 rb #[.int .i64 0, .int .i64 0, .int .i64 0, .int .i64 0] 36 from by rw [hV2]; exact HRV.out
  have HMV2 : Hid (CM a x V2) := show CM a x V2 from by rw [hV2]; exact HMV.out.more (below_drewN (Below.refl _ _) nq)
  have HBV2 : Hid (Below w.heap.size w V2) := show Below w.heap.size w V2 from by rw [hV2]; exact below_drewN HBV.out nq
  clear i1 l0 HCV HRV HMV HBV hV2
  have HCV := HCV2
  have HRV := HRV2
  have HMV := HMV2
  have HBV := HBV2
  clear HCV2 HRV2 HMV2 HBV2
  have i1 : V2.cell? ⟨cb, 1, none⟩ = some (.int .i64 i) := Blk.cell HCV.out 1
  have l0 : V2.cell? ⟨hb, 0, none⟩ = some (.int .i64 (x.la s)) := HLA.out V2 HMV.out
  go_wp2_with fail
  go_quiet (fail)
  rw [show (i == x.la s + 1) = true from by simpa using HOI.out]
  obtain ⟨V3, hV3⟩ : ∃ V3, V3 = V2.drewN nq := ⟨_, rfl⟩
  rw [← hV3]
  have HCV2 : Hid (Blk V3 cb #[.int .i64 s, .int .i64 i] 32) := show Blk V3 cb #[.int .i64 s, .int .i64 i] 32 from by rw [hV3]; exact HCV.out
  have HRV2 : Hid (Blk V3 rb #[.int .i64 0, .int .i64 0, .int .i64 0, .int .i64 0] 36) := show Blk V3 rb #[.int .i64 0, .int .i64 0, .int .i64 0, .int .i64 0] 36 from by rw [hV3]; exact HRV.out
  have HMV2 : Hid (CM a x V3) := show CM a x V3 from by rw [hV3]; exact HMV.out.more (below_drewN (Below.refl _ _) nq)
  have HBV2 : Hid (Below w.heap.size w V3) := show Below w.heap.size w V3 from by rw [hV3]; exact below_drewN HBV.out nq
  clear i1 l0 HCV HRV HMV HBV hV3
  have HCV := HCV2
  have HRV := HRV2
  have HMV := HMV2
  have HBV := HBV2
  clear HCV2 HRV2 HMV2 HBV2
  have i1 : V3.cell? ⟨cb, 1, none⟩ = some (.int .i64 i) := Blk.cell HCV.out 1
  have l0 : V3.cell? ⟨hb, 0, none⟩ = some (.int .i64 (x.la s)) := HLA.out V3 HMV.out
  have fz : V3.frozen? ⟨hb, 0, none⟩ = false := by
    obtain ⟨C, hB⟩ := (HMV.out.hist _ _ HJ.out.1).blk
    exact hB.frozen 0
  obtain ⟨Y, hY⟩ : ∃ Y, Y = V3.setCell ⟨hb, 0, none⟩ (.int .i64 i) := ⟨_, rfl⟩
  obtain ⟨hMY, hCY⟩ := HMV.out.setLast HJ.out.1 HJ.out.2 i
  rw [← hY] at hMY hCY
  have HMY : Hid (CM a (x.setLa s i) Y) := hMY
  have HCH : Hid (Chg a.own w Y) := (Chg.ofBelow a.own HBV.out).trans hCY (fun k hk e => by rw [e]; exact Or.inr (Or.inr (Or.inr (List.mem_of_getElem? HJ.out.1))))
  have HBN : Hid (hb ≠ cb ∧ hb ≠ rb) := by
    have h1 := HMW.out.lt (Or.inr (Or.inr (Or.inr (List.mem_of_getElem? HJ.out.1))))
    have := HRW.out
    exact ⟨by omega, by omega⟩
  have HCY : Hid (Blk Y cb #[.int .i64 s, .int .i64 i] 32) := show Blk Y cb #[.int .i64 s, .int .i64 i] 32 from hCY.blk HCV.out (fun e => HBN.out.1 e.symm)
  have HRY : Hid (Blk Y rb #[.int .i64 0, .int .i64 0, .int .i64 0, .int .i64 0] 36) := show Blk Y rb #[.int .i64 0, .int .i64 0, .int .i64 0, .int .i64 0] 36 from hCY.blk HRV.out (fun e => HBN.out.2 e.symm)
  clear hMY hCY HMV HBV HCV HRV ho2 hla
  go_wp2_with fail
  rw [← hY]
  clear hY fz l0 i1
  try rw [show ∀ a : Act, a.put none undef = a from fun _ => rfl]
  refine wp_region_mix (fun wq => wq.cell? ⟨a.cb, 2, none⟩ = some (.map (some a.mp)) ∧ wq.cell? ⟨cb, 0, none⟩ = some (.int .i64 s) ∧ wq.cell? ⟨cb, 1, none⟩ = some (.int .i64 i)) (fun i => i == 6) 6 (by kernel_rfl) rfl (by kernel_rfl) (by kernel_rfl) (by kernel_rfl) ?_
  refine withFrP (N := 85) rfl ?_
  intro f0 F0 hff
  have e0 : f0 0 = Value.pointer (some ⟨a.cb, 0, none⟩) := hff 0
  have e3 : f0 3 = Value.pointer (some ⟨cb, 0, none⟩) := hff 3
  clear hff
  have HCC : (fun wq => wq.cell? ⟨a.cb, 2, none⟩ = some (.map (some a.mp)) ∧ wq.cell? ⟨cb, 0, none⟩ = some (.int .i64 s) ∧ wq.cell? ⟨cb, 1, none⟩ = some (.int .i64 i)) (({ Y with drawn := Y.drawn + 1 } : World)) := ⟨HMY.out.c2, Blk.cell HCY.out 0, Blk.cell HCY.out 1⟩
  obtain ⟨w4, hrun, hm4, hc4, hs4⟩ := HMap.put (M := MP) (w := ({ Y with drawn := Y.drawn + 1 } : World)) (HMY.out.pm.same rfl) (s, i) () HNEW.out
  replace hrun : (Instr.mapUpdate 59 (.map (some a.mp)) (.agg #[.int .i64 s, .int .i64 i]) (.agg #[])).run Try.prog ({ Y with drawn := Y.drawn + 1 } : World) = .ok () w4 := hrun
  refine lyp F0 rfl HCC rfl (by omega) (wanted_none rfl) (v := Value.pointer (some ⟨a.cb, 0, none⟩)) (fun wr hwr => by simp only [execOp, (F0.eval 0 (by omega)).trans (show _ = Value.pointer (some ⟨a.cb, 0, none⟩) from by simp [upd, e0, e3])]; first | rfl | simp [go_sem]) fun F1 => ?_
  refine lyp F1 rfl HCC rfl (by omega) (wanted_none rfl) (v := Value.pointer (some ⟨a.cb, 0, none⟩)) (fun wr hwr => by simp only [execOp, (F1.eval 61 (by omega)).trans (show _ = Value.pointer (some ⟨a.cb, 0, none⟩) from by simp [upd, e0, e3])]; simp [go_sem]) fun F2 => ?_
  refine lyp F2 rfl HCC rfl (by omega) (wanted_none rfl) (v := Value.pointer (some ⟨a.cb, 2, none⟩)) (fun wr hwr => by simp only [execOp, (F2.eval 62 (by omega)).trans (show _ = Value.pointer (some ⟨a.cb, 0, none⟩) from by simp [upd, e0, e3])]; simp [go_sem]) fun F3 => ?_
  refine lyp F3 rfl HCC rfl (by omega) (wanted_none rfl) (v := Value.map (some a.mp)) (fun wr hwr => by simp only [execOp, (F3.eval 63 (by omega)).trans (show _ = Value.pointer (some ⟨a.cb, 2, none⟩) from by simp [upd, e0, e3])]; simp [go_sem, hwr.1]) fun F4 => ?_
  refine lyp F4 rfl HCC rfl (by omega) (wanted_none rfl) (v := Value.agg #[.int .i64 s, .int .i64 i]) (fun wr hwr => by simp only [execOp, (F4.eval 3 (by omega)).trans (show _ = Value.pointer (some ⟨cb, 0, none⟩) from by simp [upd, e0, e3])]; simp [go_sem, hwr.2.1, hwr.2.2]) fun F5 => ?_
  refine lyp F5 rfl HCC rfl (by omega) (wanted_none rfl) (v := Value.agg #[]) (fun wr hwr => by simp only [execOp]; simp [go_sem, zero74]) fun F6 => ?_
  refine lst rfl HCC rfl (wanted_none rfl) (w1 := w4) (by simp only [execOp, (F6.eval 64 (by omega)).trans (show _ = Value.map (some a.mp) from by simp [upd, e0, e3]), (F6.eval 65 (by omega)).trans (show _ = Value.agg #[.int .i64 s, .int .i64 i] from by simp [upd, e0, e3]), (F6.eval 66 (by omega)).trans (show _ = Value.agg #[] from by simp [upd, e0, e3])]; simp [go_sem, show (Instr.mapUpdate 59 (.map (some a.mp)) (.agg #[.int .i64 s, .int .i64 i]) (.agg #[])).run Try.prog Y.drew = .ok () w4 from hrun, hrun]) ?_
  refine ⟨fun h => by omega, ?_⟩
  clear F0 F1 F2 F3 F4 F5 F6 e0 e3 HCC
  simp only [Act.put, List.setIfInBounds_toArray, List.set_cons_succ, List.set_cons_zero]
  have hm5 : HMap MP w4 a.mp ((x.op ++ [(s, i)]).map fun c => (c, ())) := by simpa [CX.setLa] using hm4
  have hM4 : CM a { x.setLa s i with op := x.op ++ [(s, i)] } w4 := (HMY.out.more (Below.drew (Below.refl Y.heap.size Y))).setP hc4 hm5
  have hR4 : Blk w4 rb #[.int .i64 0, .int .i64 0, .int .i64 0, .int .i64 0] 36 := Chg.blk (w := { Y with drawn := Y.drawn + 1 }) hc4 HRY.out (fun e => HNR.out a.mp (Or.inr (Or.inr (Or.inl rfl))) e.symm)
  have HMV : Hid (CM a { x.setLa s i with op := x.op ++ [(s, i)] } w4) := hM4
  have HRV : Hid (Blk w4 rb #[.int .i64 0, .int .i64 0, .int .i64 0, .int .i64 0] 36) := hR4
  have HCH4 : Hid (Chg a.own w w4) := (HCH.out.drewN 1).trans hc4 (fun k hk e => by rw [e]; exact Or.inr (Or.inr (Or.inl rfl)))
  clear hm5 hM4 hR4 hrun hm4 hc4 hs4
  have z0 : w4.cell? ⟨rb, 0, none⟩ = some (.int .i64 0) := Blk.cell HRV.out 0
  have z1 : w4.cell? ⟨rb, 1, none⟩ = some (.int .i64 0) := Blk.cell HRV.out 1
  have z2 : w4.cell? ⟨rb, 2, none⟩ = some (.int .i64 0) := Blk.cell HRV.out 2
  have z3 : w4.cell? ⟨rb, 3, none⟩ = some (.int .i64 0) := Blk.cell HRV.out 3
  have y0 : w4.frozen? ⟨rb, 0, none⟩ = false := Blk.frozen HRV.out 0
  have y1 : w4.frozen? ⟨rb, 1, none⟩ = false := Blk.frozen HRV.out 1
  have y2 : w4.frozen? ⟨rb, 2, none⟩ = false := Blk.frozen HRV.out 2
  have y3 : w4.frozen? ⟨rb, 3, none⟩ = false := Blk.frozen HRV.out 3
  go_wp2_with fail
  obtain ⟨b4, c4, l4⟩ := blk4 HRV.out (.int .i64 0) (.int .i64 0) (.int .i64 0) (.int .i64 0)
  refine bodyPost_ret (results_cell3 Try.results13 _ _ rb _ _ _ rfl rfl rfl b4 (by kernel_rfl)) rfl ?_
  exact ⟨rfl, (HMV.out).keep c4 (fun k hk e => HNR.out k hk e), (HCH4.out).trans c4 (fun j hj e => by have := HRW.out.1; omega)⟩
end Go.Proofs.Ytadfmnlkfcigoaa
