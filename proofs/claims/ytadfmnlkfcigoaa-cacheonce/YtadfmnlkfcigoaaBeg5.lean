import Derived.Test.YtadfmnlkfcigoaaBeg
import Derived.Test.YtadfmnlkfcigoaaJoinA
namespace Go.Proofs.Ytadfmnlkfcigoaa
open Go.RowKit Go.PlainAid Go.MapKept
set_option linter.unusedVariables false
set_option linter.unusedSimpArgs false
set_option maxRecDepth 100000 in
set_option maxHeartbeats 3200000 in
theorem begin_stale {a : CA} {x : CX} (s i : Int) (w : World) (hM : CM a x w) (hs : In64 s) (hmi : mine a.me a.rep a.ses s) (hi : 1 ≤ i ∧ i ≤ 1099511627776) (hla : 0 ≤ x.la s ∧ x.la s ≤ 1099511627776) (ho : i ≤ x.la s) (hin : isIn (s, i) x.op = false) (hrf : rfind i (x.rg s) = none) :
    Calls Try.prog 13 #[.pointer (some ⟨a.cb, 0, none⟩), .agg #[.int .i64 s, .int .i64 i]] w fun e w' => e = .returned (.tuple #[.agg (rpA zrp), .bool false, .int .i64 130]) ∧ CM a x w' ∧ Chg a.own w w' := by
  obtain ⟨rr, hrr⟩ : ∃ rr, rr = zrp := ⟨_, rfl⟩
  have HRF : Hid _ := hrf
  clear hrf
  obtain ⟨j, hb, hj, hsj, hall⟩ := hM.seatAll hmi
  have HLK : Hid (∀ wr, CM a x wr → _) := fun wr h => hall x wr h
  have HLA : Hid (∀ wr, CM a x wr → wr.cell? ⟨hb, 0, none⟩ = some (.int .i64 (x.la s))) := fun wr h => by
    have := (h.hist j hb hj).last
    rw [← hsj] at this
    exact this
  have HJ : Hid (a.hs[j]? = some hb ∧ s = a.me + j * a.rep) := ⟨hj, hsj⟩
  clear hall hj hsj
  obtain ⟨X, hX⟩ : ∃ X, X = (w.alloc (.cells #[.int .i64 s, .int .i64 i] 32)).alloc (.cells #[.int .i64 0, .int .i64 0, .int .i64 0, .int .i64 0] 36) := ⟨_, rfl⟩
  have hb1 : Below w.heap.size w (w.alloc (.cells #[.int .i64 s, .int .i64 i] 32)) := (Below.refl _ _).alloc (Nat.le_refl _) _
  have hbX : Below w.heap.size w X := by rw [hX]; exact hb1.alloc hb1.size _
  obtain ⟨cb, hcb⟩ : ∃ cb, cb = w.heap.size := ⟨_, rfl⟩
  obtain ⟨rb, hrb⟩ : ∃ rb, rb = w.heap.size + 1 := ⟨_, rfl⟩
  have HCB : Hid (Blk X cb #[.int .i64 s, .int .i64 i] 32) := show Blk X cb #[.int .i64 s, .int .i64 i] 32 from by
    rw [hX, hcb]
    exact Blk.below (heap_alloc_new w _) ((Below.refl _ _).alloc (Nat.le_refl _) _) (by simp)
  have HRB : Hid (Blk X rb #[.int .i64 0, .int .i64 0, .int .i64 0, .int .i64 0] 36) := show Blk X rb #[.int .i64 0, .int .i64 0, .int .i64 0, .int .i64 0] 36 from by
    rw [hX, hrb]
    have := heap_alloc_new (w.alloc (.cells #[.int .i64 s, .int .i64 i] 32)) (.cells #[.int .i64 0, .int .i64 0, .int .i64 0, .int .i64 0] 36)
    rw [World.size_alloc] at this
    exact this
  have HT : Hid (CM a x X) := hM.more hbX
  have HBX : Hid (Below w.heap.size w X) := hbX
  have HRW : Hid (w.heap.size ≤ rb ∧ w.heap.size ≤ cb ∧ cb ≠ rb) := ⟨by omega, by omega, by omega⟩
  have HS : Hid (In64 s) := hs
  have HMW : Hid (CM a x w) := hM
  have hz := zero36
  clear hM hbX hb1 hs
  have HNR : Hid (∀ k, a.own k → k ≠ rb) := fun k hk e => by have := HMW.out.lt hk; have := HRW.out.1; omega
  have hi1 : ¬ i < 1 := by omega
  have hi2 : ¬ 1099511627776 < i := by omega
  have ho2 : ¬ x.la s + 1 < i := by omega
  have ho3 : ¬ i = x.la s + 1 := by omega
  have HIP : Hid (∀ W, CM a x W → Calls Try.prog 21 #[.pointer (some ⟨a.cb, 0, none⟩), .agg #[.int .i64 s, .int .i64 i]] W fun e w' => e = .returned (.bool false) ∧ Below W.heap.size W w') := fun W h => by
    have := isPending_any (s, i) W h
    rw [hin] at this
    exact this
  clear hin
  go_enter Try.func13, Try.ntmps13
  go_wp2_with fail
  rw [← hX, ← hrb, ← hcb]
  clear hX hcb hrb
  rename_i K hK
  try rw [show ∀ a : Act, a.put none undef = a from fun _ => rfl]
  refine wp_region_mix (fun wq => Below X.heap.size X wq) (fun i => i == 7 || i == 99) 99 (by kernel_rfl) rfl (by kernel_rfl) (by kernel_rfl) (by kernel_rfl) ?_
  refine withFrP (N := 85) rfl ?_
  intro f0 F0 hff
  have e0 : f0 0 = Value.pointer (some ⟨a.cb, 0, none⟩) := hff 0
  have e3 : f0 3 = Value.pointer (some ⟨cb, 0, none⟩) := hff 3
  clear hff
  have HCC : (fun wq => Below X.heap.size X wq) (({ X with drawn := X.drawn + 1 } : World)) := (Below.drew (Below.refl X.heap.size X))
  have VH : ∀ wr, Below X.heap.size X wr → wr.cell? ⟨a.cb, 1, none⟩ = some (.map (some a.ms)) := fun wr hw => (HT.out.more hw).c1
  have VS : ∀ wr, Below X.heap.size X wr → wr.cell? ⟨cb, 0, none⟩ = some (.int .i64 s) := fun wr hw => (Blk.below HCB.out hw (Blk.lt HCB.out)).cell 0
  refine lyp F0 rfl HCC rfl (by omega) (wanted_none rfl) (v := Value.pointer (some ⟨a.cb, 0, none⟩)) (fun wr hwr => by simp only [execOp, (F0.eval 0 (by omega)).trans (show _ = Value.pointer (some ⟨a.cb, 0, none⟩) from by simp [upd, e0, e3])]; first | rfl | simp [go_sem]) fun F1 => ?_
  refine lyp F1 rfl HCC rfl (by omega) (wanted_none rfl) (v := Value.pointer (some ⟨a.cb, 0, none⟩)) (fun wr hwr => by simp only [execOp, (F1.eval 12 (by omega)).trans (show _ = Value.pointer (some ⟨a.cb, 0, none⟩) from by simp [upd, e0, e3])]; simp [go_sem]) fun F2 => ?_
  refine lyp F2 rfl HCC rfl (by omega) (wanted_none rfl) (v := Value.pointer (some ⟨a.cb, 1, none⟩)) (fun wr hwr => by simp only [execOp, (F2.eval 13 (by omega)).trans (show _ = Value.pointer (some ⟨a.cb, 0, none⟩) from by simp [upd, e0, e3])]; simp [go_sem]) fun F3 => ?_
  refine lyp F3 rfl HCC rfl (by omega) (wanted_none rfl) (v := Value.map (some a.ms)) (fun wr hwr => by simp only [execOp, (F3.eval 14 (by omega)).trans (show _ = Value.pointer (some ⟨a.cb, 1, none⟩) from by simp [upd, e0, e3])]; simp [go_sem, VH wr hwr]) fun F4 => ?_
  refine lyp F4 rfl HCC rfl (by omega) (wanted_none rfl) (v := Value.pointer (some ⟨a.cb, 0, none⟩)) (fun wr hwr => by simp only [execOp, (F4.eval 0 (by omega)).trans (show _ = Value.pointer (some ⟨a.cb, 0, none⟩) from by simp [upd, e0, e3])]; first | rfl | simp [go_sem]) fun F5 => ?_
  refine lyp F5 rfl HCC rfl (by omega) (wanted_none rfl) (v := Value.pointer (some ⟨cb, 0, none⟩)) (fun wr hwr => by simp only [execOp, (F5.eval 3 (by omega)).trans (show _ = Value.pointer (some ⟨cb, 0, none⟩) from by simp [upd, e0, e3])]; simp [go_sem]) fun F6 => ?_
  refine lyp F6 rfl HCC rfl (by omega) (wanted_none rfl) (v := Value.int .i64 s) (fun wr hwr => by simp only [execOp, (F6.eval 17 (by omega)).trans (show _ = Value.pointer (some ⟨cb, 0, none⟩) from by simp [upd, e0, e3])]; simp [go_sem, VS wr hwr]) fun F7 => ?_
  refine lcp F7 rfl HCC rfl (by omega) (wanted_none rfl) (g := 20) (args := #[Value.pointer (some ⟨a.cb, 0, none⟩), Value.int .i64 s]) (by simp only [execOp, resolve, invoke, List.map_toArray, List.map_cons, List.map_nil, (F7.eval 16 (by omega)).trans (show _ = Value.pointer (some ⟨a.cb, 0, none⟩) from by simp [upd, e0, e3]), (F7.eval 18 (by omega)).trans (show _ = Value.int .i64 s from by simp [upd, e0, e3])]; simp [go_sem, Act.eval]) (seatOf_any s _ (HT.out.more HCC) HS.out) ?_
  rintro e w1 ⟨rfl, hw1⟩
  have HC1 : (fun wq => Below X.heap.size X wq) w1 := HCC.trans (hw1.mono HCC.size)
  refine ⟨_, rfl, fun F8 => ?_⟩
  refine lyp F8 rfl HC1 rfl (by omega) (wanted_none rfl) (v := Value.tuple #[.pointer (some ⟨hb, 0, none⟩), .bool true]) (fun wr hwr => by simp only [execOp, (F8.eval 15 (by omega)).trans (show _ = Value.map (some a.ms) from by simp [upd, e0, e3]), (F8.eval 19 (by omega)).trans (show _ = callV (Int.tmod s a.rep, Int.tdiv s a.rep) from by simp [upd, e0, e3])]; simp [go_sem, HLK.out wr (HT.out.more hwr)]) fun F9 => ?_
  refine lyp F9 rfl HC1 rfl (by omega) (wanted_none rfl) (v := Value.tuple #[.pointer (some ⟨hb, 0, none⟩), .bool true]) (fun wr hwr => by simp only [execOp, (F9.eval 20 (by omega)).trans (show _ = Value.tuple #[.pointer (some ⟨hb, 0, none⟩), .bool true] from by simp [upd, e0, e3])]; first | rfl | simp [go_sem]) fun F10 => ?_
  refine lyp F10 rfl HC1 rfl (by omega) (wanted_none rfl) (v := Value.pointer (some ⟨hb, 0, none⟩)) (fun wr hwr => by simp only [execOp, (F10.eval 11 (by omega)).trans (show _ = Value.tuple #[.pointer (some ⟨hb, 0, none⟩), .bool true] from by simp [upd, e0, e3])]; simp [go_sem]) fun F11 => ?_
  refine lyp F11 rfl HC1 rfl (by omega) (wanted_none rfl) (v := Value.bool true) (fun wr hwr => by simp only [execOp, (F11.eval 11 (by omega)).trans (show _ = Value.tuple #[.pointer (some ⟨hb, 0, none⟩), .bool true] from by simp [upd, e0, e3])]; simp [go_sem]) fun F12 => ?_
  refine lyp F12 rfl HC1 rfl (by omega) (wanted_none rfl) (v := Value.pointer (some ⟨hb, 0, none⟩)) (fun wr hwr => by simp only [execOp, (F12.eval 21 (by omega)).trans (show _ = Value.pointer (some ⟨hb, 0, none⟩) from by simp [upd, e0, e3])]; first | rfl | simp [go_sem]) fun F13 => ?_
  refine lyp F13 rfl HC1 rfl (by omega) (wanted_none rfl) (v := Value.bool true) (fun wr hwr => by simp only [execOp, (F13.eval 22 (by omega)).trans (show _ = Value.bool true from by simp [upd, e0, e3])]; first | rfl | simp [go_sem]) fun F14 => ?_
  refine ⟨fun _ => HC1, ?_⟩
  refine hK _ _ ?_
  clear F0 F1 F2 F3 F4 F5 F6 F7 F8 F9 F10 F11 F12 F13 F14 e0 e3 HCC VH VS
  simp only [Act.put, List.setIfInBounds_toArray, List.set_cons_succ, List.set_cons_zero]
  obtain ⟨V, hV⟩ : ∃ V, V = w1 := ⟨_, rfl⟩
  rw [← hV] at HC1 ⊢
  have HCV : Hid (Blk V cb #[.int .i64 s, .int .i64 i] 32) := show Blk V cb #[.int .i64 s, .int .i64 i] 32 from Blk.below HCB.out HC1 (Blk.lt HCB.out)
  have HRV : Hid (Blk V rb #[.int .i64 0, .int .i64 0, .int .i64 0, .int .i64 0] 36) := show Blk V rb #[.int .i64 0, .int .i64 0, .int .i64 0, .int .i64 0] 36 from Blk.below HRB.out HC1 (Blk.lt HRB.out)
  have HMV : Hid (CM a x V) := HT.out.more HC1
  have HBV : Hid (Below w.heap.size w V) := HBX.out.trans (HC1.mono HBX.out.size)
  clear HC1 hw1 hV
  have i1 : V.cell? ⟨cb, 1, none⟩ = some (.int .i64 i) := Blk.cell HCV.out 1
  have l0 : V.cell? ⟨hb, 0, none⟩ = some (.int .i64 (x.la s)) := HLA.out V HMV.out
  clear HLK HT HCB HRB
  go_wp2_with fail
  go_quiet (fail)
  obtain ⟨V2, hV2⟩ : ∃ V2, V2 = V.drewN nq := ⟨_, rfl⟩
  rw [← hV2]
  have HCV2 : Hid (Blk V2 cb #[.int .i64 s, .int .i64 i] 32) := show Blk V2 cb #[.int .i64 s, .int .i64 i] 32 from by rw [hV2]; exact HCV.out
  have HRV2 : Hid (Blk V2 rb #[.int .i64 0, .int .i64 0, .int .i64 0, .int .i64 0] 36) := show Blk V2 rb #[.int .i64 0, .int .i64 0, .int .i64 0, .int .i64 0] 36 from by rw [hV2]; exact HRV.out
  have HMV2 : Hid (CM a x V2) := show CM a x V2 from by rw [hV2]; exact HMV.out.more (below_drewN (Below.refl _ _) nq)
  have HBV2 : Hid (Below w.heap.size w V2) := show Below w.heap.size w V2 from by rw [hV2]; exact below_drewN HBV.out nq
  clear i1 l0 HCV HRV HMV HBV hV2
  have HCV := HCV2
  have HRV := HRV2
  have HMV := HMV2
  have HBV := HBV2
  clear HCV2 HRV2 HMV2 HBV2
  have i1 : V2.cell? ⟨cb, 1, none⟩ = some (.int .i64 i) := Blk.cell HCV.out 1
  have l0 : V2.cell? ⟨hb, 0, none⟩ = some (.int .i64 (x.la s)) := HLA.out V2 HMV.out
  go_wp2_with fail
  go_quiet (fail)
  obtain ⟨V3, hV3⟩ : ∃ V3, V3 = V2.drewN nq := ⟨_, rfl⟩
  rw [← hV3]
  have HCV2 : Hid (Blk V3 cb #[.int .i64 s, .int .i64 i] 32) := show Blk V3 cb #[.int .i64 s, .int .i64 i] 32 from by rw [hV3]; exact HCV.out
  have HRV2 : Hid (Blk V3 rb #[.int .i64 0, .int .i64 0, .int .i64 0, .int .i64 0] 36) := show Blk V3 rb #[.int .i64 0, .int .i64 0, .int .i64 0, .int .i64 0] 36 from by rw [hV3]; exact HRV.out
  have HMV2 : Hid (CM a x V3) := show CM a x V3 from by rw [hV3]; exact HMV.out.more (below_drewN (Below.refl _ _) nq)
  have HBV2 : Hid (Below w.heap.size w V3) := show Below w.heap.size w V3 from by rw [hV3]; exact below_drewN HBV.out nq
  clear i1 l0 HCV HRV HMV HBV hV3
  have HCV := HCV2
  have HRV := HRV2
  have HMV := HMV2
  have HBV := HBV2
  clear HCV2 HRV2 HMV2 HBV2
  have i1 : V3.cell? ⟨cb, 1, none⟩ = some (.int .i64 i) := Blk.cell HCV.out 1
  have l0 : V3.cell? ⟨hb, 0, none⟩ = some (.int .i64 (x.la s)) := HLA.out V3 HMV.out
  have j0 : V3.cell? ⟨cb, 0, none⟩ = some (.int .i64 s) := Blk.cell HCV.out 0
  go_wp2_with fail
  refine Calls.mono (HIP.out _ HMV.out) ?_
  rintro e V ⟨rfl, hbv⟩
  have HCV2 : Hid (Blk V cb #[.int .i64 s, .int .i64 i] 32) := show Blk V cb #[.int .i64 s, .int .i64 i] 32 from Blk.below HCV.out hbv (Blk.lt HCV.out)
  have HRV2 : Hid (Blk V rb #[.int .i64 0, .int .i64 0, .int .i64 0, .int .i64 0] 36) := show Blk V rb #[.int .i64 0, .int .i64 0, .int .i64 0, .int .i64 0] 36 from Blk.below HRV.out hbv (Blk.lt HRV.out)
  have HMV2 : Hid (CM a x V) := HMV.out.more hbv
  have HBV2 : Hid (Below w.heap.size w V) := HBV.out.trans (hbv.mono HBV.out.size)
  clear HCV HRV HMV HBV hbv j0 i1 l0 HIP
  have HCV := HCV2
  have HRV := HRV2
  have HMV := HMV2
  have HBV := HBV2
  clear HCV2 HRV2 HMV2 HBV2
  have HFD : Hid (∀ W, Below V.heap.size V W → Calls Try.prog 23 #[.pointer (some ⟨hb, 1, none⟩), .int .i64 i] W fun e w' => e = .returned (.tuple #[.agg #[.int .i64 rr.s, .int .i64 rr.i, .int .i64 rr.e, .int .i64 rr.v], .bool false]) ∧ Below W.heap.size W w') := fun W hw => by
    have hH := ((HMV.out.more hw).hist _ _ HJ.out.1)
    rw [← HJ.out.2] at hH
    have := find_any i W hH
    rw [HRF.out] at this
    rw [hrr]; exact this
  go_wp2_with fail
  rename_i K14 hK14
  try rw [show ∀ a : Act, a.put none undef = a from fun _ => rfl]
  have hrest : ∀ (a' : Act) (f' : Nat → Value) (U : World) (ub : Nat), Fr 85 a' f' → f' 7 = Value.pointer (some ⟨hb, 0, none⟩) → f' 3 = Value.pointer (some ⟨cb, 0, none⟩) → f' 4 = Value.pointer (some ⟨rb, 0, none⟩) → f' 9 = Value.pointer (some ⟨ub, 0, none⟩) → f' 10 = Value.bool false → (Blk U ub #[.int .i64 rr.s, .int .i64 rr.i, .int .i64 rr.e, .int .i64 rr.v] 36 ∧ Below V.heap.size V U) → K14 a' U := by
    intro a' f' U ub F' k7 k3 k4 k9 k10 hfn
    obtain ⟨hUB, HC3⟩ := hfn
    refine hK14 _ _ ?_
    rw [F'.lit, show ((List.range 85).map f').toArray = #[f' 0, f' 1, f' 2, f' 3, f' 4, f' 5, f' 6, f' 7, f' 8, f' 9, f' 10, f' 11, f' 12, f' 13, f' 14, f' 15, f' 16, f' 17, f' 18, f' 19, f' 20, f' 21, f' 22, f' 23, f' 24, f' 25, f' 26, f' 27, f' 28, f' 29, f' 30, f' 31, f' 32, f' 33, f' 34, f' 35, f' 36, f' 37, f' 38, f' 39, f' 40, f' 41, f' 42, f' 43, f' 44, f' 45, f' 46, f' 47, f' 48, f' 49, f' 50, f' 51, f' 52, f' 53, f' 54, f' 55, f' 56, f' 57, f' 58, f' 59, f' 60, f' 61, f' 62, f' 63, f' 64, f' 65, f' 66, f' 67, f' 68, f' 69, f' 70, f' 71, f' 72, f' 73, f' 74, f' 75, f' 76, f' 77, f' 78, f' 79, f' 80, f' 81, f' 82, f' 83, f' 84] from rfl, k7, k3, k4, k9, k10]
    have u0 : U.cell? ⟨ub, 0, none⟩ = some (.int .i64 rr.s) := hUB.cell 0
    have u1 : U.cell? ⟨ub, 1, none⟩ = some (.int .i64 rr.i) := hUB.cell 1
    have u2 : U.cell? ⟨ub, 2, none⟩ = some (.int .i64 rr.e) := hUB.cell 2
    have u3 : U.cell? ⟨ub, 3, none⟩ = some (.int .i64 rr.v) := hUB.cell 3
    have HRV2 : Hid (Blk U rb #[.int .i64 0, .int .i64 0, .int .i64 0, .int .i64 0] 36) := show Blk U rb #[.int .i64 0, .int .i64 0, .int .i64 0, .int .i64 0] 36 from Blk.below HRV.out HC3 (Blk.lt HRV.out)
    have HMV2 : Hid (CM a x U) := HMV.out.more HC3
    have HBV2 : Hid (Below w.heap.size w U) := HBV.out.trans (HC3.mono HBV.out.size)
    clear HCV HRV HMV HBV HC3 hUB HFD hK14 F' k7 k3 k4 k9 k10
    have HRV := HRV2
    have HMV := HMV2
    have HBV := HBV2
    clear HRV2 HMV2 HBV2 
    have z0 : U.cell? ⟨rb, 0, none⟩ = some (.int .i64 0) := Blk.cell HRV.out 0
    have z1 : U.cell? ⟨rb, 1, none⟩ = some (.int .i64 0) := Blk.cell HRV.out 1
    have z2 : U.cell? ⟨rb, 2, none⟩ = some (.int .i64 0) := Blk.cell HRV.out 2
    have z3 : U.cell? ⟨rb, 3, none⟩ = some (.int .i64 0) := Blk.cell HRV.out 3
    have y0 : U.frozen? ⟨rb, 0, none⟩ = false := Blk.frozen HRV.out 0
    have y1 : U.frozen? ⟨rb, 1, none⟩ = false := Blk.frozen HRV.out 1
    have y2 : U.frozen? ⟨rb, 2, none⟩ = false := Blk.frozen HRV.out 2
    have y3 : U.frozen? ⟨rb, 3, none⟩ = false := Blk.frozen HRV.out 3
    go_wp2_with fail
    obtain ⟨b4, c4, l4⟩ := blk4 HRV.out (.int .i64 0) (.int .i64 0) (.int .i64 0) (.int .i64 0)
    refine bodyPost_ret (results_cell3 Try.results13 _ _ rb _ _ _ rfl rfl rfl b4 (by kernel_rfl)) rfl ?_
    exact ⟨rfl, (HMV.out).keep c4 (fun k hk e => HNR.out k hk e), (Chg.ofBelow _ HBV.out).trans c4 (fun j hj e => by have := HRW.out.1; omega)⟩
  clear hK14
  have HCI : Hid (∀ W, Below V.heap.size V W → W.cell? ⟨cb, 1, none⟩ = some (.int .i64 i)) := fun W hw => (Blk.below HCV.out hw (Blk.lt HCV.out)).cell 1
  have HA : Hid (Calls Try.prog 23 #[.pointer (some ⟨hb, 1, none⟩), .int .i64 i] ({ V with drawn := V.drawn + 1 } : World) fun e v2 => e = .returned (.tuple #[.agg #[.int .i64 rr.s, .int .i64 rr.i, .int .i64 rr.e, .int .i64 rr.v], .bool false]) ∧ (fun wq => Below V.heap.size V wq) v2 ∧ (fun wq => Below V.heap.size V wq) (v2.alloc (.cells #[.int .i64 0, .int .i64 0, .int .i64 0, .int .i64 0] 36)) ∧ (fun wq => Below V.heap.size V wq) (v2.alloc (.cells #[.int .i64 rr.s, .int .i64 rr.i, .int .i64 rr.e, .int .i64 rr.v] 36)) ∧ (Blk (v2.alloc (.cells #[.int .i64 rr.s, .int .i64 rr.i, .int .i64 rr.e, .int .i64 rr.v] 36)) v2.heap.size #[.int .i64 rr.s, .int .i64 rr.i, .int .i64 rr.e, .int .i64 rr.v] 36 ∧ Below V.heap.size V (v2.alloc (.cells #[.int .i64 rr.s, .int .i64 rr.i, .int .i64 rr.e, .int .i64 rr.v] 36)))) := by
    refine Calls.mono (HFD.out ({ V with drawn := V.drawn + 1 } : World) (Below.drew (Below.refl V.heap.size V))) ?_
    rintro e v2 ⟨rfl, h2⟩
    have hC2 : Below V.heap.size V v2 := (Below.drew (Below.refl V.heap.size V)).trans h2
    exact ⟨rfl, hC2, hC2.alloc hC2.size _, hC2.alloc hC2.size _, heap_alloc_new v2 _, hC2.alloc hC2.size _⟩
  have HB : Hid ((fun wq => Below V.heap.size V wq) (({ V with drawn := V.drawn + 1 } : World).alloc (.cells #[.int .i64 0, .int .i64 0, .int .i64 0, .int .i64 0] 36)) ∧ Calls Try.prog 23 #[.pointer (some ⟨hb, 1, none⟩), .int .i64 i] (({ V with drawn := V.drawn + 1 } : World).alloc (.cells #[.int .i64 0, .int .i64 0, .int .i64 0, .int .i64 0] 36)) fun e v2 => e = .returned (.tuple #[.agg #[.int .i64 rr.s, .int .i64 rr.i, .int .i64 rr.e, .int .i64 rr.v], .bool false]) ∧ (fun wq => Below V.heap.size V wq) v2 ∧ Blk v2 V.heap.size #[.int .i64 0, .int .i64 0, .int .i64 0, .int .i64 0] 36 ∧ (fun wq => Below V.heap.size V wq) ((((World.setCell v2 ⟨V.heap.size, 0, none⟩ (.int .i64 rr.s)).setCell ⟨V.heap.size, 1, none⟩ (.int .i64 rr.i)).setCell ⟨V.heap.size, 2, none⟩ (.int .i64 rr.e)).setCell ⟨V.heap.size, 3, none⟩ (.int .i64 rr.v)) ∧ (Blk ((((World.setCell v2 ⟨V.heap.size, 0, none⟩ (.int .i64 rr.s)).setCell ⟨V.heap.size, 1, none⟩ (.int .i64 rr.i)).setCell ⟨V.heap.size, 2, none⟩ (.int .i64 rr.e)).setCell ⟨V.heap.size, 3, none⟩ (.int .i64 rr.v)) V.heap.size #[.int .i64 rr.s, .int .i64 rr.i, .int .i64 rr.e, .int .i64 rr.v] 36 ∧ Below V.heap.size V ((((World.setCell v2 ⟨V.heap.size, 0, none⟩ (.int .i64 rr.s)).setCell ⟨V.heap.size, 1, none⟩ (.int .i64 rr.i)).setCell ⟨V.heap.size, 2, none⟩ (.int .i64 rr.e)).setCell ⟨V.heap.size, 3, none⟩ (.int .i64 rr.v)))) := by
    have hC1 : Below V.heap.size V (({ V with drawn := V.drawn + 1 } : World).alloc (.cells #[.int .i64 0, .int .i64 0, .int .i64 0, .int .i64 0] 36)) := (Below.drew (Below.refl V.heap.size V)).alloc (Nat.le_refl _) _
    refine ⟨hC1, Calls.mono (HFD.out _ hC1) ?_⟩
    rintro e v2 ⟨rfl, h2⟩
    have hC2 : Below V.heap.size V v2 := hC1.trans (h2.mono hC1.size)
    have hBz : Blk v2 V.heap.size #[.int .i64 0, .int .i64 0, .int .i64 0, .int .i64 0] 36 := Blk.below (heap_alloc_new ({ V with drawn := V.drawn + 1 } : World) _) h2 (by simp)
    obtain ⟨b4, _, l4⟩ := blk4 hBz (.int .i64 rr.s) (.int .i64 rr.i) (.int .i64 rr.e) (.int .i64 rr.v)
    exact ⟨rfl, hC2, hBz, hC2.trans l4, b4, hC2.trans l4⟩
  clear HFD
  refine wp_region_plan (fun wq => Below V.heap.size V wq) (fun i => i == 5 || i == 9 || i == 10 || i == 99) 99 (.one 0 (.one 1 (.one 2 (.one 3 (.one 4 (.two 5 9 (.one 6 (.one 7 (.one 8 (.one 9 (.one 10 (.one 11 (.done))))))) (.one 5 (.one 6 (.one 7 (.one 8 (.one 10 (.one 11 (.done))))))))))))) (by kernel_rfl) rfl (by kernel_rfl) (by kernel_rfl) rfl (by kernel_rfl) ?_
  refine withFrG (N := 85) rfl ?_
  intro a0 f0 F0 hff
  have hs7 : f0 7 = Value.pointer (some ⟨hb, 0, none⟩) := hff 7
  have hs3 : f0 3 = Value.pointer (some ⟨cb, 0, none⟩) := hff 3
  have hs4 : f0 4 = Value.pointer (some ⟨rb, 0, none⟩) := hff 4
  clear hff
  have HCC : (fun wq => Below V.heap.size V wq) ({ V with drawn := V.drawn + 1 } : World) := Below.drew (Below.refl V.heap.size V)
  refine py (k := 0) rfl F0 rfl HCC rfl (by omega) (wanted_none rfl) (v := Value.pointer (some ⟨hb, 0, none⟩)) (fun wr hwr => by simp only [execOp, (F0.eval 7 (by omega)).trans (show _ = Value.pointer (some ⟨hb, 0, none⟩) from by simp [upd, hs7, hs3, hs4])]; first | rfl | simp [go_sem]) fun aF1 F1 => ?_
  refine py (k := 1) rfl F1 rfl HCC rfl (by omega) (wanted_none rfl) (v := Value.pointer (some ⟨hb, 0, none⟩)) (fun wr hwr => by simp only [execOp, (F1.eval 74 (by omega)).trans (show _ = Value.pointer (some ⟨hb, 0, none⟩) from by simp [upd, hs7, hs3, hs4])]; simp [go_sem]) fun aF2 F2 => ?_
  refine py (k := 2) rfl F2 rfl HCC rfl (by omega) (wanted_none rfl) (v := Value.pointer (some ⟨hb, 1, none⟩)) (fun wr hwr => by simp only [execOp, (F2.eval 75 (by omega)).trans (show _ = Value.pointer (some ⟨hb, 0, none⟩) from by simp [upd, hs7, hs3, hs4])]; simp [go_sem]) fun aF3 F3 => ?_
  refine py (k := 3) rfl F3 rfl HCC rfl (by omega) (wanted_none rfl) (v := Value.pointer (some ⟨cb, 1, none⟩)) (fun wr hwr => by simp only [execOp, (F3.eval 3 (by omega)).trans (show _ = Value.pointer (some ⟨cb, 0, none⟩) from by simp [upd, hs7, hs3, hs4])]; simp [go_sem]) fun aF4 F4 => ?_
  refine py (k := 4) rfl F4 rfl HCC rfl (by omega) (wanted_none rfl) (v := Value.int .i64 i) (fun wr hwr => by simp only [execOp, (F4.eval 77 (by omega)).trans (show _ = Value.pointer (some ⟨cb, 1, none⟩) from by simp [upd, hs7, hs3, hs4])]; simp [go_sem, HCI.out wr hwr]) fun aF5 F5 => ?_
  refine pfork HCC ?_ ?_
  · refine pc' (k := 5) rfl F5 rfl rfl (by omega) (wanted_none rfl) (g := 23) (args := #[Value.pointer (some ⟨hb, 1, none⟩), Value.int .i64 i]) (by simp only [execOp, resolve, invoke, List.map_toArray, List.map_cons, List.map_nil, (F5.eval 76 (by omega)).trans (show _ = Value.pointer (some ⟨hb, 1, none⟩) from by simp [upd, hs7, hs3, hs4]), (F5.eval 78 (by omega)).trans (show _ = Value.int .i64 i from by simp [upd, hs7, hs3, hs4])]; simp [go_sem, Act.eval]) HA.out ?_
    rintro e v2 ⟨rfl, hC2, hC3, hC4, hfin⟩
    refine ⟨_, rfl, fun aFx6 Fx6 => ?_⟩
    refine py (k := 6) rfl Fx6 rfl hC2 rfl (by omega) (wanted_none rfl) (v := Value.tuple #[.agg #[.int .i64 rr.s, .int .i64 rr.i, .int .i64 rr.e, .int .i64 rr.v], .bool false]) (fun wr hwr => by simp only [execOp, (Fx6.eval 79 (by omega)).trans (show _ = Value.tuple #[.agg #[.int .i64 rr.s, .int .i64 rr.i, .int .i64 rr.e, .int .i64 rr.v], .bool false] from by simp [upd, hs7, hs3, hs4])]; first | rfl | simp [go_sem]) fun aFx7 Fx7 => ?_
    refine py (k := 7) rfl Fx7 rfl hC2 rfl (by omega) (wanted_none rfl) (v := Value.agg #[.int .i64 rr.s, .int .i64 rr.i, .int .i64 rr.e, .int .i64 rr.v]) (fun wr hwr => by simp only [execOp, (Fx7.eval 73 (by omega)).trans (show _ = Value.tuple #[.agg #[.int .i64 rr.s, .int .i64 rr.i, .int .i64 rr.e, .int .i64 rr.v], .bool false] from by simp [upd, hs7, hs3, hs4])]; simp [go_sem]) fun aFx8 Fx8 => ?_
    refine py (k := 8) rfl Fx8 rfl hC2 rfl (by omega) (wanted_none rfl) (v := Value.bool false) (fun wr hwr => by simp only [execOp, (Fx8.eval 73 (by omega)).trans (show _ = Value.tuple #[.agg #[.int .i64 rr.s, .int .i64 rr.i, .int .i64 rr.e, .int .i64 rr.v], .bool false] from by simp [upd, hs7, hs3, hs4])]; simp [go_sem]) fun aFx9 Fx9 => ?_
    refine pe (k := 9) rfl Fx9 rfl hC2 rfl (by omega) (wanted_none rfl) (v := Value.pointer (some ⟨v2.heap.size, 0, none⟩)) (w1 := v2.alloc (.cells #[.int .i64 0, .int .i64 0, .int .i64 0, .int .i64 0] 36)) (by simp only [execOp]; simp [go_sem, zero36]) fun aFx10 Fx10 => ?_
    refine ps (k := 10) rfl rfl hC3 rfl (wanted_none rfl) (w1 := v2.alloc (.cells #[.int .i64 rr.s, .int .i64 rr.i, .int .i64 rr.e, .int .i64 rr.v] 36)) (by simp only [execOp, (Fx10.eval 9 (by omega)).trans (show _ = Value.pointer (some ⟨v2.heap.size, 0, none⟩) from by simp [upd, hs7, hs3, hs4]), (Fx10.eval 80 (by omega)).trans (show _ = Value.agg #[.int .i64 rr.s, .int .i64 rr.i, .int .i64 rr.e, .int .i64 rr.v] from by simp [upd, hs7, hs3, hs4])]; simp [go_sem]) ?_
    refine py (k := 11) rfl Fx10 rfl hC4 rfl (by omega) (wanted_none rfl) (v := Value.bool false) (fun wr hwr => by simp only [execOp, (Fx10.eval 81 (by omega)).trans (show _ = Value.bool false from by simp [upd, hs7, hs3, hs4])]; first | rfl | simp [go_sem]) fun aFx11 Fx11 => ?_
    refine pdone (fun _ => hC4) ?_
    exact hrest _ _ _ _ Fx11 (show _ = Value.pointer (some ⟨hb, 0, none⟩) from by simp [upd, hs7, hs3, hs4]) (show _ = Value.pointer (some ⟨cb, 0, none⟩) from by simp [upd, hs7, hs3, hs4]) (show _ = Value.pointer (some ⟨rb, 0, none⟩) from by simp [upd, hs7, hs3, hs4]) (show _ = Value.pointer (some ⟨v2.heap.size, 0, none⟩) from by simp [upd, hs7, hs3, hs4]) (show _ = Value.bool false from by simp [upd, hs7, hs3, hs4]) hfin
  · refine pe' (k := 9) rfl F5 rfl rfl (by omega) (wanted_none rfl) (v := Value.pointer (some ⟨V.heap.size, 0, none⟩)) (w1 := (({ V with drawn := V.drawn + 1 } : World).alloc (.cells #[.int .i64 0, .int .i64 0, .int .i64 0, .int .i64 0] 36))) (by simp only [execOp]; simp [go_sem, zero36]) fun aFy12 Fy12 => ?_
    refine pc (k := 5) rfl Fy12 rfl HB.out.1 rfl (by omega) (wanted_none rfl) (g := 23) (args := #[Value.pointer (some ⟨hb, 1, none⟩), Value.int .i64 i]) (by simp only [execOp, resolve, invoke, List.map_toArray, List.map_cons, List.map_nil, (Fy12.eval 76 (by omega)).trans (show _ = Value.pointer (some ⟨hb, 1, none⟩) from by simp [upd, hs7, hs3, hs4]), (Fy12.eval 78 (by omega)).trans (show _ = Value.int .i64 i from by simp [upd, hs7, hs3, hs4])]; simp [go_sem, Act.eval]) HB.out.2 ?_
    rintro e v2 ⟨rfl, hC2, hBz, hC4, hfin⟩
    refine ⟨_, rfl, fun aFy13 Fy13 => ?_⟩
    refine py (k := 6) rfl Fy13 rfl hC2 rfl (by omega) (wanted_none rfl) (v := Value.tuple #[.agg #[.int .i64 rr.s, .int .i64 rr.i, .int .i64 rr.e, .int .i64 rr.v], .bool false]) (fun wr hwr => by simp only [execOp, (Fy13.eval 79 (by omega)).trans (show _ = Value.tuple #[.agg #[.int .i64 rr.s, .int .i64 rr.i, .int .i64 rr.e, .int .i64 rr.v], .bool false] from by simp [upd, hs7, hs3, hs4])]; first | rfl | simp [go_sem]) fun aFy14 Fy14 => ?_
    refine py (k := 7) rfl Fy14 rfl hC2 rfl (by omega) (wanted_none rfl) (v := Value.agg #[.int .i64 rr.s, .int .i64 rr.i, .int .i64 rr.e, .int .i64 rr.v]) (fun wr hwr => by simp only [execOp, (Fy14.eval 73 (by omega)).trans (show _ = Value.tuple #[.agg #[.int .i64 rr.s, .int .i64 rr.i, .int .i64 rr.e, .int .i64 rr.v], .bool false] from by simp [upd, hs7, hs3, hs4])]; simp [go_sem]) fun aFy15 Fy15 => ?_
    refine py (k := 8) rfl Fy15 rfl hC2 rfl (by omega) (wanted_none rfl) (v := Value.bool false) (fun wr hwr => by simp only [execOp, (Fy15.eval 73 (by omega)).trans (show _ = Value.tuple #[.agg #[.int .i64 rr.s, .int .i64 rr.i, .int .i64 rr.e, .int .i64 rr.v], .bool false] from by simp [upd, hs7, hs3, hs4])]; simp [go_sem]) fun aFy16 Fy16 => ?_
    refine ps (k := 10) rfl rfl hC2 rfl (wanted_none rfl) (store4 hBz rr rfl ((Fy16.eval 9 (by omega)).trans (show _ = Value.pointer (some ⟨V.heap.size, 0, none⟩) from by simp [upd, hs7, hs3, hs4])) ((Fy16.eval 80 (by omega)).trans (show _ = Value.agg #[.int .i64 rr.s, .int .i64 rr.i, .int .i64 rr.e, .int .i64 rr.v] from by simp [upd, hs7, hs3, hs4]))) ?_
    refine py (k := 11) rfl Fy16 rfl hC4 rfl (by omega) (wanted_none rfl) (v := Value.bool false) (fun wr hwr => by simp only [execOp, (Fy16.eval 81 (by omega)).trans (show _ = Value.bool false from by simp [upd, hs7, hs3, hs4])]; first | rfl | simp [go_sem]) fun aFy17 Fy17 => ?_
    refine pdone (fun _ => hC4) ?_
    exact hrest _ _ _ _ Fy17 (show _ = Value.pointer (some ⟨hb, 0, none⟩) from by simp [upd, hs7, hs3, hs4]) (show _ = Value.pointer (some ⟨cb, 0, none⟩) from by simp [upd, hs7, hs3, hs4]) (show _ = Value.pointer (some ⟨rb, 0, none⟩) from by simp [upd, hs7, hs3, hs4]) (show _ = Value.pointer (some ⟨V.heap.size, 0, none⟩) from by simp [upd, hs7, hs3, hs4]) (show _ = Value.bool false from by simp [upd, hs7, hs3, hs4]) hfin
end Go.Proofs.Ytadfmnlkfcigoaa
