import Derived.Test.YtaiknlnjahjeiaaRi
import Derived.Test.YtaiknlnjahjeiaaJoinC
import Derived.Deep.Cut
namespace Go.Proofs.Ytaiknlnjahjeiaa
open Go.RowKit Go.PlainAid Go.MapKept
set_option linter.unusedVariables false
set_option linter.unusedSimpArgs false
theorem store_row {ev : Operand → Value} {o : Oper} {x y : Operand} {ty : TypeId} {W : World} {g : Nat} {cells old : Array Value} (ho : o.op = .store ty x y) (hx : ev x = .pointer (some ⟨g, 0, none⟩)) (hy : ev y = .agg cells) (hg : Blk W g old ty) (hi : (Try.prog.info? ty).map (·.size) = some cells.size) (hold : old.size = cells.size) (h1 : cells.all (·.oneCell') = true) : (execOp ev o).run Try.prog W = .ok .skip (W.setRow g cells) := by
  unfold execOp
  simp only [ho, hx, hy, Instr.storeAt, Instr.sureAddr, Sem.run_bind, Sem.run_pure, Result.andThen_ok, run_storeVar_row W g ty ty old cells hg hi hold h1]
theorem setRow_chg {W : World} {g : Nat} {cells : Array Value} : Chg (fun k => k = g) W (W.setRow g cells) := ⟨rfl, rfl, rfl, by simp, fun k _ hn => setRow_other _ _ _ _ hn⟩
theorem setRow_blk {W : World} {g : Nat} {cells old : Array Value} {T : TypeId} (h : Blk W g old T) : Blk (W.setRow g cells) g cells T := setRow_heap W g old cells T (0, 0) h
set_option maxRecDepth 100000 in
set_option maxHeartbeats 6400000 in
theorem create1_any {ob : Nat} (k A B : Int) (n : List UInt8) (W : World) (hO : Blk W ob #[.int .i64 k, .string ⟨n.toArray⟩, .int .i64 A, .int .i64 B] 31) (hn : n.length ≤ 140737488355328) :
    Calls Try.prog 47 #[.pointer (some ⟨ob, 0, none⟩)] W fun e W' => ∃ hb', e = .returned (ctV ⟨n, A, B, 0, some hb', []⟩) ∧ HI W' hb' [] ∧ W.heap.size ≤ hb' ∧ Below W.heap.size W W' := by
  obtain ⟨rb, hrb⟩ : ∃ rb, rb = W.heap.size := ⟨_, rfl⟩
  obtain ⟨X, hX⟩ : ∃ X, X = W.alloc (.cells #[.string ⟨#[]⟩, .int .i64 0, .int .i64 0, .int .i64 0, .map none] 67) := ⟨_, rfl⟩
  have hb0 : Below W.heap.size W X := by rw [hX]; exact (Below.refl _ _).alloc (Nat.le_refl _) _
  have Bob : Hid (Blk X ob #[.int .i64 k, .string ⟨n.toArray⟩, .int .i64 A, .int .i64 B] 31) := hO.below hb0 hO.lt
  have Brb : Hid (Blk X rb #[.string ⟨#[]⟩, .int .i64 0, .int .i64 0, .int .i64 0, .map none] 67) := show Blk X rb #[.string ⟨#[]⟩, .int .i64 0, .int .i64 0, .int .i64 0, .map none] 67 from by rw [hX, hrb]; exact heap_alloc_new W _
  have HBX : Hid (Below W.heap.size W X) := hb0
  have HRB : Hid (W.heap.size ≤ rb) := show W.heap.size ≤ rb from by rw [hrb]; exact Nat.le_refl _
  have HCL : Hid (∀ V, Calls Try.prog 48 #[.string ⟨n.toArray⟩] V fun e w' => e = .returned (.string ⟨n.toArray⟩) ∧ Below V.heap.size V w') := fun V => clone_any n V (by omega)
  have hmm := @run_makeMap Try.prog
  clear hO hb0 hn
  go_enter Try.func47, Try.ntmps47
  go_upto_region 1 with fail
  rw [← hX, ← hrb]
  clear hX hrb
  go_wp2_with fail
  rename_i K hK
  try rw [show ∀ a : Act, a.put none undef = a from fun _ => rfl]
  have hrest : ∀ (a : Act) (f' : Nat → Value) (V : World) (mb : Nat), Fr 11 a f' → f' 1 = Value.pointer (some ⟨rb, 0, none⟩) → Blk V rb #[.string ⟨#[]⟩, .int .i64 0, .int .i64 0, .int .i64 0, .map none] 67 → HI V mb [] → Below X.heap.size X V → X.heap.size ≤ mb → K a (V.setRow rb #[.string ⟨n.toArray⟩, .int .i64 A, .int .i64 B, .int .i64 0, .map (some mb)]) := by
    intro a f' V mb F' k1 hR hM hb hl
    refine hK _ _ ?_
    rw [F'.lit, show ((List.range 11).map f').toArray = #[f' 0, f' 1, f' 2, f' 3, f' 4, f' 5, f' 6, f' 7, f' 8, f' 9, f' 10] from rfl, k1]
    have HZ : Hid (Blk (V.setRow rb #[.string ⟨n.toArray⟩, .int .i64 A, .int .i64 B, .int .i64 0, .map (some mb)]) rb #[.string ⟨n.toArray⟩, .int .i64 A, .int .i64 B, .int .i64 0, .map (some mb)] 67) := setRow_blk hR
    have HMZ : Hid (HI (V.setRow rb #[.string ⟨n.toArray⟩, .int .i64 A, .int .i64 B, .int .i64 0, .map (some mb)]) mb []) := hM.same (setRow_chg.block _ hM.lt (fun e => hM.ne_b hR e.symm))
    have HL : Hid (W.heap.size ≤ mb) := show W.heap.size ≤ mb from Nat.le_trans HBX.out.size hl
    have HB : Hid (Below W.heap.size W (V.setRow rb #[.string ⟨n.toArray⟩, .int .i64 A, .int .i64 B, .int .i64 0, .map (some mb)])) := show Below W.heap.size W (V.setRow rb #[.string ⟨n.toArray⟩, .int .i64 A, .int .i64 B, .int .i64 0, .map (some mb)]) from by
      have h := HBX.out.trans (hb.mono HBX.out.size)
      exact h.trans (setRow_chg.below h.size (fun k e => by have := HRB.out; omega))
    clear hR hM hb hl hK F' k1
    go_wp2_with fail
    refine bodyPost_ret (results_cell_row Try.results47 _ _ rb 67 _ (0, 0) _ rfl HZ.out Try.underlying67 rfl (by kernel_rfl)) rfl ?_
    exact ⟨mb, rfl, HMZ.out, HL.out, HB.out⟩
  refine wp_region_plan (fun wq => Blk wq ob #[.int .i64 k, .string ⟨n.toArray⟩, .int .i64 A, .int .i64 B] 31 ∧ Below X.heap.size X wq) (fun i => i == 2 || i == 7 || i == 9) 9 (.one 0 (.one 1 (.one 3 (.one 4 (.one 5 (.one 6 (.two 2 7 (.one 7 (.one 8 (.one 9 (.done)))) (.one 2 (.one 8 (.one 9 (.done))))))))))) (by kernel_rfl) rfl (by kernel_rfl) (by kernel_rfl) rfl (by kernel_rfl) ?_
  refine withFrG (N := 11) rfl ?_
  intro a0 f0 F0 hff
  have hs0 : f0 0 = Value.pointer (some ⟨ob, 0, none⟩) := hff 0
  have hs1 : f0 1 = Value.pointer (some ⟨rb, 0, none⟩) := hff 1
  clear hff
  have hC0 : (fun wq => Blk wq ob #[.int .i64 k, .string ⟨n.toArray⟩, .int .i64 A, .int .i64 B] 31 ∧ Below X.heap.size X wq) ({ X with drawn := X.drawn + 1 } : World) := ⟨Bob.out, Below.drew (Below.refl X.heap.size X)⟩
  refine py (k := 0) rfl F0 rfl hC0 rfl (by omega) (wanted_none rfl) (v := Value.pointer (some ⟨ob, 1, none⟩)) (fun wr hwr => by simp only [execOp, (F0.eval 0 (by omega)).trans (show _ = Value.pointer (some ⟨ob, 0, none⟩) from by simp [upd, hs0, hs1])]; simp [go_sem]) fun a1 F1 => ?_
  refine py (k := 1) rfl F1 rfl hC0 rfl (by omega) (wanted_none rfl) (v := Value.string ⟨n.toArray⟩) (fun wr hwr => by simp only [execOp, (F1.eval 2 (by omega)).trans (show _ = Value.pointer (some ⟨ob, 1, none⟩) from by simp [upd, hs0, hs1])]; simp [go_sem, show wr.cell? ⟨ob, 1, none⟩ = some (.string ⟨n.toArray⟩) from hwr.1.cell 1]) fun a2 F2 => ?_
  refine py (k := 3) rfl F2 rfl hC0 rfl (by omega) (wanted_none rfl) (v := Value.pointer (some ⟨ob, 2, none⟩)) (fun wr hwr => by simp only [execOp, (F2.eval 0 (by omega)).trans (show _ = Value.pointer (some ⟨ob, 0, none⟩) from by simp [upd, hs0, hs1])]; simp [go_sem]) fun a3 F3 => ?_
  refine py (k := 4) rfl F3 rfl hC0 rfl (by omega) (wanted_none rfl) (v := Value.int .i64 A) (fun wr hwr => by simp only [execOp, (F3.eval 5 (by omega)).trans (show _ = Value.pointer (some ⟨ob, 2, none⟩) from by simp [upd, hs0, hs1])]; simp [go_sem, show wr.cell? ⟨ob, 2, none⟩ = some (.int .i64 A) from hwr.1.cell 2]) fun a4 F4 => ?_
  refine py (k := 5) rfl F4 rfl hC0 rfl (by omega) (wanted_none rfl) (v := Value.pointer (some ⟨ob, 3, none⟩)) (fun wr hwr => by simp only [execOp, (F4.eval 0 (by omega)).trans (show _ = Value.pointer (some ⟨ob, 0, none⟩) from by simp [upd, hs0, hs1])]; simp [go_sem]) fun a5 F5 => ?_
  refine py (k := 6) rfl F5 rfl hC0 rfl (by omega) (wanted_none rfl) (v := Value.int .i64 B) (fun wr hwr => by simp only [execOp, (F5.eval 7 (by omega)).trans (show _ = Value.pointer (some ⟨ob, 3, none⟩) from by simp [upd, hs0, hs1])]; simp [go_sem, show wr.cell? ⟨ob, 3, none⟩ = some (.int .i64 B) from hwr.1.cell 3]) fun a6 F6 => ?_
  refine pfork hC0 ?_ ?_
  · refine pc' (k := 2) rfl F6 rfl rfl (by omega) (wanted_none rfl) (g := 48) (args := #[Value.string ⟨n.toArray⟩]) (by simp only [execOp, resolve, invoke, List.map_toArray, List.map_cons, List.map_nil, (F6.eval 3 (by omega)).trans (show _ = Value.string ⟨n.toArray⟩ from by simp [upd, hs0, hs1])]; simp [go_sem, Act.eval]) (HCL.out ({ X with drawn := X.drawn + 1 } : World)) ?_
    rintro e9 V1 ⟨rfl, hv1⟩
    refine ⟨_, rfl, fun aA1 FA1 => ?_⟩
    have hC1 : (fun wq => Blk wq ob #[.int .i64 k, .string ⟨n.toArray⟩, .int .i64 A, .int .i64 B] 31 ∧ Below X.heap.size X wq) V1 := ⟨hC0.1.below hv1 hC0.1.lt, hC0.2.trans (hv1.mono hC0.2.size)⟩
    refine pe (k := 7) rfl FA1 rfl hC1 rfl (by omega) (wanted_none rfl) (v := Value.map (some V1.heap.size)) (w1 := V1.alloc (.map #[] 0)) (by simp only [execOp]; simp [go_sem, hmm]) fun aA2 FA2 => ?_
    have hMz : HI (V1.alloc (.map #[] 0)) V1.heap.size [] := Gm.HMap.made (M := MI) V1
    have hbz : Below V1.heap.size V1 (V1.alloc (.map #[] 0)) := (Below.refl _ _).alloc (Nat.le_refl _) _
    have hCz : (fun wq => Blk wq ob #[.int .i64 k, .string ⟨n.toArray⟩, .int .i64 A, .int .i64 B] 31 ∧ Below X.heap.size X wq) (V1.alloc (.map #[] 0)) := ⟨hC1.1.below hbz hC1.1.lt, hC1.2.trans (hbz.mono hC1.2.size)⟩
    have hlz : X.heap.size ≤ V1.heap.size := hC1.2.size
    refine py (k := 8) rfl FA2 rfl hCz rfl (by omega) (wanted_none rfl) (v := Value.agg #[.string ⟨n.toArray⟩, .int .i64 A, .int .i64 B, .int .i64 0, .map (some V1.heap.size)]) (fun wr hwr => by simp only [execOp, List.map_toArray, List.map_cons, List.map_nil, (FA2.eval 4 (by omega)).trans (show _ = Value.string ⟨n.toArray⟩ from by simp [upd, hs0, hs1]), (FA2.eval 6 (by omega)).trans (show _ = Value.int .i64 A from by simp [upd, hs0, hs1]), (FA2.eval 8 (by omega)).trans (show _ = Value.int .i64 B from by simp [upd, hs0, hs1]), (FA2.eval 9 (by omega)).trans (show _ = Value.map (some V1.heap.size) from by simp [upd, hs0, hs1])]; simp [go_sem]; try rfl) fun aA3 FA3 => ?_
    have hRz : Blk (V1.alloc (.map #[] 0)) rb #[.string ⟨#[]⟩, .int .i64 0, .int .i64 0, .int .i64 0, .map none] 67 := Brb.out.below hCz.2 Brb.out.lt
    refine ps (k := 9) rfl rfl hCz rfl (wanted_none rfl) (w1 := World.setRow (V1.alloc (.map #[] 0)) rb #[.string ⟨n.toArray⟩, .int .i64 A, .int .i64 B, .int .i64 0, .map (some V1.heap.size)]) (store_row rfl ((FA3.eval 1 (by omega)).trans (show _ = Value.pointer (some ⟨rb, 0, none⟩) from by simp [upd, hs0, hs1])) ((FA3.eval 10 (by omega)).trans (show _ = Value.agg #[.string ⟨n.toArray⟩, .int .i64 A, .int .i64 B, .int .i64 0, .map (some V1.heap.size)] from by simp [upd, hs0, hs1])) hRz (by kernel_rfl) rfl (by simp [Value.oneCell'])) ?_
    refine pdone (fun h => by cases h) ?_
    exact hrest _ _ (V1.alloc (.map #[] 0)) V1.heap.size FA3 (show _ = Value.pointer (some ⟨rb, 0, none⟩) from by simp [upd, hs0, hs1]) hRz hMz hCz.2 hlz
  · refine pe' (k := 7) rfl F6 rfl rfl (by omega) (wanted_none rfl) (v := Value.map (some ({ X with drawn := X.drawn + 1 } : World).heap.size)) (w1 := ({ X with drawn := X.drawn + 1 } : World).alloc (.map #[] 0)) (by simp only [execOp]; simp [go_sem, hmm]) fun aD1 FD1 => ?_
    have hMz : HI (({ X with drawn := X.drawn + 1 } : World).alloc (.map #[] 0)) ({ X with drawn := X.drawn + 1 } : World).heap.size [] := Gm.HMap.made (M := MI) ({ X with drawn := X.drawn + 1 } : World)
    have hbz : Below ({ X with drawn := X.drawn + 1 } : World).heap.size ({ X with drawn := X.drawn + 1 } : World) (({ X with drawn := X.drawn + 1 } : World).alloc (.map #[] 0)) := (Below.refl _ _).alloc (Nat.le_refl _) _
    have hCz : (fun wq => Blk wq ob #[.int .i64 k, .string ⟨n.toArray⟩, .int .i64 A, .int .i64 B] 31 ∧ Below X.heap.size X wq) (({ X with drawn := X.drawn + 1 } : World).alloc (.map #[] 0)) := ⟨hC0.1.below hbz hC0.1.lt, hC0.2.trans (hbz.mono hC0.2.size)⟩
    have hlz : X.heap.size ≤ ({ X with drawn := X.drawn + 1 } : World).heap.size := hC0.2.size
    refine pc (k := 2) rfl FD1 rfl hCz rfl (by omega) (wanted_none rfl) (g := 48) (args := #[Value.string ⟨n.toArray⟩]) (by simp only [execOp, resolve, invoke, List.map_toArray, List.map_cons, List.map_nil, (FD1.eval 3 (by omega)).trans (show _ = Value.string ⟨n.toArray⟩ from by simp [upd, hs0, hs1])]; simp [go_sem, Act.eval]) (HCL.out (({ X with drawn := X.drawn + 1 } : World).alloc (.map #[] 0))) ?_
    rintro e9 V1 ⟨rfl, hv1⟩
    refine ⟨_, rfl, fun aD2 FD2 => ?_⟩
    have hC1 : (fun wq => Blk wq ob #[.int .i64 k, .string ⟨n.toArray⟩, .int .i64 A, .int .i64 B] 31 ∧ Below X.heap.size X wq) V1 := ⟨hCz.1.below hv1 hCz.1.lt, hCz.2.trans (hv1.mono hCz.2.size)⟩
    have hM1 : HI V1 ({ X with drawn := X.drawn + 1 } : World).heap.size [] := hMz.same (hv1.block _ hMz.lt)
    refine py (k := 8) rfl FD2 rfl hC1 rfl (by omega) (wanted_none rfl) (v := Value.agg #[.string ⟨n.toArray⟩, .int .i64 A, .int .i64 B, .int .i64 0, .map (some ({ X with drawn := X.drawn + 1 } : World).heap.size)]) (fun wr hwr => by simp only [execOp, List.map_toArray, List.map_cons, List.map_nil, (FD2.eval 4 (by omega)).trans (show _ = Value.string ⟨n.toArray⟩ from by simp [upd, hs0, hs1]), (FD2.eval 6 (by omega)).trans (show _ = Value.int .i64 A from by simp [upd, hs0, hs1]), (FD2.eval 8 (by omega)).trans (show _ = Value.int .i64 B from by simp [upd, hs0, hs1]), (FD2.eval 9 (by omega)).trans (show _ = Value.map (some ({ X with drawn := X.drawn + 1 } : World).heap.size) from by simp [upd, hs0, hs1])]; simp [go_sem]; try rfl) fun aD3 FD3 => ?_
    have hRz : Blk V1 rb #[.string ⟨#[]⟩, .int .i64 0, .int .i64 0, .int .i64 0, .map none] 67 := Brb.out.below hC1.2 Brb.out.lt
    refine ps (k := 9) rfl rfl hC1 rfl (wanted_none rfl) (w1 := World.setRow V1 rb #[.string ⟨n.toArray⟩, .int .i64 A, .int .i64 B, .int .i64 0, .map (some ({ X with drawn := X.drawn + 1 } : World).heap.size)]) (store_row rfl ((FD3.eval 1 (by omega)).trans (show _ = Value.pointer (some ⟨rb, 0, none⟩) from by simp [upd, hs0, hs1])) ((FD3.eval 10 (by omega)).trans (show _ = Value.agg #[.string ⟨n.toArray⟩, .int .i64 A, .int .i64 B, .int .i64 0, .map (some ({ X with drawn := X.drawn + 1 } : World).heap.size)] from by simp [upd, hs0, hs1])) hRz (by kernel_rfl) rfl (by simp [Value.oneCell'])) ?_
    refine pdone (fun h => by cases h) ?_
    exact hrest _ _ V1 ({ X with drawn := X.drawn + 1 } : World).heap.size FD3 (show _ = Value.pointer (some ⟨rb, 0, none⟩) from by simp [upd, hs0, hs1]) hRz hM1 hC1.2 hlz
end Go.Proofs.Ytaiknlnjahjeiaa
