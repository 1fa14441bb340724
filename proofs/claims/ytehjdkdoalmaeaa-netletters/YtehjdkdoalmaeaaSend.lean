import Derived.Test.YtehjdkdoalmaeaaFun
import Derived.Test.YtehjdkdoalmaeaaMix2
namespace Go.Proofs.Ytehjdkdoalmaeaa
open Go.RowKit Go.PlainAid
set_option linter.unusedVariables false
set_option linter.unusedSimpArgs false

theorem below_drewN {L : Nat} {w w' : World} (n : Nat) (h : Below L w w') : Below L w (w'.drewN n) := ⟨h.os, h.tape, h.output, h.size, h.block⟩
set_option maxRecDepth 100000 in
set_option maxHeartbeats 1600000 in
/-- Send, where there is no room. -/
theorem send_full {base hb room : Nat} {v : Value} {ls : List LetV} (w : World) (hS : Bag base hb room v ls w) (hroom : room ≤ 1024) (hlen : ls.length = room) (x : Value) (f t : Int) :
    Calls Try.prog 10 #[.pointer (some ⟨hb, 0, none⟩), .agg (letC f t x)] w fun e w' => e = .returned (.int .i64 41) ∧ Below w.heap.size w w' := by
  show Calls Try.prog 10 #[.pointer (some ⟨hb, 0, none⟩), .agg #[.int .i64 f, .int .i64 t, x]] w _
  have hS1 := hS.below (w' := w.alloc (.cells #[.int .i64 f, .int .i64 t, x] 31)) (by go_grown)
  have c0 := hS1.c0
  have c1 := hS1.c1
  obtain ⟨ao, cap, rfl, _⟩ := own_slice hS.own
  rw [hlen] at c1
  have hgr : Below w.heap.size w (w.alloc (.cells #[.int .i64 f, .int .i64 t, x] 31)) := by go_grown
  have HG : Hid _ := hgr
  clear hS1 hgr
  go_enter Try.func10, Try.ntmps10
  go_wp2
  go_quiet (fail)
  go_wp2
  go_ret
  exact ⟨rfl, below_drewN _ HG.out⟩
def CSend (w : World) (hb B : Nat) (D : Array Value) (wr : World) : Prop := wr.heap[hb]? = w.heap[hb]? ∧ Blk wr B D 31
set_option maxRecDepth 100000 in
set_option maxHeartbeats 3200000 in
/-- Send, where there is room. -/
theorem send_room {base hb room : Nat} {v : Value} {ls : List LetV} (w : World) (hS : Bag base hb room v ls w) (hroom : room ≤ 1024) (hlen : ls.length < room) (hbase : base ≤ w.heap.size)
    (f t : Int) (ao : Option Addr) (k c : Nat) (s : List UInt8) (hl : s.length = k) (hnil : ao = none → k = 0 ∧ c = 0) (hk : k ≤ 140737488355328) (hf : From w ao s) (hab : ∀ b o, ao = some ⟨b, o, none⟩ → b < w.heap.size) :
    Calls Try.prog 10 #[.pointer (some ⟨hb, 0, none⟩), .agg (letC f t (.slice ao k c))] w fun e w' => e = .returned (.int .i64 0) ∧ ∃ v' d', Bag base hb room v' (ls ++ [⟨f, t, d', s⟩]) w' ∧ Stp hb v v' w w' ∧ ∀ j, d'.ownBlock = some j → w.heap.size ≤ j := by
  show Calls Try.prog 10 #[.pointer (some ⟨hb, 0, none⟩), .agg #[.int .i64 f, .int .i64 t, .slice ao k c]] w _
  have hgr : Below w.heap.size w (w.alloc (.cells #[.int .i64 f, .int .i64 t, .slice ao k c] 31)) := by go_grown
  have hB0 : Blk (w.alloc (.cells #[.int .i64 f, .int .i64 t, .slice ao k c] 31)) w.heap.size (letC f t (.slice ao k c)) 31 := heap_alloc_new w _
  have hS1 := hS.below hgr
  have c0 := hS1.c0
  have c1 := hS1.c1
  have hne : ¬ ((ls.length : Int) = (room : Int)) := by omega
  have hvs := own_slice hS.own
  have HG : Hid _ := hgr
  have HB0 : Hid _ := hB0
  clear hS1 hgr hB0
  obtain ⟨vo, vc, hv, _⟩ := hvs
  rw [hv] at c1
  go_enter Try.func10, Try.ntmps10
  go_wp2
  go_quiet (fail)
  go_wp2_with fail
  rename_i K hK
  refine wp_region_mix (CSend w hb w.heap.size (letC f t (.slice ao k c))) (fun i => i == 6 || i == 7 || i == 8 || i == 11) 11 (by kernel_rfl) rfl (by kernel_rfl) (by kernel_rfl) (by kernel_rfl) ?_
  have hW0 : Below w.heap.size w ({ (w.alloc (.cells #[.int .i64 f, .int .i64 t, .slice ao k c] 31)).drewN nq with drawn := ((w.alloc (.cells #[.int .i64 f, .int .i64 t, .slice ao k c] 31)).drewN nq).drawn + 1 } : World) := ⟨HG.out.os, HG.out.tape, HG.out.output, HG.out.size, HG.out.block⟩
  have hBW : Blk ({ (w.alloc (.cells #[.int .i64 f, .int .i64 t, .slice ao k c] 31)).drewN nq with drawn := ((w.alloc (.cells #[.int .i64 f, .int .i64 t, .slice ao k c] 31)).drewN nq).drawn + 1 } : World) w.heap.size (letC f t (.slice ao k c)) 31 := HB0.out
  clear c0 c1
  generalize ({ (w.alloc (.cells #[.int .i64 f, .int .i64 t, .slice ao k c] 31)).drewN nq with drawn := ((w.alloc (.cells #[.int .i64 f, .int .i64 t, .slice ao k c] 31)).drewN nq).drawn + 1 } : World) = W at *
  have hC : CSend w hb w.heap.size (letC f t (.slice ao k c)) W := ⟨hW0.block hb hS.lt, hBW⟩
  have hSW := hS.below hW0
  have hfW : From W ao s := hf.keep fun b o e => hW0.block b (hab b o e)
  have hWs : w.heap.size < W.heap.size := hBW.lt
  have hblt := hS.lt
  have hbase' : base ≤ W.heap.size := by omega
  refine withFrL (N := 26) rfl ?_
  intro a0 f0 F0 hff
  have h0 : f0 0 = .pointer (some ⟨hb, 0, none⟩) := hff 0
  have h3 : f0 3 = .pointer (some ⟨w.heap.size, 0, none⟩) := hff 3
  clear hff
  refine ly F0 rfl hC rfl (by omega) (wanted_none rfl) (v := Value.pointer (some ⟨hb, 0, none⟩)) (fun wr hwr => by simp only [execOp, (F0.eval 0 (by omega)).trans (show _ = Value.pointer (some ⟨hb, 0, none⟩) from by simp [upd, h0, h3])]; first | rfl | simp [go_sem]) fun a1 F1 => ?_
  refine ly F1 rfl hC rfl (by omega) (wanted_none rfl) (v := Value.pointer (some ⟨hb, 0, none⟩)) (fun wr hwr => by simp only [execOp, (F1.eval 0 (by omega)).trans (show _ = Value.pointer (some ⟨hb, 0, none⟩) from by simp [upd, h0, h3])]; first | rfl | simp [go_sem]) fun a2 F2 => ?_
  refine ly F2 rfl hC rfl (by omega) (wanted_none rfl) (v := Value.pointer (some ⟨hb, 0, none⟩)) (fun wr hwr => by simp only [execOp, (F2.eval 16 (by omega)).trans (show _ = Value.pointer (some ⟨hb, 0, none⟩) from by simp [upd, h0, h3])]; first | rfl | simp [go_sem]) fun a3 F3 => ?_
  refine ly F3 rfl hC rfl (by omega) (wanted_none rfl) (v := Value.pointer (some ⟨hb, 1, none⟩)) (fun wr hwr => by simp only [execOp, (F3.eval 17 (by omega)).trans (show _ = Value.pointer (some ⟨hb, 0, none⟩) from by simp [upd, h0, h3])]; first | rfl | simp [go_sem]) fun a4 F4 => ?_
  refine ly F4 rfl hC rfl (by omega) (wanted_none rfl) (v := v) (fun wr hwr => by simp only [execOp, (F4.eval 18 (by omega)).trans (show _ = Value.pointer (some ⟨hb, 1, none⟩) from by simp [upd, h0, h3])]; simp [go_sem, (show wr.cell? ⟨hb, 1, none⟩ = some v from (World.cell?_of_block (w := w) hwr.1).trans hS.c1)]) fun a5 F5 => ?_
  refine ly F5 rfl hC rfl (by omega) (wanted_none rfl) (v := Value.agg (letC f t (.slice ao k c))) (fun wr hwr => by simp only [execOp, (F5.eval 3 (by omega)).trans (show _ = Value.pointer (some ⟨w.heap.size, 0, none⟩) from by simp [upd, h0, h3]), Instr.loadAt, Instr.sureAddr, Sem.run_bind, Sem.run_pure, Result.andThen_ok, run_loadVar_row (P := Try.prog) wr w.heap.size 31 31 (letC f t (.slice ao k c)) (0, 0) _ hwr.2 Try.underlying31 rfl (by kernel_rfl)]) fun a6 F6 => ?_
  refine lc F6 rfl hC rfl (by omega) (wanted_none rfl) (g := 27) (args := #[.agg (letC f t (.slice ao k c))]) (by simp only [execOp, resolve, invoke, List.map_toArray, List.map_cons, List.map_nil, (F6.eval 20 (by omega)).trans (show _ = Value.agg (letC f t (.slice ao k c)) from by simp [upd, h0, h3])]; simp [go_sem, Act.eval]) (like_any f t ao k c s W hl hnil hk hfW) ?_
  rintro e1 W1 ⟨d, rfl, hd1, hb1⟩
  refine ⟨_, rfl, fun a7 F7 => ?_⟩
  have hC1 : CSend w hb w.heap.size (letC f t (.slice ao k c)) W1 := ⟨(hb1.block hb (by omega)).trans hC.1, (hb1.block _ hC.2.lt).trans hC.2⟩
  have hds : ∃ ao' cap', d = .slice ao' k cap' := by obtain ⟨x, y, h, _⟩ := own_slice hd1; exact ⟨x, y, h⟩
  have hd1c : d.oneCell' = true := by obtain ⟨x, y, rfl⟩ := hds; rfl
  refine le F7 rfl hC1 rfl (by omega) (wanted_none rfl) (v := Value.slice (some ⟨W1.heap.size, 0, none⟩) 1 1) (w1 := W1.alloc (.cells (letC f t d) 31)) (by simp only [execOp, List.map_toArray, List.map_cons, List.map_nil, (F7.eval 21 (by omega)).trans (show _ = Value.agg (letC f t d) from by simp [upd, h0, h3])]; simp [go_sem, letC]) fun a8 F8 => ?_
  have hC2 : CSend w hb w.heap.size (letC f t (.slice ao k c)) (W1.alloc (.cells (letC f t d) 31)) := ⟨(Below.heap_alloc _ _ _ (by have := hb1.size; omega)).trans hC1.1, (Below.heap_alloc _ _ _ hC1.2.lt).trans hC1.2⟩
  have hk2 : ∀ j, j < W.heap.size → (W1.alloc (.cells (letC f t d) 31)).heap[j]? = W.heap[j]? := fun j hj => (Below.heap_alloc _ _ _ (by have := hb1.size; omega)).trans (hb1.block j hj)
  have hS2 : Bag base hb room v ls (W1.alloc (.cells (letC f t d) 31)) := hSW.keep hk2
  obtain ⟨v3, W3, hr3, ho3, hG3⟩ := append3 hS2.own W1.heap.size ⟨f, t, d, s⟩ (heap_alloc_new W1 _) hd1c (by omega) (by have := hb1.size; simp; omega) 22
  have hb3 : hb ≠ W1.heap.size := by have := hb1.size; omega
  have hvlt : ∀ j, v.ownBlock = some j → j < w.heap.size := fun j hj => (hS.own.lt j hj).2
  have hC3 : CSend w hb w.heap.size (letC f t (.slice ao k c)) W3 := ⟨(hG3.g.block hb (by have := hS2.lt; exact this) (fun e => hS2.ne e.symm)).trans hC2.1, (hG3.g.block _ hC2.2.lt (fun e => by have := hvlt _ e.symm; omega)).trans hC2.2⟩
  refine le F8 rfl hC2 rfl (by omega) (wanted_none rfl) (v := v3) (w1 := W3) (by simp only [execOp, resolve, invoke, builtin, Sem.run_bind, Sem.run_pure, Result.andThen_ok, List.map_toArray, List.map_cons, List.map_nil, (F8.eval 19 (by omega)).trans (show _ = v from by simp [upd, h0, h3]), (F8.eval 22 (by omega)).trans (show _ = Value.slice (some ⟨W1.heap.size, 0, none⟩) 1 1 from by simp [upd, h0, h3]), hr3]) fun a9 F9 => ?_
  refine ly F9 rfl hC3 rfl (by omega) (wanted_none rfl) (v := Value.pointer (some ⟨hb, 0, none⟩)) (fun wr hwr => by simp only [execOp, (F9.eval 15 (by omega)).trans (show _ = Value.pointer (some ⟨hb, 0, none⟩) from by simp [upd, h0, h3])]; first | rfl | simp [go_sem]) fun a10 F10 => ?_
  refine ly F10 rfl hC3 rfl (by omega) (wanted_none rfl) (v := Value.pointer (some ⟨hb, 1, none⟩)) (fun wr hwr => by simp only [execOp, (F10.eval 24 (by omega)).trans (show _ = Value.pointer (some ⟨hb, 0, none⟩) from by simp [upd, h0, h3])]; first | rfl | simp [go_sem]) fun a11 F11 => ?_
  have hv3 : ∃ ao' cap', v3 = .slice ao' (ls.length + 1) cap' := by obtain ⟨x, y, h, _⟩ := own_slice ho3; exact ⟨x, y, h⟩
  have hB3 : Blk W3 hb #[.int .i64 (room : Nat), v] 54 := hC3.1.trans hS.blk
  have hr4 : (storeVar 22 ⟨hb, 1, none⟩ v3).run Try.prog W3 = .ok () (W3.setCell ⟨hb, 1, none⟩ v3) := by
    obtain ⟨x, y, rfl⟩ := hv3
    have z1 := hB3.frozen 1
    have z2 : W3.cell? ⟨hb, 1, none⟩ = some v := hB3.cell 1
    simp [go_sem, z1, z2]
  refine lst rfl hC3 rfl (wanted_none rfl) (w1 := W3.setCell ⟨hb, 1, none⟩ v3) (by simp only [execOp, (F11.eval 25 (by omega)).trans (show _ = Value.pointer (some ⟨hb, 1, none⟩) from by simp [upd, h0, h3]), (F11.eval 23 (by omega)).trans (show _ = v3 from by simp [upd, h0, h3])]; simp [Instr.storeAt, Instr.sureAddr, hr4]) ?_

  refine ⟨fun h => by omega, ?_⟩
  have hv3' : ∀ j, v3.ownBlock = some j → j ≠ hb := fun j hj e => by
    subst e
    obtain ⟨cur, hc⟩ := ownsRow_type ho3 hj
    rw [hB3] at hc
    cases hc
  have hsz1 := hb1.size
  have hsz3 : W1.heap.size + 1 ≤ W3.heap.size := by have := hG3.g.size; rwa [World.size_alloc] at this
  have hlow : ∀ j, j < W1.heap.size → v.ownBlock ≠ some j → W3.heap[j]? = W1.heap[j]? := fun j hj hne => (hG3.g.block j (by rw [World.size_alloc]; omega) (fun e => hne e.symm)).trans (Below.heap_alloc _ _ _ hj)
  have hold : ∀ j, j < w.heap.size → v.ownBlock ≠ some j → W3.heap[j]? = w.heap[j]? := fun j hj hne => (hlow j (by omega) hne).trans ((hb1.block j (by omega)).trans (hW0.block j hj))
  have hset : ∀ j, j ≠ hb → (W3.setCell ⟨hb, 1, none⟩ v3).heap[j]? = W3.heap[j]? := fun j hj => Below.heap_setCell _ _ _ _ hj
  have hBag : Bag base hb room v3 (ls ++ [⟨f, t, d, s⟩]) (W3.setCell ⟨hb, 1, none⟩ v3) := by
    refine ⟨Blk.set hB3 1 v3, ?_, fun l hl2 => ?_⟩
    · rw [List.length_append]
      exact ownsRow_same ho3 fun g hg => hset g (hv3' g hg)
    · rcases List.mem_append.1 hl2 with h1 | h1
      · refine ownsRow_same (hS.dat l h1) fun g hg => ?_
        obtain ⟨n1, n2⟩ := hS.dne l h1 g hg
        exact (hset g n1).trans (hold g ((hS.dat l h1).lt g hg).2 n2)
      · simp only [List.mem_singleton] at h1
        subst h1
        refine ownsRow_mono (base := W.heap.size) (ownsRow_same (by rw [hl]; exact hd1) fun g hg => ?_) hbase'
        have hg2 := hd1.lt g hg
        exact (hset g (by omega)).trans (hlow g hg2.2 (fun e => by have := hvlt g e; omega))
  have hStp : Stp hb v v3 w (W3.setCell ⟨hb, 1, none⟩ v3) := by
    refine ⟨?_, ?_, ?_, ?_, fun j hj n1 n2 => (hset j n1).trans (hold j hj n2), fun j hj => ?_⟩
    · exact hG3.g.os.trans (hb1.os.trans hW0.os)
    · exact hG3.g.tape.trans (hb1.tape.trans hW0.tape)
    · exact hG3.g.output.trans (hb1.output.trans hW0.output)
    · show w.heap.size ≤ (W3.setCell ⟨hb, 1, none⟩ v3).heap.size
      simp [World.setCell]
      omega
    · rcases hG3.at' j hj with h1 | h1
      · exact Or.inl h1
      · rw [World.size_alloc] at h1
        exact Or.inr (by omega)
  have hfr : ∀ j, d.ownBlock = some j → w.heap.size ≤ j := fun j hj => by have := (hd1.lt j hj).1; omega
  clear hS hSW hS2 ho3 hG3 hd1 hb1 hC hC1 hC2 hC3 hr3 hr4 hB3 hlow hold hset hW0 hBW hk2
  show K _ _
  apply hK
  revert F11
  generalize (upd _ _ _ : Nat → Value) = f'
  intro F'
  rw [F'.lit, show ((List.range 26).map f').toArray = #[f' 0, f' 1, f' 2, f' 3, f' 4, f' 5, f' 6, f' 7, f' 8, f' 9, f' 10, f' 11, f' 12, f' 13, f' 14, f' 15, f' 16, f' 17, f' 18, f' 19, f' 20, f' 21, f' 22, f' 23, f' 24, f' 25] from rfl]
  go_wp2
  go_ret
  exact ⟨rfl, v3, d, hBag, hStp, hfr⟩
end Go.Proofs.Ytehjdkdoalmaeaa
