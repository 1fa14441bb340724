import Derived.Test.YtneiomimjgfbpaaJoinC
import Derived.Test.YtneiomimjgfbpaaJoinE
import Derived.Test.YtneiomimjgfbpaaJoinD
import Derived.Test.YtneiomimjgfbpaaArgs
namespace Go.Proofs.Ytneiomimjgfbpaa
open Go.RowKit Go.PlainAid
set_option linter.unusedSimpArgs false
set_option linter.unusedVariables false
theorem RX.low {hb : Nat} {w w' : World} {base : Nat} (h : RX hb w w') (hb' : base ≤ hb) (hs : base ≤ w.heap.size) : Below base w w' := ⟨h.os, h.tape, h.output, h.size, fun k hk => h.block k (by omega) (by omega)⟩
set_option maxRecDepth 100000 in
set_option maxHeartbeats 3200000 in
theorem rdecRep_any (ao : Option Addr) (n cap : Nat) (bs : List UInt8) (w : World) (hlen : bs.length = n) (hsrc : From w ao bs) (hab : ∀ b o, ao = some ⟨b, o, none⟩ → b < w.heap.size) (hsm : n ≤ 140737488355328) (hrm : n ≤ cap) (hnil : ao = none → n = 0 ∧ cap = 0) (hform : ao = none ∨ ∃ b off, ao = some ⟨b, off, none⟩) :
    Calls Try.prog 66 #[.slice ao n cap] w (DecRPost (whole reply bs) w) := by
  have hz : (w.alloc (.cells #[.int .i64 0, .int .i64 0, .int .i64 0, .int .i64 0] 55)).heap.size = w.heap.size + 1 := World.size_alloc _ _
  have hb1 : Below w.heap.size w ((w.alloc (.cells #[.int .i64 0, .int .i64 0, .int .i64 0, .int .i64 0] 55)).alloc (.cells #[.slice ao n cap, .int .i64 0, .bool false] 146)) := ((Below.refl _ _).alloc (Nat.le_refl _) _).alloc (by simp) _
  have hR0 : RdB ((w.alloc (.cells #[.int .i64 0, .int .i64 0, .int .i64 0, .int .i64 0] 55)).alloc (.cells #[.slice ao n cap, .int .i64 0, .bool false] 146)) (w.heap.size + 1) ao n cap bs (0, false) := by
    refine ⟨?_, hlen, hsrc.keep fun b o e => hb1.block b (hab b o e), Nat.zero_le _⟩
    rw [← hz]
    exact heap_alloc_new _ _
  have hres0 : Blk ((w.alloc (.cells #[.int .i64 0, .int .i64 0, .int .i64 0, .int .i64 0] 55)).alloc (.cells #[.slice ao n cap, .int .i64 0, .bool false] 146)) w.heap.size #[.int .i64 0, .int .i64 0, .int .i64 0, .int .i64 0] 55 := (Below.heap_alloc _ _ _ (by simp)).trans (heap_alloc_new w _)
  have hzz : ((w.alloc (.cells #[.int .i64 0, .int .i64 0, .int .i64 0, .int .i64 0] 55)).alloc (.cells #[.slice ao n cap, .int .i64 0, .bool false] 146)).heap.size = w.heap.size + 2 := by simp
  have hc1 := rcall2_any (w.heap.size + 1) ao n cap bs (0, false) _ hR0 hsm (fun b o e => by have := hab b o e; omega) _ _ rfl rfl
  have HW : Hid (∀ r1 r2 r3 r4, rstep (num 0 63) 0 bs (0, false) = r1 → rstep (num 1 1099511627776) 0 bs r1.2 = r2 → rstep (num 0 255) 0 bs r2.2 = r3 → rstep signed 0 bs r3.2 = r4 → (r4.2.2 = true ∨ r4.2.1 < n → whole reply bs = .error r4.2.1) ∧ (¬ (r4.2.2 = true ∨ r4.2.1 < n) → whole reply bs = .ok (((r1.1, r2.1), r3.1, r4.1), 0))) := by
    intro r1 r2 r3 r4 h1 h2 h3 h4
    subst h1 h2 h3 h4
    have hw := whole_follows ((f_call bs).pair ((Follows.step (num 0 255) 0 bs).pair (Follows.step signed 0 bs)))
    rw [hlen] at hw
    exact hw
  go_enter Try.func66, Try.ntmps66
  go_wp2_with fail
  generalize ((w.alloc (.cells #[.int .i64 0, .int .i64 0, .int .i64 0, .int .i64 0] 55)).alloc (.cells #[.slice ao n cap, .int .i64 0, .bool false] 146)) = W1 at *
  refine hc1.mono ?_
  rintro e1 w1 ⟨rfl, hT1, hX1⟩
  replace HW : Hid _ := fun r2 r3 r4 => HW.out _ r2 r3 r4 rfl
  generalize rstep (num 0 63) 0 bs (0, false) = r1 at *
  replace HW : Hid _ := fun r3 r4 => HW.out _ r3 r4 rfl
  generalize rstep (num 1 1099511627776) 0 bs r1.2 = r2 at *
  unfold two
  have hxs := hX1.size
  have hb2 : Below w1.heap.size w1 (w1.alloc (.cells #[.int .i64 r1.1, .int .i64 r2.1, .int .i64 0, .int .i64 0] 55)) := by go_grown
  have hB2 : Blk (w1.alloc (.cells #[.int .i64 r1.1, .int .i64 r2.1, .int .i64 0, .int .i64 0] 55)) w1.heap.size #[.int .i64 r1.1, .int .i64 r2.1, .int .i64 0, .int .i64 0] 55 := heap_alloc_new w1 _
  have hT2 := hT1.keep hb2.block
  have hR2 : Blk (w1.alloc (.cells #[.int .i64 r1.1, .int .i64 r2.1, .int .i64 0, .int .i64 0] 55)) w.heap.size #[.int .i64 0, .int .i64 0, .int .i64 0, .int .i64 0] 55 := (hb2.block _ (by omega)).trans ((hX1.block _ (by omega) (by omega)).trans hres0)
  have hL2 : Below w.heap.size w (w1.alloc (.cells #[.int .i64 r1.1, .int .i64 r2.1, .int .i64 0, .int .i64 0] 55)) := (hb1.trans (hX1.low (by omega) (by omega))).trans (hb2.mono (by omega))
  have hc2 := rnum_any (w.heap.size + 1) ao n cap bs r2.2 0 255 (by omega) (by omega) _ hT2 hsm
  have HX : Hid _ := And.intro hB2 (And.intro hR2 hL2)
  clear hB2 hR2 hL2 hT2 hb2 hX1 hT1 hc1 hres0 hR0 hb1
  go_wp2_with fail
  obtain ⟨hB2, hR2, hL2⟩ := HX.out
  clear HX
  generalize (w1.alloc (.cells #[.int .i64 r1.1, .int .i64 r2.1, .int .i64 0, .int .i64 0] 55)) = W2 at *
  refine hc2.mono ?_
  rintro e3 w3 ⟨rfl, hT3, hX3⟩
  replace HW : Hid _ := fun r4 => HW.out _ r4 rfl
  generalize rstep (num 0 255) 0 bs r2.2 = r3 at *
  have hB3 : Blk w3 w1.heap.size #[.int .i64 r1.1, .int .i64 r2.1, .int .i64 0, .int .i64 0] 55 := (hX3.block _ (by omega)).trans hB2
  have hR3 : Blk w3 w.heap.size #[.int .i64 0, .int .i64 0, .int .i64 0, .int .i64 0] 55 := (hX3.block _ (by omega)).trans hR2
  have hL3 : Below w.heap.size w w3 := hL2.trans ((RX.of hX3).low (by omega) hL2.size)
  have c3 : w3.cell? ⟨w1.heap.size, 2, none⟩ = some (.int .i64 0) := hB3.cell 2
  have z3 := hB3.frozen 2
  have hB4 : Blk (w3.setCell ⟨w1.heap.size, 2, none⟩ (.int .i64 r3.1)) w1.heap.size #[.int .i64 r1.1, .int .i64 r2.1, .int .i64 r3.1, .int .i64 0] 55 := Blk.set hB3 2 _
  have hk4 : ∀ k, k ≠ w1.heap.size → (w3.setCell ⟨w1.heap.size, 2, none⟩ (.int .i64 r3.1)).heap[k]? = w3.heap[k]? := fun k hk => Below.heap_setCell _ _ _ _ hk
  have hR4 : Blk (w3.setCell ⟨w1.heap.size, 2, none⟩ (.int .i64 r3.1)) w.heap.size #[.int .i64 0, .int .i64 0, .int .i64 0, .int .i64 0] 55 := (hk4 _ (by omega)).trans hR3
  have hT4 : RdB (w3.setCell ⟨w1.heap.size, 2, none⟩ (.int .i64 r3.1)) (w.heap.size + 1) ao n cap bs r3.2 := by
    refine ⟨(hk4 _ (by omega)).trans hT3.blk, hT3.len, hT3.src.keep fun b o e => hk4 b (by have := hab b o e; omega), hT3.le⟩
  have hL4 : Below w.heap.size w (w3.setCell ⟨w1.heap.size, 2, none⟩ (.int .i64 r3.1)) := hL3.trans ⟨rfl, rfl, rfl, by simp [World.setCell], fun k hk => hk4 k (by omega)⟩
  have hc4 := rsign_any (w.heap.size + 1) ao n cap bs r3.2 _ hT4 hsm
  have HX : Hid _ := And.intro hB4 (And.intro hR4 hL4)
  clear hB4 hR4 hL4 hT4 hk4 hB3 hR3 hL3 hX3 hT3 hc2 hB2 hR2 hL2
  go_wp2_with fail
  obtain ⟨hB4, hR4, hL4⟩ := HX.out
  clear HX c3 z3
  generalize (w3.setCell ⟨w1.heap.size, 2, none⟩ (.int .i64 r3.1)) = W4 at *
  refine hc4.mono ?_
  rintro e5 w5 ⟨rfl, hT5, hX5⟩
  replace HW : Hid _ := HW.out _ rfl
  generalize rstep signed 0 bs r3.2 = r4 at *
  have hB5 : Blk w5 w1.heap.size #[.int .i64 r1.1, .int .i64 r2.1, .int .i64 r3.1, .int .i64 0] 55 := (hX5.block _ (by omega)).trans hB4
  have hR5 : Blk w5 w.heap.size #[.int .i64 0, .int .i64 0, .int .i64 0, .int .i64 0] 55 := (hX5.block _ (by omega)).trans hR4
  have hL5 : Below w.heap.size w w5 := hL4.trans ((RX.of hX5).low (by omega) hL4.size)
  have c5 : w5.cell? ⟨w1.heap.size, 3, none⟩ = some (.int .i64 0) := hB5.cell 3
  have z5 := hB5.frozen 3
  have hB6 : Blk (w5.setCell ⟨w1.heap.size, 3, none⟩ (.int .i64 r4.1)) w1.heap.size #[.int .i64 r1.1, .int .i64 r2.1, .int .i64 r3.1, .int .i64 r4.1] 55 := Blk.set hB5 3 _
  have hk6 : ∀ k, k ≠ w1.heap.size → (w5.setCell ⟨w1.heap.size, 3, none⟩ (.int .i64 r4.1)).heap[k]? = w5.heap[k]? := fun k hk => Below.heap_setCell _ _ _ _ hk
  have hR6 : Blk (w5.setCell ⟨w1.heap.size, 3, none⟩ (.int .i64 r4.1)) w.heap.size #[.int .i64 0, .int .i64 0, .int .i64 0, .int .i64 0] 55 := (hk6 _ (by omega)).trans hR5
  have hT6 : RdB (w5.setCell ⟨w1.heap.size, 3, none⟩ (.int .i64 r4.1)) (w.heap.size + 1) ao n cap bs r4.2 := by
    refine ⟨(hk6 _ (by omega)).trans hT5.blk, hT5.len, hT5.src.keep fun b o e => hk6 b (by have := hab b o e; omega), hT5.le⟩
  have hL6 : Below w.heap.size w (w5.setCell ⟨w1.heap.size, 3, none⟩ (.int .i64 r4.1)) := hL5.trans ⟨rfl, rfl, rfl, by simp [World.setCell], fun k hk => hk6 k (by omega)⟩
  have hdn := rdone_any (w.heap.size + 1) ao n cap r4.2.1 bs r4.2.2 _ hT6.rds
  have HX : Hid _ := And.intro hB6 (And.intro hR6 hL6)
  clear hB6 hR6 hL6 hT6 hk6 hB5 hR5 hL5 hX5 hT5 hc4 hB4 hR4 hL4
  go_wp2_with fail
  obtain ⟨hB6, hR6, hL6⟩ := HX.out
  clear HX c5 z5
  generalize (w5.setCell ⟨w1.heap.size, 3, none⟩ (.int .i64 r4.1)) = W6 at *
  by_cases hwr : r4.2.2 = true ∨ r4.2.1 < n
  · rw [if_pos hwr] at hdn
    have HE : Hid _ := HW.out.1 hwr
    clear HW
    refine hdn.mono ?_
    rintro e8 w8 ⟨rfl, hD8⟩
    have hR8 : Blk w8 w.heap.size #[.int .i64 0, .int .i64 0, .int .i64 0, .int .i64 0] 55 := by unfold Blk; rw [hD8.heap]; exact hR6
    have hbB : Below w.heap.size w w8 := hL6.trans (hD8.below.mono hL6.size)
    have hB0 : Blk w8 w.heap.size zeroR 55 := hR8
    have hfin : DecRPost (whole reply bs) w (.returned (.tuple #[.agg zeroR, .int .i64 (r4.2.1 : Nat), .int .i64 20])) (w8.setRow w.heap.size zeroR) := by
      refine ⟨hbB.trans ⟨rfl, rfl, rfl, by simp [World.setRow], fun k hk => setRow_other _ _ _ _ (by omega)⟩, ?_⟩
      rw [HE.out]
    have hB3 := setRow_blk (cs := zeroR) hB0
    have HF : Hid _ := hfin
    clear hfin hbB hdn hB6 hR6 hL6 hR8
    go_wp2_with (first | (rw [zeroR_is]; refine wpList_store_row rfl 55 (.tmp 2) (.tmp 28) rfl w.heap.size zeroR rfl rfl 55 zeroR hB0 (by kernel_rfl) rfl (by kernel_rfl) ?_) | (refine wpList_store_row rfl 55 (.tmp 2) (.tmp 28) rfl w.heap.size zeroR rfl rfl 55 zeroR hB0 (by kernel_rfl) rfl (by kernel_rfl) ?_) | fail)
    go_wp2
    exact bodyPost_ret (results_cell2 Try.results66 _ _ w.heap.size zeroR rfl (run_loadVar_row _ _ 55 55 zeroR (0, 0) _ hB3 Try.underlying55 rfl (by kernel_rfl))) rfl HF.out
  · rw [if_neg hwr] at hdn
    have HE : Hid _ := HW.out.2 hwr
    clear HW
    refine hdn.mono ?_
    rintro e8 w8 ⟨rfl, hD8⟩
    have hB0 : Blk w8 w.heap.size zeroR 55 := by unfold Blk; rw [hD8.heap]; exact hR6
    have hM : Blk w8 w1.heap.size (repCells ((r1.1, r2.1), r3.1, r4.1)) 55 := by unfold Blk; rw [hD8.heap]; exact hB6
    have hbB : Below w.heap.size w w8 := hL6.trans (hD8.below.mono hL6.size)
    have hall : (repCells ((r1.1, r2.1), r3.1, r4.1)).all (·.oneCell') = true := by simp [repCells, Value.oneCell']
    have hfin : DecRPost (whole reply bs) w (.returned (.tuple #[.agg (repCells ((r1.1, r2.1), r3.1, r4.1)), .int .i64 0, .int .i64 0])) (w8.setRow w.heap.size (repCells ((r1.1, r2.1), r3.1, r4.1))) := by
      refine ⟨hbB.trans ⟨rfl, rfl, rfl, by simp [World.setRow], fun k hk => setRow_other _ _ _ _ (by omega)⟩, ?_⟩
      rw [HE.out]
    have hsz : (repCells ((r1.1, r2.1), r3.1, r4.1)).size = 4 := rfl
    have HF : Hid _ := hfin
    clear hfin hbB hdn hB6 hR6 hL6
    generalize repCells ((r1.1, r2.1), r3.1, r4.1) = D at *
    have hi : (Try.prog.info? 55).map (·.size) = some D.size := by rw [hsz]; kernel_rfl
    have hB3 := setRow_blk (cs := D) hB0
    go_wp2_with (first | (refine wpList_load_row rfl 55 (.tmp 6) rfl w1.heap.size rfl 55 D (0, 0) _ hM Try.underlying55 rfl hi ?_) | (refine wpList_store_row rfl 55 (.tmp 2) (.tmp 31) rfl w.heap.size D rfl rfl 55 zeroR hB0 hi (by rw [hsz]; rfl) hall ?_) | fail)
    go_wp2
    exact bodyPost_ret (results_cell2 Try.results66 _ _ w.heap.size D rfl (run_loadVar_row _ _ 55 55 D (0, 0) _ hB3 Try.underlying55 rfl hi)) rfl HF.out
set_option maxRecDepth 100000 in
set_option maxHeartbeats 3200000 in
theorem rdecReq_any (ao : Option Addr) (n cap : Nat) (bs : List UInt8) (w : World) (hlen : bs.length = n) (hsrc : From w ao bs) (hab : ∀ b o, ao = some ⟨b, o, none⟩ → b < w.heap.size) (hsm : n ≤ 140737488355328) (hrm : n ≤ cap) (hnil : ao = none → n = 0 ∧ cap = 0) (hform : ao = none ∨ ∃ b off, ao = some ⟨b, off, none⟩) :
    Calls Try.prog 64 #[.slice ao n cap] w (DecQPost (whole request bs) w) := by
  have hz : ((w.alloc (.cells zeroQ 29)).alloc (.cells zeroO 31)).heap.size = w.heap.size + 2 := by simp
  have hb1 : Below w.heap.size w (((w.alloc (.cells zeroQ 29)).alloc (.cells zeroO 31)).alloc (.cells #[.slice ao n cap, .int .i64 0, .bool false] 146)) := (((Below.refl _ _).alloc (Nat.le_refl _) _).alloc (by simp) _).alloc (by simp; omega) _
  have hR0 : RdB (((w.alloc (.cells zeroQ 29)).alloc (.cells zeroO 31)).alloc (.cells #[.slice ao n cap, .int .i64 0, .bool false] 146)) (w.heap.size + 2) ao n cap bs (0, false) := by
    refine ⟨?_, hlen, hsrc.keep fun b o e => hb1.block b (hab b o e), Nat.zero_le _⟩
    rw [← hz]
    exact heap_alloc_new _ _
  have hA1 : Blk (((w.alloc (.cells zeroQ 29)).alloc (.cells zeroO 31)).alloc (.cells #[.slice ao n cap, .int .i64 0, .bool false] 146)) w.heap.size zeroQ 29 := (Below.heap_alloc _ _ _ (by simp; omega)).trans ((Below.heap_alloc _ _ _ (by simp)).trans (heap_alloc_new w _))
  have hA2 : Blk (((w.alloc (.cells zeroQ 29)).alloc (.cells zeroO 31)).alloc (.cells #[.slice ao n cap, .int .i64 0, .bool false] 146)) (w.heap.size + 1) zeroO 31 := by
    refine (Below.heap_alloc _ _ _ (by simp)).trans ?_
    have := heap_alloc_new (w.alloc (.cells zeroQ 29)) (.cells zeroO 31)
    rw [World.size_alloc] at this
    exact this
  have hzz : (((w.alloc (.cells zeroQ 29)).alloc (.cells zeroO 31)).alloc (.cells #[.slice ao n cap, .int .i64 0, .bool false] 146)).heap.size = w.heap.size + 3 := by simp
  have hc1 := rcall2_any (w.heap.size + 2) ao n cap bs (0, false) _ hR0 hsm (fun b o e => by have := hab b o e; omega) _ _ rfl rfl
  have HW : Hid (∀ r1 r2 r3, rstep (num 0 63) 0 bs (0, false) = r1 → rstep (num 1 1099511627776) 0 bs r1.2 = r2 → ostep bs r2.2 = r3 → (r3.2.2 = true ∨ r3.2.1 < n → whole request bs = .error r3.2.1) ∧ (¬ (r3.2.2 = true ∨ r3.2.1 < n) → whole request bs = .ok (((r1.1, r2.1), r3.1), 0))) := by
    intro r1 r2 r3 h1 h2 h3
    subst h1 h2 h3
    have hw := whole_follows ((f_call bs).pair (Follows.op bs))
    rw [hlen] at hw
    exact hw
  go_enter Try.func64, Try.ntmps64
  go_wp2_with fail
  rw [zeroQ_is, zeroO_is]
  generalize (((w.alloc (.cells zeroQ 29)).alloc (.cells zeroO 31)).alloc (.cells #[.slice ao n cap, .int .i64 0, .bool false] 146)) = W1 at *
  refine hc1.mono ?_
  rintro e1 w1 ⟨rfl, hT1, hX1⟩
  replace HW : Hid _ := fun r2 r3 => HW.out _ r2 r3 rfl
  generalize rstep (num 0 63) 0 bs (0, false) = r1 at *
  replace HW : Hid _ := fun r3 => HW.out _ r3 rfl
  generalize rstep (num 1 1099511627776) 0 bs r1.2 = r2 at *
  unfold two
  have hxs := hX1.size
  have hb2 : Below w1.heap.size w1 (w1.alloc (.cells #[.int .i64 r1.1, .int .i64 r2.1] 29)) := by go_grown
  have hB2 : Blk (w1.alloc (.cells #[.int .i64 r1.1, .int .i64 r2.1] 29)) w1.heap.size #[.int .i64 r1.1, .int .i64 r2.1] 29 := heap_alloc_new w1 _
  have hT2 := hT1.keep hb2.block
  have hQ2 : Blk (w1.alloc (.cells #[.int .i64 r1.1, .int .i64 r2.1] 29)) w.heap.size zeroQ 29 := (hb2.block _ (by omega)).trans ((hX1.block _ (by omega) (by omega)).trans hA1)
  have hO2 : Blk (w1.alloc (.cells #[.int .i64 r1.1, .int .i64 r2.1] 29)) (w.heap.size + 1) zeroO 31 := (hb2.block _ (by omega)).trans ((hX1.block _ (by omega) (by omega)).trans hA2)
  have hL2 : Below w.heap.size w (w1.alloc (.cells #[.int .i64 r1.1, .int .i64 r2.1] 29)) := (hb1.trans (hX1.low (by omega) (by omega))).trans (hb2.mono (by omega))
  have hsz2 : (w1.alloc (.cells #[.int .i64 r1.1, .int .i64 r2.1] 29)).heap.size = w1.heap.size + 1 := by simp
  have hc2 := rop2_any (w.heap.size + 2) ao n cap bs r2.2 _ hT2 hsm hrm hnil hform (fun b o e => by have := hab b o e; omega)
  have HX : Hid _ := And.intro hB2 (And.intro hQ2 (And.intro hO2 (And.intro hL2 hsz2)))
  clear hB2 hQ2 hO2 hL2 hT2 hb2 hX1 hT1 hc1 hA1 hA2 hR0 hb1 hsz2
  go_wp2_with fail
  obtain ⟨hB2, hQ2, hO2, hL2, hsz2⟩ := HX.out
  clear HX
  generalize (w1.alloc (.cells #[.int .i64 r1.1, .int .i64 r2.1] 29)) = W2 at *
  refine hc2.mono ?_
  rintro e3 w3 ⟨rfl, hT3, hX3⟩
  replace HW : Hid _ := HW.out _ rfl
  generalize ostep bs r2.2 = r3 at *
  unfold opCells Str
  have hx3 := hX3.size
  have hb4 : Below w3.heap.size w3 (w3.alloc (.cells #[.int .i64 r3.1.1, .string ⟨r3.1.2.1.toArray⟩, .int .i64 r3.1.2.2.1, .int .i64 r3.1.2.2.2] 31)) := by go_grown
  have hM4 : Blk (w3.alloc (.cells #[.int .i64 r3.1.1, .string ⟨r3.1.2.1.toArray⟩, .int .i64 r3.1.2.2.1, .int .i64 r3.1.2.2.2] 31)) w3.heap.size #[.int .i64 r3.1.1, .string ⟨r3.1.2.1.toArray⟩, .int .i64 r3.1.2.2.1, .int .i64 r3.1.2.2.2] 31 := heap_alloc_new w3 _
  have hB4 : Blk (w3.alloc (.cells #[.int .i64 r3.1.1, .string ⟨r3.1.2.1.toArray⟩, .int .i64 r3.1.2.2.1, .int .i64 r3.1.2.2.2] 31)) w1.heap.size #[.int .i64 r1.1, .int .i64 r2.1] 29 := (hb4.block _ (by omega)).trans ((hX3.block _ (by omega) (by omega)).trans hB2)
  have hQ4 : Blk (w3.alloc (.cells #[.int .i64 r3.1.1, .string ⟨r3.1.2.1.toArray⟩, .int .i64 r3.1.2.2.1, .int .i64 r3.1.2.2.2] 31)) w.heap.size zeroQ 29 := (hb4.block _ (by omega)).trans ((hX3.block _ (by omega) (by omega)).trans hQ2)
  have hO4 : Blk (w3.alloc (.cells #[.int .i64 r3.1.1, .string ⟨r3.1.2.1.toArray⟩, .int .i64 r3.1.2.2.1, .int .i64 r3.1.2.2.2] 31)) (w.heap.size + 1) zeroO 31 := (hb4.block _ (by omega)).trans ((hX3.block _ (by omega) (by omega)).trans hO2)
  have hL4 : Below w.heap.size w (w3.alloc (.cells #[.int .i64 r3.1.1, .string ⟨r3.1.2.1.toArray⟩, .int .i64 r3.1.2.2.1, .int .i64 r3.1.2.2.2] 31)) := (hL2.trans (hX3.low (by omega) hL2.size)).trans (hb4.mono (by omega))
  have hT4 := hT3.keep hb4.block
  have hdn := rdone_any (w.heap.size + 2) ao n cap r3.2.1 bs r3.2.2 _ hT4.rds
  have HX : Hid _ := And.intro hM4 (And.intro hB4 (And.intro hQ4 (And.intro hO4 hL4)))
  clear hM4 hB4 hQ4 hO4 hL4 hT4 hb4 hX3 hT3 hc2 hB2 hQ2 hO2 hL2
  go_wp2_with fail
  obtain ⟨hM4, hB4, hQ4, hO4, hL4⟩ := HX.out
  clear HX
  generalize (w3.alloc (.cells #[.int .i64 r3.1.1, .string ⟨r3.1.2.1.toArray⟩, .int .i64 r3.1.2.2.1, .int .i64 r3.1.2.2.2] 31)) = W4 at *
  by_cases hwr : r3.2.2 = true ∨ r3.2.1 < n
  · rw [if_pos hwr] at hdn
    have HR : Hid _ := HW.out.1 hwr
    clear HW
    refine hdn.mono ?_
    rintro e8 w2 ⟨rfl, hD8⟩
    have hB0 : Blk w2 w.heap.size zeroQ 29 := by unfold Blk; rw [hD8.heap]; exact hQ4
    have hB1 : Blk w2 (w.heap.size + 1) zeroO 31 := by unfold Blk; rw [hD8.heap]; exact hO4
    have hbB : Below w.heap.size w w2 := hL4.trans (hD8.below.mono hL4.size)
    have r0 : w2.cell? ⟨w.heap.size, 0, none⟩ = some (.int .i64 0) := by rw [hB0.cell]; rfl
    have r1' : w2.cell? ⟨w.heap.size, 1, none⟩ = some (.int .i64 0) := by rw [hB0.cell]; rfl
    have s0 : w2.cell? ⟨w.heap.size + 1, 0, none⟩ = some (.int .i64 0) := by rw [hB1.cell]; rfl
    have s1 : w2.cell? ⟨w.heap.size + 1, 1, none⟩ = some (.string ⟨#[]⟩) := by rw [hB1.cell]; rfl
    have s2 : w2.cell? ⟨w.heap.size + 1, 2, none⟩ = some (.int .i64 0) := by rw [hB1.cell]; rfl
    have s3 : w2.cell? ⟨w.heap.size + 1, 3, none⟩ = some (.int .i64 0) := by rw [hB1.cell]; rfl
    have f0 := hB0.frozen 0
    have f1 := hB0.frozen 1
    have g0 := hB1.frozen 0
    have g1 := hB1.frozen 1
    have g2 := hB1.frozen 2
    have g3 := hB1.frozen 3
    clear hdn hM4 hB4 hQ4 hO4 hL4 hD8 hwr hsz2 hx3 hxs hzz hz hab
    generalize hLL : w.heap.size = L at *
    go_wp2
    obtain ⟨l1, l2, l3⟩ := laid6 w2 L 0 0 0 [] 0 0 hB0 hB1
    refine bodyPost_ret (results_cell22 Try.results64 _ _ L (L + 1) zeroQ zeroO rfl (run_loadVar_row _ _ 29 29 zeroQ (0, 0) _ l1 Try.underlying29 rfl (by kernel_rfl)) rfl (run_loadVar_row _ _ 31 31 zeroO (0, 0) _ l2 Try.underlying31 rfl (by kernel_rfl))) rfl ?_
    refine ⟨by rw [hLL]; exact l3 w hbB, ?_⟩
    rw [HR.out]
    rfl
  · rw [if_neg hwr] at hdn
    have HR : Hid _ := HW.out.2 hwr
    clear HW
    refine hdn.mono ?_
    rintro e8 w2 ⟨rfl, hD8⟩
    have hB0 : Blk w2 w.heap.size zeroQ 29 := by unfold Blk; rw [hD8.heap]; exact hQ4
    have hB1 : Blk w2 (w.heap.size + 1) zeroO 31 := by unfold Blk; rw [hD8.heap]; exact hO4
    have hM1 : Blk w2 w1.heap.size #[.int .i64 r1.1, .int .i64 r2.1] 29 := by unfold Blk; rw [hD8.heap]; exact hB4
    have hM2 : Blk w2 w3.heap.size #[.int .i64 r3.1.1, .string ⟨r3.1.2.1.toArray⟩, .int .i64 r3.1.2.2.1, .int .i64 r3.1.2.2.2] 31 := by unfold Blk; rw [hD8.heap]; exact hM4
    have hbB : Below w.heap.size w w2 := hL4.trans (hD8.below.mono hL4.size)
    have r0 : w2.cell? ⟨w.heap.size, 0, none⟩ = some (.int .i64 0) := by rw [hB0.cell]; rfl
    have r1' : w2.cell? ⟨w.heap.size, 1, none⟩ = some (.int .i64 0) := by rw [hB0.cell]; rfl
    have s0 : w2.cell? ⟨w.heap.size + 1, 0, none⟩ = some (.int .i64 0) := by rw [hB1.cell]; rfl
    have s1 : w2.cell? ⟨w.heap.size + 1, 1, none⟩ = some (.string ⟨#[]⟩) := by rw [hB1.cell]; rfl
    have s2 : w2.cell? ⟨w.heap.size + 1, 2, none⟩ = some (.int .i64 0) := by rw [hB1.cell]; rfl
    have s3 : w2.cell? ⟨w.heap.size + 1, 3, none⟩ = some (.int .i64 0) := by rw [hB1.cell]; rfl
    have f0 := hB0.frozen 0
    have f1 := hB0.frozen 1
    have g0 := hB1.frozen 0
    have g1 := hB1.frozen 1
    have g2 := hB1.frozen 2
    have g3 := hB1.frozen 3
    obtain ⟨c, hc⟩ : ∃ c, r1.1 = c := ⟨_, rfl⟩
    obtain ⟨i, hi⟩ : ∃ c, r2.1 = c := ⟨_, rfl⟩
    obtain ⟨x3, hx3'⟩ : ∃ c, r3.1 = c := ⟨_, rfl⟩
    obtain ⟨o, nm, oa, ob⟩ := x3
    rw [hc, hi, hx3'] at HR
    rw [hc, hi] at hM1
    rw [hx3'] at hM2
    have t0 : w2.cell? ⟨w1.heap.size, 0, none⟩ = some (.int .i64 c) := by rw [hM1.cell]; rfl
    have t1 : w2.cell? ⟨w1.heap.size, 1, none⟩ = some (.int .i64 i) := by rw [hM1.cell]; rfl
    have u0 : w2.cell? ⟨w3.heap.size, 0, none⟩ = some (.int .i64 o) := by rw [hM2.cell]; rfl
    have u1 : w2.cell? ⟨w3.heap.size, 1, none⟩ = some (.string ⟨nm.toArray⟩) := by rw [hM2.cell]; rfl
    have u2 : w2.cell? ⟨w3.heap.size, 2, none⟩ = some (.int .i64 oa) := by rw [hM2.cell]; rfl
    have u3 : w2.cell? ⟨w3.heap.size, 3, none⟩ = some (.int .i64 ob) := by rw [hM2.cell]; rfl
    have hn1 : w1.heap.size ≠ w.heap.size := by omega
    have hn2 : w1.heap.size ≠ w.heap.size + 1 := by omega
    have hn3 : w3.heap.size ≠ w.heap.size := by omega
    have hn4 : w3.heap.size ≠ w.heap.size + 1 := by omega
    clear hdn hM4 hB4 hQ4 hO4 hL4 hD8 hwr hsz2 hx3 hxs hzz hz hab hc hi hx3' hM1 hM2
    generalize hLL : w.heap.size = L at *
    generalize w1.heap.size = G1 at *
    generalize w3.heap.size = G3 at *
    go_wp2
    have fin : ∀ (tm : Array Value) (W : World), tm.getD 2 undef = .pointer (some ⟨L, 0, none⟩) → tm.getD 3 undef = .pointer (some ⟨L + 1, 0, none⟩) → tm.getD 4 undef = .int .i64 0 → tm.getD 5 undef = .int .i64 0 →
        Blk W L (callCells (c, i)) 29 → Blk W (L + 1) (opCells (o, nm, oa, ob)) 31 → Below L w W → bodyPost Try.prog Try.f64 (DecQPost (whole request bs) w) Exit.ret { tmps := tm, defers := [] } W.drew := by
      intro tm W t2 t3 t4 t5 l1 l2 l3
      refine bodyPost_ret (results_cell22 Try.results64 _ _ L (L + 1) (callCells (c, i)) (opCells (o, nm, oa, ob)) t2 (run_loadVar_row _ _ 29 29 _ (0, 0) _ l1 Try.underlying29 rfl (by kernel_rfl)) t3 (run_loadVar_row _ _ 31 31 _ (0, 0) _ l2 Try.underlying31 rfl (by kernel_rfl))) rfl ?_
      refine ⟨by rw [hLL]; exact l3.drew, ?_⟩
      rw [HR.out, t4, t5]
    have HF : Hid _ := fin
    clear fin
    obtain ⟨l1, l2, l3⟩ := laid6 w2 L c i o nm oa ob hB0 hB1
    have L1 : Hid _ := l1
    have L2 : Hid _ := l2
    have L3 : Hid _ := l3
    clear l1 l2 l3
    go_region
    all_goals
      go_wp2
      exact HF.out _ _ rfl rfl rfl rfl L1.out L2.out (L3.out w hbB)
end Go.Proofs.Ytneiomimjgfbpaa
namespace Go.Proofs.Ytneiomimjgfbpaa
open Go.RowKit Go.PlainAid
set_option linter.unusedSimpArgs false
set_option linter.unusedVariables false
set_option maxRecDepth 100000 in
set_option maxHeartbeats 6400000 in
theorem replies_any (r : (Int × Int) × Int × Int) (bo : Option Addr) (n cap : Nat) (bs : List UInt8) (w : World) (hy1 : (-9223372036854775808 : Int) ≤ r.2.2) (hy2 : r.2.2 < 9223372036854775808)
    (hlen : bs.length = n) (hsrc : From w bo bs) (hab : ∀ b o, bo = some ⟨b, o, none⟩ → b < w.heap.size) (hsm : n ≤ 140737488351232) (hrm : n ≤ cap) (hbnil : bo = none → n = 0 ∧ cap = 0) (hform : bo = none ∨ ∃ b off, bo = some ⟨b, off, none⟩) :
    Calls Try.prog 30 #[.agg (repCells r), .slice bo n cap] w fun e w' => e = .returned (.bool true) ∧ Below w.heap.size w w' := by
  obtain ⟨D, HD⟩ : ∃ D, Hid (D = repCells r) := ⟨_, rfl⟩
  rw [← HD.out]
  have hsz : D.size = 4 := by rw [HD.out]; rfl
  have hi : (Try.prog.info? 55).map (·.size) = some D.size := by rw [hsz]; kernel_rfl
  have hb0 : Below w.heap.size w (w.alloc (.cells D 55)) := by go_grown
  have hA0 : Blk (w.alloc (.cells D 55)) w.heap.size D 55 := heap_alloc_new w _
  have hs0 : (w.alloc (.cells D 55)).heap.size = w.heap.size + 1 := by simp
  have hr0 := From.below hsrc hb0
  have hen := encodeRep_any r (w.alloc (.cells D 55)) hy1 hy2
  rw [← HD.out] at hen
  have HX : Hid _ := And.intro hb0 (And.intro hr0 hs0)
  clear hb0 hr0 hs0 hsrc
  go_enter Try.func30, Try.ntmps30
  go_wp2_with (first | (refine wpList_load_row rfl 55 (.tmp 2) rfl w.heap.size rfl 55 D (0, 0) _ hA0 Try.underlying55 rfl hi ?_) | fail)
  obtain ⟨hb0, hr0, hs0⟩ := HX.out
  clear HX
  generalize w.alloc (.cells D 55) = W0 at *
  refine hen.mono ?_
  intro e1 w1 h1
  obtain ⟨ao1, c1, rfl, hf1, hbl1, hb1⟩ := encV h1
  have hA1 : Blk w1 w.heap.size D 55 := (hb1.block _ hA0.lt).trans hA0
  have hL1 := hb0.trans (hb1.mono hb0.size)
  have hr1 := From.below hr0 hb1
  have hrn := rencRep_any r w1 hy1 hy2
  rw [← HD.out] at hrn
  generalize hout : (reply.wr r).getD [] = out at *
  generalize hcode : (if (reply.wr r).isSome then (0 : Int) else 21) = code at *
  have HOC : Hid _ := And.intro hout hcode
  have HX : Hid _ := And.intro hL1 (And.intro hr1 (And.intro hf1 hbl1))
  have hz1 := hb1.size
  clear hout hcode hL1 hr1 hf1 hbl1 hb1 h1 hen hb0 hr0
  go_wp2_with (first | (refine wpList_load_row rfl 55 (.tmp 2) rfl w.heap.size rfl 55 D (0, 0) _ hA1 Try.underlying55 rfl hi ?_) | fail)
  refine hrn.mono ?_
  intro e2 w2 h2
  obtain ⟨ao2, c2, rfl, hf2, hbl2, hb2⟩ := encV h2
  rw [HOC.out.1, HOC.out.2] at *
  obtain ⟨hL1, hr1, hf1, hbl1⟩ := HX.out
  have hL2 := hL1.trans (hb2.mono hL1.size)
  have hr2 := From.below hr1 hb2
  have hf12 := From.below hf1 hb2
  have hz2 := hb2.size
  have hle := lent_row bo n cap bs w2 hlen hbnil hr2 (by omega)
  have HX : Hid _ := And.intro hL2 (And.intro hr2 (And.intro hf12 (And.intro hbl1 (And.intro hf2 hbl2))))
  clear hL2 hr2 hf12 hbl1 hf2 hbl2 hb2 h2 hrn hL1 hr1 hf1 HOC hA1 hA0
  go_wp2_with fail
  refine hle.mono ?_
  rintro e3 w3 ⟨g, c, rfl, hc3, hg3, hg3', hO3, hb3⟩
  obtain ⟨hL2, hr2, hf12, hbl1, hf2, hbl2⟩ := HX.out
  have hL3 := hL2.trans (hb3.mono hL2.size)
  have hr3 := From.below hr2 hb3
  have hf13 := From.below hf12 hb3
  have hf23 := From.below hf2 hb3
  have hfl3 : From w3 (some ⟨g, 0, none⟩) bs := fun h0 => ⟨g, 0, rfl, fun j u hu => by rw [Nat.zero_add]; exact own_cellB hO3 (by rw [List.getElem?_append_left (List.getElem?_eq_some_iff.1 hu).1]; exact hu)⟩
  have hde := decodeRep_any g 0 n c bs w3 hlen hfl3 hg3' (by omega) (by omega)
  have hz3 := hb3.size
  have HX : Hid _ := And.intro hL3 (And.intro hr3 (And.intro hf13 (And.intro hf23 (And.intro hbl1 (And.intro hbl2 hO3)))))
  clear hL3 hr3 hf13 hf23 hbl1 hbl2 hO3 hfl3 hb3 hle hL2 hr2 hf12 hf2
  go_wp2_with fail
  refine hde.mono ?_
  intro e4 w4 h4
  obtain ⟨rfl, hb4⟩ := repV h4
  obtain ⟨hL3, hr3, hf13, hf23, hbl1, hbl2, hO3⟩ := HX.out
  obtain ⟨D1, HD1⟩ : ∃ D1, Hid (D1 = repCells (repOf (whole reply bs))) := ⟨_, rfl⟩
  rw [← HD1.out]
  have hall1 : D1.all (·.oneCell') = true := by rw [HD1.out]; simp [repCells, Value.oneCell']
  have hsz1 : D1.size = 4 := by rw [HD1.out]; rfl
  have hi1 : (Try.prog.info? 55).map (·.size) = some D1.size := by rw [hsz1]; kernel_rfl
  have heq := eq55_self D1 _ HD1.out
  have hB0 : Blk (w4.alloc (.cells zeroR 55)) w4.heap.size zeroR 55 := heap_alloc_new w4 _
  obtain ⟨hBm, hb5, hs5⟩ := box_set w4 zeroR D1 55
  have hb45 := hb4.trans (hb5.mono hb4.size)
  have hL5 := hL3.trans (hb45.mono hL3.size)
  have hr5 := From.below hr3 hb45
  have hf15 := From.below hf13 hb45
  have hf25 := From.below hf23 hb45
  have hO5 := own_stable hO3 (w' := (w4.alloc (.cells zeroR 55)).setRow w4.heap.size D1) fun k _ hk => hb45.block k hk
  have hre := rdecRep_any bo n cap bs ((w4.alloc (.cells zeroR 55)).setRow w4.heap.size D1) hlen hr5 (fun b o e => by have := hab b o e; have := hL5.size; omega) (by omega) hrm hbnil hform
  have hz4 := hb4.size
  have HX : Hid _ := And.intro hL5 (And.intro hr5 (And.intro hf15 (And.intro hf25 (And.intro hbl1 (And.intro hbl2 (And.intro hO5 (And.intro hBm hs5)))))))
  clear hL5 hr5 hf15 hf25 hbl1 hbl2 hO5 hBm hs5 hb45 hb5 hb4 h4 hde hL3 hr3 hf13 hf23 hO3
  go_wp2_with (first | (rw [zeroR_is]; refine wpList_store_row rfl 55 (.tmp 10) (.tmp 34) rfl w4.heap.size D1 rfl rfl 55 zeroR hB0 hi1 (by rw [hsz1]; rfl) hall1 ?_) | (refine wpList_store_row rfl 55 (.tmp 10) (.tmp 34) rfl w4.heap.size D1 rfl rfl 55 zeroR hB0 hi1 (by rw [hsz1]; rfl) hall1 ?_) | fail)
  obtain ⟨hL5, hr5, hf15, hf25, hbl1, hbl2, hO5, hBm, hs5⟩ := HX.out
  clear HX hB0
  generalize (w4.alloc (.cells zeroR 55)).setRow w4.heap.size D1 = W5 at *
  refine hre.mono ?_
  intro e6 w6 h6
  obtain ⟨rfl, hb6⟩ := repV h6
  rw [← HD1.out]
  have hB0 : Blk (w6.alloc (.cells zeroR 55)) w6.heap.size zeroR 55 := heap_alloc_new w6 _
  obtain ⟨hBn, hb7, hs7⟩ := box_set w6 zeroR D1 55
  have hb67 := hb6.trans (hb7.mono hb6.size)
  have hL7 := hL5.trans (hb67.mono hL5.size)
  have hr7 := From.below hr5 hb67
  have hf17 := From.below hf15 hb67
  have hf27 := From.below hf25 hb67
  have hO7 := own_stable hO5 (w' := (w6.alloc (.cells zeroR 55)).setRow w6.heap.size D1) fun k _ hk => hb67.block k hk
  have hBm7 : Blk ((w6.alloc (.cells zeroR 55)).setRow w6.heap.size D1) w4.heap.size D1 55 := (hb67.block _ hBm.lt).trans hBm
  have hbk := back_any g n c _ bo cap bs ((w6.alloc (.cells zeroR 55)).setRow w6.heap.size D1) hlen (by omega) hO7 hr7
  have hz6 := hb6.size
  have HX : Hid _ := And.intro hL7 (And.intro hf17 (And.intro hf27 (And.intro hbl1 (And.intro hbl2 (And.intro hBm7 (And.intro hBn hs7))))))
  clear hL7 hr7 hf17 hf27 hbl1 hbl2 hO7 hBm7 hBn hs7 hb67 hb7 hb6 h6 hre hL5 hr5 hf15 hf25 hO5 hBm HD1
  generalize posR (whole reply bs) = pos at *
  generalize codeR (whole reply bs) = cod at *
  go_wp2_with (first | (rw [zeroR_is]; refine wpList_store_row rfl 55 (.tmp 13) (.tmp 40) rfl w6.heap.size D1 rfl rfl 55 zeroR hB0 hi1 (by rw [hsz1]; rfl) hall1 ?_) | (refine wpList_store_row rfl 55 (.tmp 13) (.tmp 40) rfl w6.heap.size D1 rfl rfl 55 zeroR hB0 hi1 (by rw [hsz1]; rfl) hall1 ?_) | fail)
  obtain ⟨hL7, hf17, hf27, hbl1, hbl2, hBm7, hBn, hs7⟩ := HX.out
  clear HX hB0
  generalize (w6.alloc (.cells zeroR 55)).setRow w6.heap.size D1 = W7 at *
  refine hbk.mono ?_
  rintro e8 w8 ⟨rfl, hW8⟩
  have hL8 := BelowRW hL7 hW8 (by omega)
  have hf18 := FromRW hf17 hW8 (fun b o e => by have := (hbl1 b o e).2; omega)
  have hf28 := FromRW hf27 hW8 (fun b o e => by have := (hbl2 b o e).2; omega)
  have hB18 : Blk w8 w4.heap.size D1 55 := (hW8.block _ (by omega)).trans hBm7
  have hB28 : Blk w8 w6.heap.size D1 55 := (hW8.block _ (by omega)).trans hBn
  have hal := alike_any ao1 ao2 out.length out.length c1 c2 out out w8 rfl rfl hf18 hf28
  simp only [decide_true] at hal
  have HL : Hid _ := hL8
  clear hL8 hL7 hf17 hf27 hbl1 hbl2 hBm7 hBn hf18 hf28 hbk hW8
  go_wp2_with (first | (refine load_row_g 55 (.tmp 10) rfl (by rfl) w4.heap.size rfl 55 D1 (0, 0) _ hB18 Try.underlying55 hi1 ?_) | (refine load_row_g 55 (.tmp 13) rfl (by rfl) w6.heap.size rfl 55 D1 (0, 0) _ hB28 Try.underlying55 hi1 ?_) | (go_at_call 15; refine hal.mono ?_; rintro e15 w15 ⟨rfl, rfl⟩) | fail)
  go_ret
  exact ⟨rfl, HL.out⟩
end Go.Proofs.Ytneiomimjgfbpaa
namespace Go.Proofs.Ytneiomimjgfbpaa
open Go.RowKit Go.PlainAid
set_option linter.unusedSimpArgs false
set_option linter.unusedVariables false
set_option maxRecDepth 100000 in
set_option maxHeartbeats 6400000 in
theorem requests_any (q : Int × Int) (o : Int × List UInt8 × Int × Int) (bo : Option Addr) (n cap : Nat) (bs : List UInt8) (w : World) (hn : o.2.1.length ≤ 140737488355328)
    (hx1 : (-9223372036854775808 : Int) ≤ o.2.2.1) (hx2 : o.2.2.1 < 9223372036854775808) (hy1 : (-9223372036854775808 : Int) ≤ o.2.2.2) (hy2 : o.2.2.2 < 9223372036854775808)
    (hlen : bs.length = n) (hsrc : From w bo bs) (hab : ∀ b o, bo = some ⟨b, o, none⟩ → b < w.heap.size) (hsm : n ≤ 140737488351232) (hrm : n ≤ cap) (hbnil : bo = none → n = 0 ∧ cap = 0) (hform : bo = none ∨ ∃ b off, bo = some ⟨b, off, none⟩) :
    Calls Try.prog 29 #[.agg (callCells q), .agg (opCells o), .slice bo n cap] w fun e w' => e = .returned (.bool true) ∧ Below w.heap.size w w' := by
  obtain ⟨D, HD⟩ : ∃ D, Hid (D = callCells q) := ⟨_, rfl⟩
  obtain ⟨E, HE⟩ : ∃ D, Hid (D = opCells o) := ⟨_, rfl⟩
  rw [← HD.out, ← HE.out]
  have hsz : D.size = 2 := by rw [HD.out]; rfl
  have hsE : E.size = 4 := by rw [HE.out]; rfl
  have hi : (Try.prog.info? 29).map (·.size) = some D.size := by rw [hsz]; kernel_rfl
  have hiE : (Try.prog.info? 31).map (·.size) = some E.size := by rw [hsE]; kernel_rfl
  have hb0 : Below w.heap.size w ((w.alloc (.cells D 29)).alloc (.cells E 31)) := by go_grown
  have hA0 : Blk ((w.alloc (.cells D 29)).alloc (.cells E 31)) w.heap.size D 29 := (Below.heap_alloc _ _ _ (by simp)).trans (heap_alloc_new w _)
  have hE0 : Blk ((w.alloc (.cells D 29)).alloc (.cells E 31)) (w.heap.size + 1) E 31 := by
    have := heap_alloc_new (w.alloc (.cells D 29)) (.cells E 31)
    rw [World.size_alloc] at this
    exact this
  have hs0 : ((w.alloc (.cells D 29)).alloc (.cells E 31)).heap.size = w.heap.size + 2 := by simp
  have hr0 := From.below hsrc hb0
  have hen := encodeReq_any q o ((w.alloc (.cells D 29)).alloc (.cells E 31)) hn hx1 hx2 hy1 hy2
  rw [← HD.out, ← HE.out] at hen
  have HX : Hid _ := And.intro hb0 (And.intro hr0 hs0)
  clear hb0 hr0 hs0 hsrc
  go_enter Try.func29, Try.ntmps29
  go_wp2_with (first | (refine wpList_load_row rfl 29 (.tmp 3) rfl w.heap.size rfl 29 D (0, 0) _ hA0 Try.underlying29 rfl hi ?_) | (refine wpList_load_row rfl 31 (.tmp 4) rfl (w.heap.size + 1) rfl 31 E (0, 0) _ hE0 Try.underlying31 rfl hiE ?_) | fail)
  obtain ⟨hb0, hr0, hs0⟩ := HX.out
  clear HX
  generalize (w.alloc (.cells D 29)).alloc (.cells E 31) = W0 at *
  refine hen.mono ?_
  intro e1 w1 h1
  obtain ⟨ao1, c1, rfl, hf1, hbl1, hb1⟩ := encV h1
  have hA1 : Blk w1 w.heap.size D 29 := (hb1.block _ hA0.lt).trans hA0
  have hE1 : Blk w1 (w.heap.size + 1) E 31 := (hb1.block _ hE0.lt).trans hE0
  have hL1 := hb0.trans (hb1.mono hb0.size)
  have hr1 := From.below hr0 hb1
  have hrn := rencReq_any q o w1 hn hx1 hx2 hy1 hy2
  rw [← HD.out, ← HE.out] at hrn
  generalize hout : (request.wr (q, o)).getD [] = out at *
  generalize hcode : (if (request.wr (q, o)).isSome then (0 : Int) else 21) = code at *
  have HOC : Hid _ := And.intro hout hcode
  have HX : Hid _ := And.intro hL1 (And.intro hr1 (And.intro hf1 hbl1))
  have hz1 := hb1.size
  clear hout hcode hL1 hr1 hf1 hbl1 hb1 h1 hen hb0 hr0
  go_wp2_with (first | (refine wpList_load_row rfl 29 (.tmp 3) rfl w.heap.size rfl 29 D (0, 0) _ hA1 Try.underlying29 rfl hi ?_) | (refine wpList_load_row rfl 31 (.tmp 4) rfl (w.heap.size + 1) rfl 31 E (0, 0) _ hE1 Try.underlying31 rfl hiE ?_) | fail)
  refine hrn.mono ?_
  intro e2 w2 h2
  obtain ⟨ao2, c2, rfl, hf2, hbl2, hb2⟩ := encV h2
  rw [HOC.out.1, HOC.out.2] at *
  obtain ⟨hL1, hr1, hf1, hbl1⟩ := HX.out
  have hL2 := hL1.trans (hb2.mono hL1.size)
  have hr2 := From.below hr1 hb2
  have hf12 := From.below hf1 hb2
  have hz2 := hb2.size
  have hle := lent_row bo n cap bs w2 hlen hbnil hr2 (by omega)
  have HX : Hid _ := And.intro hL2 (And.intro hr2 (And.intro hf12 (And.intro hbl1 (And.intro hf2 hbl2))))
  clear hL2 hr2 hf12 hbl1 hf2 hbl2 hb2 h2 hrn hL1 hr1 hf1 HOC hA1 hA0 hE0 hE1
  go_wp2_with fail
  refine hle.mono ?_
  rintro e3 w3 ⟨g, c, rfl, hc3, hg3, hg3', hO3, hb3⟩
  obtain ⟨hL2, hr2, hf12, hbl1, hf2, hbl2⟩ := HX.out
  have hL3 := hL2.trans (hb3.mono hL2.size)
  have hr3 := From.below hr2 hb3
  have hf13 := From.below hf12 hb3
  have hf23 := From.below hf2 hb3
  have hfl3 : From w3 (some ⟨g, 0, none⟩) bs := fun h0 => ⟨g, 0, rfl, fun j u hu => by rw [Nat.zero_add]; exact own_cellB hO3 (by rw [List.getElem?_append_left (List.getElem?_eq_some_iff.1 hu).1]; exact hu)⟩
  have hde := decodeReq_any g 0 n c bs w3 hlen hfl3 hg3' (by omega) (by omega)
  have hz3 := hb3.size
  have HX : Hid _ := And.intro hL3 (And.intro hr3 (And.intro hf13 (And.intro hf23 (And.intro hbl1 (And.intro hbl2 hO3)))))
  clear hL3 hr3 hf13 hf23 hbl1 hbl2 hO3 hfl3 hb3 hle hL2 hr2 hf12 hf2
  go_wp2_with fail
  refine hde.mono ?_
  intro e4 w4 h4
  obtain ⟨rfl, hb4⟩ := reqV h4
  obtain ⟨hL3, hr3, hf13, hf23, hbl1, hbl2, hO3⟩ := HX.out
  obtain ⟨D1, HD1⟩ : ∃ D1, Hid (D1 = callCells (reqOf (whole request bs)).1) := ⟨_, rfl⟩
  obtain ⟨E1, HE1⟩ : ∃ D1, Hid (D1 = opCells (reqOf (whole request bs)).2) := ⟨_, rfl⟩
  rw [← HD1.out, ← HE1.out]
  have hall1 : D1.all (·.oneCell') = true := by rw [HD1.out]; simp [callCells, Value.oneCell']
  have hallE : E1.all (·.oneCell') = true := by rw [HE1.out]; simp [opCells, Str, Value.oneCell']
  have hsz1 : D1.size = 2 := by rw [HD1.out]; rfl
  have hszE : E1.size = 4 := by rw [HE1.out]; rfl
  have hi1 : (Try.prog.info? 29).map (·.size) = some D1.size := by rw [hsz1]; kernel_rfl
  have hiE1 : (Try.prog.info? 31).map (·.size) = some E1.size := by rw [hszE]; kernel_rfl
  have heq := eq29_self D1 _ HD1.out
  have heqE := eq31_self E1 _ HE1.out
  obtain ⟨hBm, hBe, hb5, hs5, hZ0, hZ1⟩ := box_set2 w4 zeroQ D1 zeroO E1 29 31
  have hb45 := hb4.trans (hb5.mono hb4.size)
  have hL5 := hL3.trans (hb45.mono hL3.size)
  have hr5 := From.below hr3 hb45
  have hf15 := From.below hf13 hb45
  have hf25 := From.below hf23 hb45
  have hO5 := own_stable hO3 (w' := (((w4.alloc (.cells zeroQ 29)).alloc (.cells zeroO 31)).setRow w4.heap.size D1).setRow (w4.heap.size + 1) E1) fun k _ hk => hb45.block k hk
  have hre := rdecReq_any bo n cap bs ((((w4.alloc (.cells zeroQ 29)).alloc (.cells zeroO 31)).setRow w4.heap.size D1).setRow (w4.heap.size + 1) E1) hlen hr5 (fun b o e => by have := hab b o e; have := hL5.size; omega) (by omega) hrm hbnil hform
  have hz4 := hb4.size
  have HX : Hid _ := And.intro hL5 (And.intro hr5 (And.intro hf15 (And.intro hf25 (And.intro hbl1 (And.intro hbl2 (And.intro hO5 (And.intro hBm (And.intro hBe hs5))))))))
  clear hL5 hr5 hf15 hf25 hbl1 hbl2 hO5 hBm hBe hs5 hb45 hb5 hb4 h4 hde hL3 hr3 hf13 hf23 hO3
  go_wp2_with (first | (rw [zeroQ_is, zeroO_is]; refine wpList_store_row rfl 29 (.tmp 12) (.tmp 40) rfl w4.heap.size D1 rfl rfl 29 zeroQ hZ0 hi1 (by rw [hsz1]; rfl) hall1 ?_) | (refine wpList_store_row rfl 29 (.tmp 12) (.tmp 40) rfl w4.heap.size D1 rfl rfl 29 zeroQ hZ0 hi1 (by rw [hsz1]; rfl) hall1 ?_) | (refine wpList_store_row rfl 31 (.tmp 13) (.tmp 41) rfl (w4.heap.size + 1) E1 rfl rfl 31 zeroO hZ1 hiE1 (by rw [hszE]; rfl) hallE ?_) | fail)
  obtain ⟨hL5, hr5, hf15, hf25, hbl1, hbl2, hO5, hBm, hBe, hs5⟩ := HX.out
  clear HX hZ0 hZ1
  generalize (((w4.alloc (.cells zeroQ 29)).alloc (.cells zeroO 31)).setRow w4.heap.size D1).setRow (w4.heap.size + 1) E1 = W5 at *
  refine hre.mono ?_
  intro e6 w6 h6
  obtain ⟨rfl, hb6⟩ := reqV h6
  rw [← HD1.out, ← HE1.out]
  obtain ⟨hBn, hBf, hb7, hs7, hZ0, hZ1⟩ := box_set2 w6 zeroQ D1 zeroO E1 29 31
  have hb67 := hb6.trans (hb7.mono hb6.size)
  have hL7 := hL5.trans (hb67.mono hL5.size)
  have hr7 := From.below hr5 hb67
  have hf17 := From.below hf15 hb67
  have hf27 := From.below hf25 hb67
  have hO7 := own_stable hO5 (w' := (((w6.alloc (.cells zeroQ 29)).alloc (.cells zeroO 31)).setRow w6.heap.size D1).setRow (w6.heap.size + 1) E1) fun k _ hk => hb67.block k hk
  have hBm7 : Blk ((((w6.alloc (.cells zeroQ 29)).alloc (.cells zeroO 31)).setRow w6.heap.size D1).setRow (w6.heap.size + 1) E1) w4.heap.size D1 29 := (hb67.block _ hBm.lt).trans hBm
  have hBe7 : Blk ((((w6.alloc (.cells zeroQ 29)).alloc (.cells zeroO 31)).setRow w6.heap.size D1).setRow (w6.heap.size + 1) E1) (w4.heap.size + 1) E1 31 := (hb67.block _ hBe.lt).trans hBe
  have hbk := back_any g n c _ bo cap bs ((((w6.alloc (.cells zeroQ 29)).alloc (.cells zeroO 31)).setRow w6.heap.size D1).setRow (w6.heap.size + 1) E1) hlen (by omega) hO7 hr7
  have hz6 := hb6.size
  have HX : Hid _ := And.intro hL7 (And.intro hf17 (And.intro hf27 (And.intro hbl1 (And.intro hbl2 (And.intro hBm7 (And.intro hBe7 (And.intro hBn (And.intro hBf hs7))))))))
  clear hL7 hr7 hf17 hf27 hbl1 hbl2 hO7 hBm7 hBe7 hBn hBf hs7 hb67 hb7 hb6 h6 hre hL5 hr5 hf15 hf25 hO5 hBm hBe HD1 HE1
  generalize posR (whole request bs) = pos at *
  generalize codeR (whole request bs) = cod at *
  go_wp2_with (first | (rw [zeroQ_is, zeroO_is]; refine wpList_store_row rfl 29 (.tmp 16) (.tmp 47) rfl w6.heap.size D1 rfl rfl 29 zeroQ hZ0 hi1 (by rw [hsz1]; rfl) hall1 ?_) | (refine wpList_store_row rfl 29 (.tmp 16) (.tmp 47) rfl w6.heap.size D1 rfl rfl 29 zeroQ hZ0 hi1 (by rw [hsz1]; rfl) hall1 ?_) | (refine wpList_store_row rfl 31 (.tmp 17) (.tmp 48) rfl (w6.heap.size + 1) E1 rfl rfl 31 zeroO hZ1 hiE1 (by rw [hszE]; rfl) hallE ?_) | fail)
  obtain ⟨hL7, hf17, hf27, hbl1, hbl2, hBm7, hBe7, hBn, hBf, hs7⟩ := HX.out
  clear HX hZ0 hZ1
  generalize (((w6.alloc (.cells zeroQ 29)).alloc (.cells zeroO 31)).setRow w6.heap.size D1).setRow (w6.heap.size + 1) E1 = W7 at *
  refine hbk.mono ?_
  rintro e8 w8 ⟨rfl, hW8⟩
  have hL8 := BelowRW hL7 hW8 (by omega)
  have hf18 := FromRW hf17 hW8 (fun b o e => by have := (hbl1 b o e).2; omega)
  have hf28 := FromRW hf27 hW8 (fun b o e => by have := (hbl2 b o e).2; omega)
  have hB18 : Blk w8 w4.heap.size D1 29 := (hW8.block _ (by omega)).trans hBm7
  have hE18 : Blk w8 (w4.heap.size + 1) E1 31 := (hW8.block _ (by omega)).trans hBe7
  have hB28 : Blk w8 w6.heap.size D1 29 := (hW8.block _ (by omega)).trans hBn
  have hE28 : Blk w8 (w6.heap.size + 1) E1 31 := (hW8.block _ (by omega)).trans hBf
  have hal := alike_any ao1 ao2 out.length out.length c1 c2 out out w8 rfl rfl hf18 hf28
  simp only [decide_true] at hal
  have HL : Hid _ := hL8
  clear hL8 hL7 hf17 hf27 hbl1 hbl2 hBm7 hBe7 hBn hBf hf18 hf28 hbk hW8
  go_wp2_with (first | (refine load_row_g 29 (.tmp 12) rfl (by rfl) w4.heap.size rfl 29 D1 (0, 0) _ hB18 Try.underlying29 hi1 ?_) | (refine load_row_g 29 (.tmp 16) rfl (by rfl) w6.heap.size rfl 29 D1 (0, 0) _ hB28 Try.underlying29 hi1 ?_) | (refine load_row_g 31 (.tmp 13) rfl (by rfl) (w4.heap.size + 1) rfl 31 E1 (0, 0) _ hE18 Try.underlying31 hiE1 ?_) | (refine load_row_g 31 (.tmp 17) rfl (by rfl) (w6.heap.size + 1) rfl 31 E1 (0, 0) _ hE28 Try.underlying31 hiE1 ?_) | (go_at_call 15; refine hal.mono ?_; rintro e15 w15 ⟨rfl, rfl⟩) | fail)
  go_ret
  exact ⟨rfl, HL.out⟩
end Go.Proofs.Ytneiomimjgfbpaa
namespace Go.Proofs.Ytneiomimjgfbpaa
open Go.RowKit Go.PlainAid
set_option linter.unusedSimpArgs false
set_option linter.unusedVariables false
set_option maxRecDepth 100000 in
set_option maxHeartbeats 1600000 in
theorem req_law (q : Int × Int) (o : Int × List UInt8 × Int × Int) (r : (Int × Int) × Int × Int) (bo : Option Addr) (n cap : Nat) (bs : List UInt8) (w : World) (hn : o.2.1.length ≤ 140737488355328)
    (hx1 : (-9223372036854775808 : Int) ≤ o.2.2.1) (hx2 : o.2.2.1 < 9223372036854775808) (hy1 : (-9223372036854775808 : Int) ≤ o.2.2.2) (hy2 : o.2.2.2 < 9223372036854775808) (hz1 : (-9223372036854775808 : Int) ≤ r.2.2) (hz2 : r.2.2 < 9223372036854775808)
    (hlen : bs.length = n) (hsrc : From w bo bs) (hab : ∀ b o, bo = some ⟨b, o, none⟩ → b < w.heap.size) (hsm : n ≤ 140737488351232) (hrm : n ≤ cap) (hbnil : bo = none → n = 0 ∧ cap = 0) (hform : bo = none ∨ ∃ b off, bo = some ⟨b, off, none⟩) :
    Calls Try.prog 8 #[.agg (callCells q), .agg (opCells o), .agg (repCells r), .slice bo n cap] w fun e w' => e = .returned (.bool true) ∧ Below w.heap.size w w' := by
  have HQ : Hid _ := requests_any q o bo n cap bs
  have HR : Hid _ := replies_any r bo n cap bs
  obtain ⟨D, HD⟩ : ∃ D, Hid (D = callCells q) := ⟨_, rfl⟩
  obtain ⟨E, HE⟩ : ∃ D, Hid (D = opCells o) := ⟨_, rfl⟩
  obtain ⟨F, HF⟩ : ∃ D, Hid (D = repCells r) := ⟨_, rfl⟩
  rw [← HD.out, ← HE.out] at HQ
  rw [← HF.out] at HR
  rw [← HD.out, ← HE.out, ← HF.out]
  have hsD : D.size = 2 := by rw [HD.out]; rfl
  have hsE : E.size = 4 := by rw [HE.out]; rfl
  have hsF : F.size = 4 := by rw [HF.out]; rfl
  have hiD : (Try.prog.info? 29).map (·.size) = some D.size := by rw [hsD]; kernel_rfl
  have hiE : (Try.prog.info? 31).map (·.size) = some E.size := by rw [hsE]; kernel_rfl
  have hiF : (Try.prog.info? 55).map (·.size) = some F.size := by rw [hsF]; kernel_rfl
  have hb0 : Below w.heap.size w (((w.alloc (.cells D 29)).alloc (.cells E 31)).alloc (.cells F 55)) := by go_grown
  have hA0 : Blk (((w.alloc (.cells D 29)).alloc (.cells E 31)).alloc (.cells F 55)) w.heap.size D 29 := (Below.heap_alloc _ _ _ (by simp; omega)).trans ((Below.heap_alloc _ _ _ (by simp)).trans (heap_alloc_new w _))
  have hE0 : Blk (((w.alloc (.cells D 29)).alloc (.cells E 31)).alloc (.cells F 55)) (w.heap.size + 1) E 31 := by
    refine (Below.heap_alloc _ _ _ (by simp)).trans ?_
    have := heap_alloc_new (w.alloc (.cells D 29)) (.cells E 31)
    rw [World.size_alloc] at this
    exact this
  have hF0 : Blk (((w.alloc (.cells D 29)).alloc (.cells E 31)).alloc (.cells F 55)) (w.heap.size + 2) F 55 := by
    have := heap_alloc_new ((w.alloc (.cells D 29)).alloc (.cells E 31)) (.cells F 55)
    rw [World.size_alloc, World.size_alloc] at this
    exact this
  have hable := able_any (((w.alloc (.cells D 29)).alloc (.cells E 31)).alloc (.cells F 55))
  have HX : Hid _ := And.intro hb0 (And.intro hA0 (And.intro hE0 (And.intro hF0 hsrc)))
  clear hb0 hA0 hE0 hF0 hsrc HD HE HF
  go_enter Try.func8, Try.ntmps8
  go_wp2_with fail
  refine hable.mono ?_
  rintro e9 w9 ⟨rfl, hb9⟩
  obtain ⟨hb0, hA0, hE0, hF0, hsrc⟩ := HX.out
  have hL9 := hb0.trans (hb9.mono hb0.size)
  have hA9 : Blk w9 w.heap.size D 29 := (hb9.block _ hA0.lt).trans hA0
  have hE9 : Blk w9 (w.heap.size + 1) E 31 := (hb9.block _ hE0.lt).trans hE0
  have hF9 : Blk w9 (w.heap.size + 2) F 55 := (hb9.block _ hF0.lt).trans hF0
  have hr9 := From.below hsrc hL9
  have hq := HQ.out w9 hn hx1 hx2 hy1 hy2 hlen hr9 (fun b o e => by have := hab b o e; have := hL9.size; omega) hsm hrm hbnil hform
  have HX : Hid _ := And.intro hL9 (And.intro hF9 hr9)
  clear hb0 hA0 hE0 hF0 hsrc hable hb9 hL9 hF9 hr9 HQ
  go_wp2_with (first | (refine load_row_g 29 (.tmp 4) rfl (by rfl) w.heap.size rfl 29 D (0, 0) _ hA9 Try.underlying29 hiD ?_) | (refine load_row_g 31 (.tmp 5) rfl (by rfl) (w.heap.size + 1) rfl 31 E (0, 0) _ hE9 Try.underlying31 hiE ?_) | fail)
  refine hq.mono ?_
  rintro e10 w10 ⟨rfl, hb10⟩
  obtain ⟨hL9, hF9, hr9⟩ := HX.out
  have hL10 := hL9.trans (hb10.mono hL9.size)
  have hF10 : Blk w10 (w.heap.size + 2) F 55 := (hb10.block _ hF9.lt).trans hF9
  have hr10 := From.below hr9 hb10
  have hp := HR.out w10 hz1 hz2 hlen hr10 (fun b o e => by have := hab b o e; have := hL10.size; omega) hsm hrm hbnil hform
  have HL : Hid _ := hL10
  clear hL9 hF9 hr9 hA9 hE9 hq hb10 hL10 hr10 HR HX
  go_wp2_with (first | (refine load_row_g 55 (.tmp 6) rfl (by rfl) (w.heap.size + 2) rfl 55 F (0, 0) _ hF10 Try.underlying55 hiF ?_) | (go_at_call 30; refine hp.mono ?_; rintro e30 w30 ⟨rfl, hb30⟩) | fail)
  go_ret
  exact ⟨rfl, HL.out.trans (hb30.mono HL.out.size)⟩
end Go.Proofs.Ytneiomimjgfbpaa
namespace Go.Proofs.Ytneiomimjgfbpaa
open Go.ChangeShapes Go.WideShapes Go.ChangeAt Go.RowKit Go.WideMaps Go.WideElems
set_option linter.unusedSimpArgs false
theorem cells55 : Try.prog.cellsOf 55 = 4 := by kernel_rfl
section
variable {H : Type} {enc : TypeId × Value → H} {W : World} {fuel : Nat} {cs : List Value} {x : DataW H × List MemPlace}
set_option maxRecDepth 100000
set_option maxHeartbeats 1600000
/-- A reply, as a part. -/
theorem t_rep (h : DataW.trod enc Try.prog W 0 (fun _ => true) true fuel 55 cs = some x) : ∃ a b e v, cs = [.int .i64 a, .int .i64 b, .int .i64 e, .int .i64 v] ∧ In64 v := by
  obtain ⟨xs, mm, _, hx, hl, hxl, hf⟩ := DataW.trod_struct Try.underlying55 h
  have hxl' : xs.length = 3 := hxl
  rw [cells55] at hl
  obtain ⟨c0, l1, rfl, k1⟩ := uncons hl
  obtain ⟨c1, l2, rfl, k2⟩ := uncons k1
  obtain ⟨c2, l3, rfl, k3⟩ := uncons k2
  obtain ⟨c3, l4, rfl, k4⟩ := uncons k3
  obtain rfl := List.eq_nil_of_length_eq_zero k4
  have y0 : xs[0]? = some xs[0] := List.getElem?_eq_getElem (by omega)
  have h0 : DataW.trod enc Try.prog W 0 (fun _ => true) true mm 29 [c0, c1] = some xs[0] := by
    have e : DataW.trod enc Try.prog W 0 (fun _ => true) true mm 29 (List.take (Try.prog.cellsOf 29) (List.drop 0 [c0, c1, c2, c3])) = xs[0]? := hf 0 _ rfl
    rw [cells29, y0] at e
    exact e
  obtain ⟨z0, z1, e0, _⟩ := t_two Try.underlying29 cells29 rfl rfl rfl rfl h0
  have y1 : xs[1]? = some xs[1] := List.getElem?_eq_getElem (by omega)
  have h1 : DataW.trod enc Try.prog W 0 (fun _ => true) true mm 32 [c2] = some xs[1] := by
    have e : DataW.trod enc Try.prog W 0 (fun _ => true) true mm 32 (List.take (Try.prog.cellsOf 32) (List.drop 2 [c0, c1, c2, c3])) = xs[1]? := hf 1 _ rfl
    rw [cells32, y1] at e
    exact e
  obtain ⟨z2, e2, _⟩ := t_int Try.underlying32 h1
  have y2 : xs[2]? = some xs[2] := List.getElem?_eq_getElem (by omega)
  have h2 : DataW.trod enc Try.prog W 0 (fun _ => true) true mm 3 [c3] = some xs[2] := by
    have e : DataW.trod enc Try.prog W 0 (fun _ => true) true mm 3 (List.take (Try.prog.cellsOf 3) (List.drop 3 [c0, c1, c2, c3])) = xs[2]? := hf 2 _ rfl
    rw [cells3, y2] at e
    exact e
  obtain ⟨z3, e3, b3⟩ := t_int Try.underlying3 h2
  cases e0; cases e2; cases e3
  exact ⟨z0, z1, z2, z3, rfl, b3⟩
theorem open_rep {base : Nat} {v : Value} {d : DataW H} {p : List MemPlace} (hval : Value.okWide Try.prog W .any base 55 v) (h0 : DataW.Trod enc Try.prog W 0 (fun _ => true) true 55 v d p) :
    ∃ r : (Int × Int) × Int × Int, v = .agg (repCells r) ∧ In64 r.2.2 := by
  obtain ⟨cs, rfl, _⟩ := okWide_struct Try.underlying55 hval
  obtain ⟨fuel, hf⟩ := h0
  obtain ⟨a, b, e, v, hc, hv⟩ := t_rep hf
  refine ⟨((a, b), e, v), ?_, hv⟩
  have e' : cs.toList = (repCells ((a, b), e, v)).toList := show cs.toList = [.int .i64 a, .int .i64 b, .int .i64 e, .int .i64 v] from by simpa [Value.cells] using hc
  rw [Array.toList_inj.1 e']
theorem open_call {base : Nat} {v : Value} {d : DataW H} {p : List MemPlace} (hval : Value.okWide Try.prog W .any base 29 v) (h0 : DataW.Trod enc Try.prog W 0 (fun _ => true) true 29 v d p) :
    ∃ q : Int × Int, v = .agg (callCells q) := by
  obtain ⟨cs, rfl, _⟩ := okWide_struct Try.underlying29 hval
  obtain ⟨fuel, hf⟩ := h0
  obtain ⟨a, b, hc, _⟩ := t_two Try.underlying29 cells29 rfl rfl rfl rfl hf
  refine ⟨(a, b), ?_⟩
  have e' : cs.toList = (callCells (a, b)).toList := show cs.toList = [.int .i64 a, .int .i64 b] from by simpa [Value.cells] using hc
  rw [Array.toList_inj.1 e']
theorem open_op {base : Nat} {v : Value} {d : DataW H} {p : List MemPlace} (hval : Value.okWide Try.prog W .any base 31 v) (h0 : DataW.Trod enc Try.prog W 0 (fun _ => true) true 31 v d p) (hw : ∀ n ∈ d.weights Try.prog 31, n ≤ reachBytes) :
    ∃ o : Int × List UInt8 × Int × Int, v = .agg (opCells o) ∧ o.2.1.length ≤ 140737488351232 ∧ In64 o.2.2.1 ∧ In64 o.2.2.2 := by
  obtain ⟨cs, rfl, _⟩ := okWide_struct Try.underlying31 hval
  obtain ⟨fuel, hf⟩ := h0
  obtain ⟨k, s, a, b, hc, h1, h2, h3⟩ := t_op hf hw
  refine ⟨(k, s, a, b), ?_, h1, h2, h3⟩
  have e' : cs.toList = (opCells (k, s, a, b)).toList := show cs.toList = [.int .i64 k, Str s, .int .i64 a, .int .i64 b] from by simpa [Value.cells] using hc
  rw [Array.toList_inj.1 e']
end
set_option maxRecDepth 100000 in
theorem has_ltR {W : World} {base n : Nat} {a : Addr} {e : TypeId} (h : W.has Try.prog .any base a e n) : a.block < W.heap.size ∧ a.spot = none := by
  obtain ⟨_, hsp, row, cells, hs, _⟩ := h
  refine ⟨?_, hsp⟩
  unfold World.shape? at hs
  cases hb : W.heap[a.block]? with
  | none => rw [hb] at hs; cases hs
  | some x => exact (Array.getElem?_eq_some_iff.1 hb).1
set_option maxRecDepth 100000 in
theorem bytes_ltR {W : World} {base n c : Nat} {ao : Option Addr} (h : Value.okWide Try.prog W .any base 22 (.slice ao n c)) : (∀ b o, ao = some ⟨b, o, none⟩ → b < W.heap.size) ∧ (ao = none ∨ ∃ b off, ao = some ⟨b, off, none⟩) := by
  simp only [Value.okWide, Try.underlying22] at h
  cases ao with
  | none => exact ⟨fun b o e => (by cases e), Or.inl rfl⟩
  | some a =>
    simp only [Cell.okWide, Cell.ok, Try.underlying22] at h
    obtain ⟨h1, h2⟩ := has_ltR h.2.2
    obtain ⟨b, o, s⟩ := a
    simp only at h2
    subst h2
    exact ⟨fun b' o' e => by cases e; exact h1, Or.inr ⟨b, o, rfl⟩⟩
end Go.Proofs.Ytneiomimjgfbpaa
namespace Go.Proofs.Ytneiomimjgfbpaa.wireRequests
open Go.ChangeShapes Go.WideShapes Go.ChangeAt Go.RowKit Go.WideMaps Go.WideElems
set_option maxRecDepth 100000 in
set_option maxHeartbeats 1600000 in
theorem contract (H : Type) (enc : TypeId × Value → H) (W : World) (base : Nat) (args : Array Value) (ds gs : List (DataW H)) (before : List MemPlace)
    (hval : ∀ (j : Nat) t v, Try.f8.params[j]? = some t → args[j]? = some v → Value.okWide Try.prog W .any base t v)
    (hW : DataW.Whole enc Try.prog Try.f8.params.toList Rows.wireRequestsSpec.vars false W args.toList ds gs before)
    (hsz : (DataW.weightsEach Try.prog (Try.f8.params.toList ++ Rows.wireRequestsSpec.plain.varTypes Try.prog) (ds ++ gs)).all (· ≤ reachBytes) = true) :
    Calls Try.prog 8 args W fun e W' => ∃ v, e = .returned v ∧ Rows.wireRequestsSpec.post enc Try.prog Try.f8 false true false false W args v W' := by
  have hW' := hW
  obtain ⟨p, q, hA0, hV, rfl, hfz, hnd⟩ := hW
  have hA : DataW.TrodAll enc Try.prog W 0 (fun _ => true) true Try.f8.params.toList args.toList ds p := hA0
  rw [Try.params8] at hA hval
  obtain ⟨v0, vs0, d0, ds0, p0, q0, hargs, rfl, rfl, h0, r0⟩ := trodAll_cons hA
  obtain ⟨v1, vs1, d1, ds1, p1, q1, rfl, rfl, rfl, h1, r1⟩ := trodAll_cons r0
  obtain ⟨v2, vs2, d2, ds2, p2, q2, rfl, rfl, rfl, h2, r2⟩ := trodAll_cons r1
  obtain ⟨v3, vs3, d3, ds3, p3, q3, rfl, rfl, rfl, h3, r3⟩ := trodAll_cons r2
  obtain ⟨rfl, rfl, rfl⟩ := trodAll_nil r3
  obtain rfl : args = #[v0, v1, v2, v3] := by cases args; simp_all
  obtain ⟨rfl, rfl⟩ := trodVars_none hV
  clear hA0 r0 r1 r2 r3 hA
  have hlt0 : ∀ x ∈ p0, x.block < W.heap.size := fun x hx => hW'.lt x (by simp [hx])
  have hlt1 : ∀ x ∈ p1, x.block < W.heap.size := fun x hx => hW'.lt x (by simp [hx])
  have hlt2 : ∀ x ∈ p2, x.block < W.heap.size := fun x hx => hW'.lt x (by simp [hx])
  have hlt3 : ∀ x ∈ p3, x.block < W.heap.size := fun x hx => hW'.lt x (by simp [hx])
  have hw1 : ∀ n ∈ d1.weights Try.prog 31, n ≤ reachBytes := fun n hn => by
    have := List.all_eq_true.1 hsz n (DataW.weights_mem_each (j := 1) (t := 31) (d := d1) (by rw [Try.params8]; rfl) rfl n hn)
    simpa using this
  obtain ⟨cq, rfl⟩ := open_call (hval 0 29 v0 rfl rfl) h0
  obtain ⟨co, rfl, hn1, ha1, hb1⟩ := open_op (hval 1 31 v1 rfl rfl) h1 hw1
  obtain ⟨cr, rfl, hv1⟩ := open_rep (hval 2 55 v2 rfl rfl) h2
  obtain ⟨bo, n, cap, bs, rfl, hlen, hrm, _, hbnil, hsrc, hs⟩ := open_bytes (hval 3 22 v3 rfl rfl) h3
  have hsm := short_bytes hsz (j := 3) (d := d3) (by rw [Try.params8]; rfl) rfl hrm hs
  have hbb := bytes_ltR (hval 3 22 _ rfl rfl)
  refine (req_law cq co cr bo n cap bs W (by omega) ha1.1 ha1.2 hb1.1 hb1.2 hv1.1 hv1.2 hlen hsrc hbb.1 hsm hrm hbnil hbb.2).mono fun e W' ⟨he, hbl⟩ => ?_
  subst he
  exact ⟨_, rfl, _, _, _, [], _, [], hW', trodAll_cons_mk (shut_bool Try.underlying4 _) trodAll_mk0, trodAll_cons_mk (Below.trod laidOut (by kernel_rfl) (of_decide_eq_true (by kernel_rfl)) h0 hbl hlt0) (trodAll_cons_mk (Below.trod laidOut (by kernel_rfl) (of_decide_eq_true (by kernel_rfl)) h1 hbl hlt1) (trodAll_cons_mk (Below.trod laidOut (by kernel_rfl) (of_decide_eq_true (by kernel_rfl)) h2 hbl hlt2) (trodAll_cons_mk (shut_bytes h3 hbl hlt3) trodAll_mk0))), rfl, hbl.frame _, fun h => by cases h⟩

set_option maxRecDepth 100000 in
theorem lifted (os : Os) (started : os.Started) (H : Type) (enc : TypeId × Value → H) :
    ReturnsInHanded {} Try.checked os 8 .any (Rows.wireRequestsSpec.pre6 enc Try.prog Try.f8 Rows.wireRequestsRow.domain false) (Rows.wireRequestsSpec.post enc Try.prog Try.f8 false true false false) := by
  refine returnsInHanded_of_change_sized (C := Try.checked) (s := Rows.wireRequestsSpec) own started (by kernel_rfl) Try.func8
    (ChangeSpec.witness6 (enc := enc) (C := Try.checked) (s := Rows.wireRequestsSpec) false ⟨#[], #[.agg zeroQ, .agg zeroO, .agg zeroR, .slice none 0 0], []⟩ 8 (by kernel_rfl) (by kernel_rfl) (by kernel_rfl) (by kernel_rfl)) ?_
  intro W base args ds gs before hval hW _ hsz _
  exact contract H enc W base args ds gs before hval hW hsz

theorem said : Rows.WireRequestsSaid :=
  OpenClaim.holds_of_wide 8 Try.f8 rfl rfl rfl rfl rfl rfl rfl ⟨rfl, rfl, rfl, rfl, rfl⟩ rfl rfl rfl rfl rfl (by kernel_rfl) Try.func8 (by kernel_rfl)
    (of_decide_eq_true (by kernel_rfl)) (by unfold Func.isWrapper; first | (rw [if_pos (by decide +kernel)]; kernel_rfl) | (rw [if_neg (by decide +kernel)]; exact ⟨rfl, rfl⟩))
    (fun os started H enc _ => lifted os started H enc)
end Go.Proofs.Ytneiomimjgfbpaa.wireRequests

namespace Go.Proofs.Ytneiomimjgfbpaa
theorem wireRequests_said : Rows.WireRequestsSaid := wireRequests.said
end Go.Proofs.Ytneiomimjgfbpaa
