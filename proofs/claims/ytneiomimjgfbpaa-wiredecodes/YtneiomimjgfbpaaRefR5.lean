import Derived.Test.YtneiomimjgfbpaaJoinB
import Derived.Test.YtneiomimjgfbpaaRDecS
import Derived.Test.YtneiomimjgfbpaaJoinH
namespace Go.Proofs.Ytneiomimjgfbpaa
open Go.RowKit Go.PlainAid
set_option linter.unusedSimpArgs false
set_option linter.unusedVariables false
/-- The reader, the segment's box and the result's box. -/
structure DS (w : World) (ao : Option Addr) (n cap : Nat) (bs : List UInt8) (st : Nat × Bool) (C : Array Value) (W : World) : Prop where
  rd : RdB W (w.heap.size + 1) ao n cap bs st
  blk : Blk W (w.heap.size + 2) C 46
  res : Blk W w.heap.size zeroS 46
  low : Below w.heap.size w W
section
variable {w W W' : World} {ao : Option Addr} {n cap : Nat} {bs : List UInt8} {st st' : Nat × Bool} {C : Array Value}
theorem DS.rw (h : DS w ao n cap bs st C W) (hR : RdB W' (w.heap.size + 1) ao n cap bs st') (hw : RW (w.heap.size + 1) W W') : DS w ao n cap bs st' C W' :=
  ⟨hR, (hw.block _ (by omega)).trans h.blk, (hw.block _ (by omega)).trans h.res, h.low.trans ⟨hw.os, hw.tape, hw.output, by rw [hw.size]; exact Nat.le_refl _, fun k hk => hw.block k (by omega)⟩⟩
theorem DS.set (h : DS w ao n cap bs st C W) (hab : ∀ b o, ao = some ⟨b, o, none⟩ → b < w.heap.size) (j : Nat) (v : Value) : DS w ao n cap bs st (C.setIfInBounds j v) (W.setCell ⟨w.heap.size + 2, j, none⟩ v) := by
  have hk : ∀ k, k ≠ w.heap.size + 2 → (W.setCell ⟨w.heap.size + 2, j, none⟩ v).heap[k]? = W.heap[k]? := fun k hk => Below.heap_setCell _ _ _ _ hk
  refine ⟨⟨(hk _ (by omega)).trans h.rd.blk, h.rd.len, fun h0 => ?_, h.rd.le⟩, Blk.set h.blk j v, (hk _ (by omega)).trans h.res, h.low.trans ⟨rfl, rfl, rfl, by simp [World.setCell], fun k hk2 => hk k (by omega)⟩⟩
  obtain ⟨b, off, e, hc⟩ := h.rd.src h0
  have := hab b off e
  exact ⟨b, off, e, fun i u hu => (World.cell?_of_block (w := W) (hk b (by omega))).trans (hc i u hu)⟩
theorem DS.drew (h : DS w ao n cap bs st C W) : DS w ao n cap bs st C ({ W with drawn := W.drawn + 1 } : World) :=
  ⟨h.rd.keep fun _ _ => rfl, h.blk, h.res, h.low.trans ⟨rfl, rfl, rfl, Nat.le_refl _, fun _ _ => rfl⟩⟩
theorem DS.up (h : DS w ao n cap bs st C W) (hb : Below W.heap.size W W') : DS w ao n cap bs st C W' :=
  ⟨h.rd.keep hb.block, (hb.block _ h.blk.lt).trans h.blk, (hb.block _ h.res.lt).trans h.res, h.low.trans (hb.mono h.low.size)⟩
end
theorem rnum_range (lo hi : Nat) (bs : List UInt8) (st : Nat × Bool) : 0 ≤ (rstep (num lo hi) 0 bs st).1 ∧ (rstep (num lo hi) 0 bs st).1 ≤ (hi : Int) := by
  have hz : (0 : Int) ≤ 0 ∧ (0 : Int) ≤ (hi : Int) := ⟨Int.le_refl _, by omega⟩
  unfold rstep
  split
  · exact hz
  · cases h : (num lo hi).rd (bs.drop st.1) with
    | error k => exact hz
    | ok v =>
      obtain ⟨x, k⟩ := v
      simp only [num] at h
      split at h
      · cases h
      · split at h
        · rename_i hc
          simp only [Except.ok.injEq, Prod.mk.injEq] at h
          obtain ⟨rfl, rfl⟩ := h
          simp only [Bool.and_eq_true, decide_eq_true_eq] at hc
          show (0 : Int) ≤ ((_ : Nat) : Int) ∧ ((_ : Nat) : Int) ≤ (hi : Int)
          constructor <;> omega
        · cases h
theorem seg_whole (bs : List UInt8) (r1 r2 r3 r4 r5 : Int × Nat × Bool) (r6 : List UInt8 × Nat × Bool) (h1 : rstep (num 0 15) 0 bs (0, false) = r1) (h2 : rstep (num 0 15) 0 bs r1.2 = r2) (h3 : rstep (num 0 maxN) 0 bs r2.2 = r3) (h4 : rstep (num 0 maxN) 0 bs r3.2 = r4) (h5 : rstep (num (lowOf r3.1) (highOf r3.1)) 0 bs r4.2 = r5) (h6 : rstep (some' r5.1.toNat) [] bs r5.2 = r6) :
    (r6.2.2 = true ∨ r6.2.1 < bs.length → whole segment bs = .error r6.2.1) ∧ (¬ (r6.2.2 = true ∨ r6.2.1 < bs.length) → whole segment bs = .ok (⟨r1.1, r2.1, r3.1, r4.1, r6.1⟩, 0)) := by
  have hf : segFields bs = (r1.1, r2.1, r3.1, r4.1, r6.1, r6.2) := by simp only [segFields, h1, h2, h3, h4, h5, h6]
  have hr := seg_run bs
  rw [hf] at hr
  unfold whole
  cases hs : segment.rd bs with
  | error k =>
    rw [hs] at hr
    simp only at hr
    rw [hr]
    exact ⟨fun _ => rfl, fun h => absurd (Or.inl rfl) h⟩
  | ok v =>
    obtain ⟨x, k⟩ := v
    rw [hs] at hr
    simp only [Prod.mk.injEq] at hr
    obtain ⟨e1, e2, e3, e4, e6, e7⟩ := hr
    rw [e1, e2, e3, e4, e6, e7]
    constructor
    · rintro (h | h)
      · cases h
      · show (if k < bs.length then _ else _) = _
        rw [if_pos h]
    · intro h
      show (if k < bs.length then _ else _) = _
      rw [if_neg (fun hk => h (Or.inr hk))]
/-- Bytes appended to nothing lie in a row of their own. -/
theorem app_nil {w2 : World} {ps : List UInt8} {ao : Option Addr} {n c : Nat} (hn : ps.length = n) (hnil : ao = none → n = 0 ∧ c = 0) (hf : From w2 ao ps) (hl : n ≤ 4000) :
    ∃ ao3 c3 w3, (Builtin.append_ #[22, 22] 22 #[.slice none 0 0, .slice ao n c]).run Try.prog w2 = .ok (.slice ao3 n c3) w3 ∧ w3.ownsRow w2.heap.size 5 1 (.slice ao3 n c3) n (ps.map B) ∧ Below w2.heap.size w2 w3 := by
  obtain ⟨i0, hi, hz0, hz1, hz2⟩ := info_parts Try.info5
  cases ao with
  | none =>
    obtain ⟨rfl, rfl⟩ := hnil rfl
    obtain rfl : ps = [] := List.eq_nil_of_length_eq_zero hn
    refine ⟨none, 0, w2, ?_, World.ownsRow_nil _ _ _ _, Below.refl _ _⟩
    simp [Builtin.append_, run_underlying Try.underlying22, sizeOf, typeInfo, hi, Builtin.lenOf, Builtin.firstCells, loadCells, loadCellsFrom]
  | some ad =>
    obtain ⟨v3, w3, hr, h1, h2, _⟩ := run_append_own (P := Try.prog) w2 w2.heap.size 22 22 5 i0 _ 1 1 Try.underlying22 hi hz0 hz1 hz2 rfl (by decide) (.slice none 0 0) 0 [] (World.ownsRow_nil _ _ _ _) ad n c (ps.map B) (by simp [hn]) (news_of hf) (oneCells ps) (by unfold maxLen; omega) (by omega) (Nat.le_refl _)
    have hb : Below w2.heap.size w2 w3 := (Below.refl w2.heap.size w2).grown h2 (Nat.le_refl _) (fun j e => by cases e)
    rw [List.nil_append, Nat.zero_add] at h1
    have h1' := h1
    rcases h1.2 with ⟨rfl, rfl⟩ | ⟨g, cap, cur, rfl, _⟩
    · exact ⟨none, 0, w3, hr, h1', hb⟩
    · exact ⟨some ⟨g, 0, none⟩, cap, w3, hr, h1', hb⟩
theorem rtake_len (m : Nat) (bs : List UInt8) (st : Nat × Bool) (hm : m ≤ 4000) : (rstep (some' m) [] bs st).1.length ≤ 4000 := by
  unfold rstep
  split
  · simp
  · cases h : (some' m).rd (bs.drop st.1) with
    | error k => simp
    | ok v =>
      obtain ⟨x, k⟩ := v
      simp only [some'] at h
      split at h
      · cases h
      · simp only [Except.ok.injEq, Prod.mk.injEq] at h
        obtain ⟨rfl, rfl⟩ := h
        show (List.take m (List.drop st.1 bs)).length ≤ 4000
        rw [List.length_take]
        omega
theorem doneD {G : Prop} {N : Nat} {a : Act} {f : Nat → Value} {v2 v5 v6 : Value} (hF : Fr N a f) (k2 : f 2 = v2) (k5 : f 5 = v5) (k6 : f 6 = v6) (h : ∀ f', Fr N a f' → f' 2 = v2 → f' 5 = v5 → f' 6 = v6 → G) : G := h f hF k2 k5 k6
set_option maxRecDepth 100000 in
set_option maxHeartbeats 6400000 in
theorem rdecSeg_any (ao : Option Addr) (n cap : Nat) (bs : List UInt8) (w : World) (hlen : bs.length = n) (hsrc : From w ao bs) (hab : ∀ b o, ao = some ⟨b, o, none⟩ → b < w.heap.size) (hsm : n ≤ 140737488355328) (hrm : n ≤ cap) (hnil : ao = none → n = 0 ∧ cap = 0) (hform : ao = none ∨ ∃ b off, ao = some ⟨b, off, none⟩) :
    Calls Try.prog 59 #[.slice ao n cap] w (DecSPost (whole segment bs) w) := by
  have hz : (w.alloc (.cells zeroS 46)).heap.size = w.heap.size + 1 := World.size_alloc _ _
  have hb1 : Below w.heap.size w ((w.alloc (.cells zeroS 46)).alloc (.cells #[.slice ao n cap, .int .i64 0, .bool false] 146)) := ((Below.refl _ _).alloc (Nat.le_refl _) _).alloc (by simp) _
  have hR0 : RdB ((w.alloc (.cells zeroS 46)).alloc (.cells #[.slice ao n cap, .int .i64 0, .bool false] 146)) (w.heap.size + 1) ao n cap bs (0, false) := by
    refine ⟨?_, hlen, hsrc.keep fun b o e => hb1.block b (hab b o e), Nat.zero_le _⟩
    rw [← hz]
    exact heap_alloc_new _ _
  have hres0 : Blk ((w.alloc (.cells zeroS 46)).alloc (.cells #[.slice ao n cap, .int .i64 0, .bool false] 146)) w.heap.size zeroS 46 := (Below.heap_alloc _ _ _ (by simp)).trans (heap_alloc_new w _)
  have hsz2 : ((w.alloc (.cells zeroS 46)).alloc (.cells #[.slice ao n cap, .int .i64 0, .bool false] 146)).heap.size = w.heap.size + 2 := by simp
  have hn1 := rnum_any (w.heap.size + 1) ao n cap bs (0, false) 0 15 (by omega) (by omega) _ hR0 hsm
  have HW : Hid _ := seg_whole bs
  have HRES : Hid _ := hres0
  have HB1 : Hid _ := hb1
  clear hR0 hres0 hb1 hsrc
  go_enter Try.func59, Try.ntmps59
  go_wp2_with fail
  refine hn1.mono ?_
  rintro e1 w1 ⟨rfl, hS1, hW1⟩
  have hs1 : w1.heap.size = w.heap.size + 2 := hW1.size.trans hsz2
  replace HW : Hid _ := fun r2 r3 r4 r5 r6 => HW.out _ r2 r3 r4 r5 r6 rfl
  generalize rstep (num 0 15) 0 bs (0, false) = r1 at *
  clear hn1
  have D0 : DS w ao n cap bs r1.2 #[.int .i64 r1.1, .int .i64 0, .int .i64 0, .int .i64 0, .slice none 0 0] (w1.alloc (.cells #[.int .i64 r1.1, .int .i64 0, .int .i64 0, .int .i64 0, .slice none 0 0] 46)) := by
    have hb2 : Below w1.heap.size w1 (w1.alloc (.cells #[.int .i64 r1.1, .int .i64 0, .int .i64 0, .int .i64 0, .slice none 0 0] 46)) := (Below.refl _ _).alloc (Nat.le_refl _) _
    refine ⟨hS1.keep hb2.block, ?_, ?_, (HB1.out.trans ⟨hW1.os, hW1.tape, hW1.output, by rw [hW1.size]; exact Nat.le_refl _, fun k hk => hW1.block k (by omega)⟩).trans (hb2.mono (by omega))⟩
    · rw [← hs1]
      exact heap_alloc_new _ _
    · exact (hb2.block _ (by omega)).trans ((hW1.block _ (by omega)).trans HRES.out)
  clear HB1 HRES hS1 hW1
  go_wp2_with fail
  generalize (w1.alloc (.cells #[.int .i64 r1.1, .int .i64 0, .int .i64 0, .int .i64 0, .slice none 0 0] 46)) = W1 at *
  have hnr2 := rnum_any (w.heap.size + 1) ao n cap bs r1.2 0 15 (by omega) (by omega) _ D0.rd hsm
  refine hnr2.mono ?_
  rintro er2 w2 ⟨rfl, hSr2, hWr2⟩
  replace HW : Hid _ := fun r3 r4 r5 r6 => HW.out _ r3 r4 r5 r6 rfl
  skip
  generalize rstep (num 0 15) 0 bs r1.2 = r2 at *
  clear hnr2
  have Dr2 := D0.rw hSr2 hWr2
  clear D0 hSr2 hWr2
  have cr2 : w2.cell? ⟨w.heap.size + 2, 1, none⟩ = some (.int .i64 0) := Dr2.blk.cell 1
  have zr2 := Dr2.blk.frozen 1
  have Er2 : DS w ao n cap bs r2.2 #[.int .i64 r1.1, .int .i64 r2.1, .int .i64 0, .int .i64 0, .slice none 0 0] (w2.setCell ⟨w.heap.size + 2, 1, none⟩ (.int .i64 r2.1)) := Dr2.set hab 1 (.int .i64 r2.1)
  clear Dr2
  go_wp2_with fail
  generalize (w2.setCell ⟨w.heap.size + 2, 1, none⟩ (.int .i64 r2.1)) = W2 at *
  clear cr2 zr2
  have hnr3 := rnum_any (w.heap.size + 1) ao n cap bs r2.2 0 1099511627776 (by omega) (by omega) _ Er2.rd hsm
  refine hnr3.mono ?_
  rintro er3 w3 ⟨rfl, hSr3, hWr3⟩
  have hrgr3 := rnum_range 0 1099511627776 bs r2.2
  replace HW : Hid _ := fun r4 r5 r6 => HW.out _ r4 r5 r6 rfl
  simp only [show maxN = 1099511627776 from rfl] at HW
  generalize rstep (num 0 1099511627776) 0 bs r2.2 = r3 at *
  clear hnr3
  have Dr3 := Er2.rw hSr3 hWr3
  clear Er2 hSr3 hWr3
  have cr3 : w3.cell? ⟨w.heap.size + 2, 2, none⟩ = some (.int .i64 0) := Dr3.blk.cell 2
  have zr3 := Dr3.blk.frozen 2
  have Er3 : DS w ao n cap bs r3.2 #[.int .i64 r1.1, .int .i64 r2.1, .int .i64 r3.1, .int .i64 0, .slice none 0 0] (w3.setCell ⟨w.heap.size + 2, 2, none⟩ (.int .i64 r3.1)) := Dr3.set hab 2 (.int .i64 r3.1)
  clear Dr3
  go_wp2_with fail
  generalize (w3.setCell ⟨w.heap.size + 2, 2, none⟩ (.int .i64 r3.1)) = W3 at *
  clear cr3 zr3
  have hnr4 := rnum_any (w.heap.size + 1) ao n cap bs r3.2 0 1099511627776 (by omega) (by omega) _ Er3.rd hsm
  refine hnr4.mono ?_
  rintro er4 w4 ⟨rfl, hSr4, hWr4⟩
  replace HW : Hid _ := fun r5 r6 => HW.out _ r5 r6 rfl
  skip
  generalize rstep (num 0 1099511627776) 0 bs r3.2 = r4 at *
  clear hnr4
  have Dr4 := Er3.rw hSr4 hWr4
  clear Er3 hSr4 hWr4
  have cr4 : w4.cell? ⟨w.heap.size + 2, 3, none⟩ = some (.int .i64 0) := Dr4.blk.cell 3
  have zr4 := Dr4.blk.frozen 3
  have Er4 : DS w ao n cap bs r4.2 #[.int .i64 r1.1, .int .i64 r2.1, .int .i64 r3.1, .int .i64 r4.1, .slice none 0 0] (w4.setCell ⟨w.heap.size + 2, 3, none⟩ (.int .i64 r4.1)) := Dr4.set hab 3 (.int .i64 r4.1)
  have d2 : (w4.setCell ⟨w.heap.size + 2, 3, none⟩ (.int .i64 r4.1)).cell? ⟨w.heap.size + 2, 2, none⟩ = some (.int .i64 r3.1) := Er4.blk.cell 2
  clear Dr4
  by_cases hq : r3.1 = 0
  · go_wp2_with fail
    generalize (w4.setCell ⟨w.heap.size + 2, 3, none⟩ (.int .i64 r4.1)) = W4 at *
    clear cr4 zr4
    have hnr5 := rnum_any (w.heap.size + 1) ao n cap bs r4.2 0 0 (by omega) (by omega) _ Er4.rd hsm
    refine hnr5.mono ?_
    rintro er5 w5 ⟨rfl, hSr5, hWr5⟩
    have hrgr5 := rnum_range 0 0 bs r4.2
    replace HW : Hid _ := fun r5 r6 => HW.out r5 r6
    simp only [lowOf, highOf, hq, if_true] at HW
    replace HW : Hid _ := fun r6 => HW.out _ r6 rfl
    generalize rstep (num 0 0) 0 bs r4.2 = r5 at *
    clear hnr5
    have D5 := Er4.rw hSr5 hWr5
    clear Er4 hSr5 hWr5 d2
    rw [hq] at D5
    obtain ⟨m, hm⟩ : ∃ m : Nat, r5.1 = (m : Int) := ⟨r5.1.toNat, by omega⟩
    have hm4 : m ≤ 4000 := by omega
    rw [hm] at HW ⊢
    rw [Int.toNat_natCast] at HW
    go_wp2_with fail
    rename_i K hK
    refine Z.wp_region_mix (fun wr => wr.cell? ⟨w.heap.size + 2, 4, none⟩ = some (.slice none 0 0)) (fun i => i == 4 || i == 5 || i == 7) 7 (by kernel_rfl) rfl (by kernel_rfl) (by kernel_rfl) (by kernel_rfl) ?_
    have D6 := D5.drew
    clear D5
    generalize ({ w5 with drawn := w5.drawn + 1 } : World) = W5 at *
    have hC : W5.cell? ⟨w.heap.size + 2, 4, none⟩ = some (.slice none 0 0) := D6.blk.cell 4
    refine Z.withFrL (N := 50) rfl ?_
    intro a f hF hff
    have f2 : f 2 = .pointer (some ⟨w.heap.size, 0, none⟩) := hff 2
    have f5 : f 5 = .pointer (some ⟨w.heap.size + 1, 0, none⟩) := hff 5
    have f6 : f 6 = .pointer (some ⟨w.heap.size + 2, 0, none⟩) := hff 6
    have f7 : f 7 = .int .i64 ((m : Nat) : Int) := hff 7
    clear hff
    refine Z.ly hF rfl hC rfl (by omega) (wanted_none rfl) (v := Value.pointer (some ⟨w.heap.size + 2, 4, none⟩)) (fun wr hwr => by simp only [execOp, (hF.eval 6 (by omega)).trans f6]; simp [go_sem]) fun a1 F1 => ?_
    refine Z.ly F1 rfl hC rfl (by omega) (wanted_none rfl) (v := Value.slice none 0 0) (fun wr hwr => by simp only [execOp, (F1.eval 32 (by omega)).trans (show _ = Value.pointer (some ⟨w.heap.size + 2, 4, none⟩) from by simp [upd])]; simp [go_sem, hwr]) fun a2 F2 => ?_
    refine Z.ly F2 rfl hC rfl (by omega) (wanted_none rfl) (v := Value.pointer (some ⟨w.heap.size + 1, 0, none⟩)) (fun wr hwr => by simp only [execOp, (F2.eval 5 (by omega)).trans (show _ = Value.pointer (some ⟨w.heap.size + 1, 0, none⟩) from by simp [upd, f5])]; rfl) fun a3 F3 => ?_
    refine Z.ly F3 rfl hC rfl (by omega) (wanted_none rfl) (v := Value.int .i64 ((m : Nat) : Int)) (fun wr hwr => by simp only [execOp, (F3.eval 7 (by omega)).trans (show _ = Value.int .i64 ((m : Nat) : Int) from by simp [upd, f7])]; rfl) fun a4 F4 => ?_
    have htk := rtake_any (w.heap.size + 1) ao n cap bs r5.2 m hm4 W5 D6.rd hsm hrm hnil hform
    refine Z.lc F4 rfl hC rfl (by omega) (wanted_none rfl) (g := 85) (args := #[.pointer (some ⟨w.heap.size + 1, 0, none⟩), .int .i64 ((m : Nat) : Int)]) (by simp only [execOp, resolve, invoke, List.map_toArray, List.map_cons, List.map_nil, (F4.eval 34 (by omega)).trans (show _ = Value.pointer (some ⟨w.heap.size + 1, 0, none⟩) from by simp [upd]), (F4.eval 35 (by omega)).trans (show _ = Value.int .i64 ((m : Nat) : Int) from by simp [upd])]; simp [go_sem, Act.eval]) htk ?_
    rintro e6 w6 ⟨⟨ao6, c6, rfl, hf6, hnil6, hsub6⟩, hS6, hW6⟩
    have hx4 : (rstep (some' m) [] bs r5.2).1.length ≤ 4000 := rtake_len m bs r5.2 hm4
    replace HW : Hid _ := HW.out _ rfl
    generalize rstep (some' m) [] bs r5.2 = r6 at *
    clear htk
    have D7 := D6.rw hS6 hW6
    clear D6 hS6 hW6
    refine ⟨_, rfl, fun a5 F5 => ?_⟩
    have hC : w6.cell? ⟨w.heap.size + 2, 4, none⟩ = some (.slice none 0 0) := D7.blk.cell 4
    obtain ⟨ao7, c7, w7, hrun7, hown7, hb7⟩ := app_nil rfl hnil6 hf6 hx4
    have hz6 : w.heap.size + 2 < w6.heap.size := D7.blk.lt
    have hown7' := own_mono hown7 (show w.heap.size + 3 ≤ w6.heap.size from by omega)
    have D8 := D7.up hb7
    refine Z.le F5 rfl hC rfl (by omega) (wanted_none rfl) (v := .slice ao7 r6.1.length c7) (w1 := w7) (by simp only [execOp, resolve, invoke, builtin, Sem.run_bind, Sem.run_pure, Result.andThen_ok, List.map_toArray, List.map_cons, List.map_nil, (F5.eval 33 (by omega)).trans (show _ = Value.slice none 0 0 from by simp [upd]), (F5.eval 36 (by omega)).trans (show _ = Value.slice ao6 r6.1.length c6 from by simp [upd]), hrun7]) fun a6 F6 => ?_
    have hC : w7.cell? ⟨w.heap.size + 2, 4, none⟩ = some (.slice none 0 0) := D8.blk.cell 4
    refine Z.ly F6 rfl hC rfl (by omega) (wanted_none rfl) (v := Value.pointer (some ⟨w.heap.size + 2, 4, none⟩)) (fun wr hwr => by simp only [execOp, (F6.eval 6 (by omega)).trans (show _ = Value.pointer (some ⟨w.heap.size + 2, 0, none⟩) from by simp [upd, f6])]; simp [go_sem]) fun a7 F7 => ?_
    have D9 : DS w ao n cap bs r6.2 #[.int .i64 r1.1, .int .i64 r2.1, .int .i64 0, .int .i64 r4.1, .slice ao7 r6.1.length c7] (w7.setCell ⟨w.heap.size + 2, 4, none⟩ (.slice ao7 r6.1.length c7)) := D8.set hab 4 _
    have z4 := D8.blk.frozen 4
    refine Z.lst rfl hC rfl (wanted_none rfl) (w1 := w7.setCell ⟨w.heap.size + 2, 4, none⟩ (.slice ao7 r6.1.length c7)) (by simp only [execOp, (F7.eval 38 (by omega)).trans (show _ = Value.pointer (some ⟨w.heap.size + 2, 4, none⟩) from by simp [upd]), (F7.eval 37 (by omega)).trans (show _ = Value.slice ao7 r6.1.length c7 from by simp [upd])]; simp [go_sem, hC, z4]) ?_
    have hown9 : (w7.setCell ⟨w.heap.size + 2, 4, none⟩ (.slice ao7 r6.1.length c7)).ownsRow (w.heap.size + 3) 5 1 (.slice ao7 r6.1.length c7) r6.1.length (r6.1.map B) := own_stable hown7' fun k h3 _ => Below.heap_setCell _ _ _ _ (by show k ≠ w.heap.size + 2; omega)
    clear hown7 hown7' D8 D7 hb7 hrun7 z4
    generalize (w7.setCell ⟨w.heap.size + 2, 4, none⟩ (.slice ao7 r6.1.length c7)) = W7 at *
    refine doneD F7 (show _ = Value.pointer (some ⟨w.heap.size, 0, none⟩) from by simp [upd, f2]) (show _ = Value.pointer (some ⟨w.heap.size + 1, 0, none⟩) from by simp [upd, f5]) (show _ = Value.pointer (some ⟨w.heap.size + 2, 0, none⟩) from by simp [upd, f6]) fun f' F' k2 k5 k6 => ?_
    clear hf6 hnil6 hsub6 hC F1 F2 F3 F4 F5 F6
    refine ⟨fun hle => absurd hle (by omega), ?_⟩
    show K _ _
    apply hK
    rw [F'.lit, show ((List.range 50).map f').toArray = #[f' 0, f' 1, f' 2, f' 3, f' 4, f' 5, f' 6, f' 7, f' 8, f' 9, f' 10, f' 11, f' 12, f' 13, f' 14, f' 15, f' 16, f' 17, f' 18, f' 19, f' 20, f' 21, f' 22, f' 23, f' 24, f' 25, f' 26, f' 27, f' 28, f' 29, f' 30, f' 31, f' 32, f' 33, f' 34, f' 35, f' 36, f' 37, f' 38, f' 39, f' 40, f' 41, f' 42, f' 43, f' 44, f' 45, f' 46, f' 47, f' 48, f' 49] from rfl, k2, k5, k6]
    have hdn := rdone_any (w.heap.size + 1) ao n cap r6.2.1 bs r6.2.2 W7 D9.rd.rds
    obtain ⟨HWA, HWB⟩ := HW.out
    rw [hlen] at HWA HWB
    by_cases hwr : r6.2.2 = true ∨ r6.2.1 < n
    · rw [if_pos hwr] at hdn
      replace HWA : Hid _ := HWA hwr
      clear HWB HW
      go_wp2_with fail
      refine hdn.mono ?_
      rintro e8 w8 ⟨rfl, hD8⟩
      have hB0 : Blk w8 w.heap.size zeroS 46 := by unfold Blk; rw [hD8.heap]; exact D9.res
      have hbB : Below w.heap.size w w8 := D9.low.trans (hD8.below.mono D9.low.size)
      have hfin : DecSPost (whole segment bs) w (.returned (.tuple #[.agg zeroS, .int .i64 (r6.2.1 : Nat), .int .i64 20])) (w8.setRow w.heap.size zeroS) := by
        refine ⟨hbB.trans ⟨rfl, rfl, rfl, by simp [World.setRow], fun k hk => setRow_other _ _ _ _ (by omega)⟩, ?_⟩
        rw [HWA.out]
      have hB3 := setRow_blk (cs := zeroS) hB0
      have HF : Hid _ := hfin
      clear hfin hbB
      go_wp2_with (first | (rw [zeroS_is]; refine wpList_store_row rfl 46 (.tmp 2) (.tmp 46) rfl w.heap.size zeroS rfl rfl 46 zeroS hB0 (by kernel_rfl) rfl (by kernel_rfl) ?_) | (refine wpList_store_row rfl 46 (.tmp 2) (.tmp 46) rfl w.heap.size zeroS rfl rfl 46 zeroS hB0 (by kernel_rfl) rfl (by kernel_rfl) ?_) | fail)
      go_wp2
      exact bodyPost_ret (results_cell2 Try.results59 _ _ w.heap.size zeroS rfl (run_loadVar_row _ _ 46 46 zeroS (0, 0) _ hB3 Try.underlying46 rfl (by kernel_rfl))) rfl HF.out
    · rw [if_neg hwr] at hdn
      replace HWB : Hid _ := HWB hwr
      clear HWA HW
      go_wp2_with fail
      refine hdn.mono ?_
      rintro e8 w8 ⟨rfl, hD8⟩
      have hB0 : Blk w8 w.heap.size zeroS 46 := by unfold Blk; rw [hD8.heap]; exact D9.res
      have hM : Blk w8 (w.heap.size + 2) (segCells r1.1 r2.1 0 r4.1 (.slice ao7 r6.1.length c7)) 46 := by unfold Blk; rw [hD8.heap]; exact D9.blk
      have hbB : Below w.heap.size w w8 := D9.low.trans (hD8.below.mono D9.low.size)
      have hV : w8.ownsRow (w.heap.size + 3) 5 1 (.slice ao7 r6.1.length c7) r6.1.length (r6.1.map B) := own_stable hown9 fun k _ _ => by rw [hD8.heap]
      have hall : (segCells r1.1 r2.1 0 r4.1 (.slice ao7 r6.1.length c7)).all (·.oneCell') = true := by simp [segCells, Value.oneCell']
      have hfin : DecSPost (whole segment bs) w (.returned (.tuple #[.agg (segCells r1.1 r2.1 0 r4.1 (.slice ao7 r6.1.length c7)), .int .i64 0, .int .i64 0])) (w8.setRow w.heap.size (segCells r1.1 r2.1 0 r4.1 (.slice ao7 r6.1.length c7))) := by
        refine ⟨hbB.trans ⟨rfl, rfl, rfl, by simp [World.setRow], fun k hk => setRow_other _ _ _ _ (by omega)⟩, ?_⟩
        rw [HWB.out]
        exact ⟨ao7, c7, rfl, own_mono (own_stable hV fun k h3 _ => setRow_other _ _ _ _ (by omega)) (by omega)⟩
      have hB3 := setRow_blk (cs := segCells r1.1 r2.1 0 r4.1 (.slice ao7 r6.1.length c7)) hB0
      have HF : Hid _ := hfin
      have HV : Hid _ := hV
      clear hfin hbB hV
      generalize hD : segCells r1.1 r2.1 0 r4.1 (.slice ao7 r6.1.length c7) = D at *
      have hsz : D.size = 5 := by rw [← hD]; rfl
      have hi46 : (Try.prog.info? 46).map (·.size) = some D.size := by rw [hsz]; kernel_rfl
      clear hD
      go_wp2_with (first | (refine wpList_load_row rfl 46 (.tmp 6) rfl (w.heap.size + 2) rfl 46 D (0, 0) _ hM Try.underlying46 rfl hi46 ?_) | (refine wpList_store_row rfl 46 (.tmp 2) (.tmp 49) rfl w.heap.size D rfl rfl 46 zeroS hB0 hi46 (by rw [hsz]; rfl) hall ?_) | fail)
      go_wp2
      exact bodyPost_ret (results_cell2 Try.results59 _ _ w.heap.size D rfl (run_loadVar_row _ _ 46 46 D (0, 0) _ hB3 Try.underlying46 rfl hi46)) rfl HF.out
  · go_wp2_with fail
    generalize (w4.setCell ⟨w.heap.size + 2, 3, none⟩ (.int .i64 r4.1)) = W4 at *
    clear cr4 zr4
    have hnr5 := rnum_any (w.heap.size + 1) ao n cap bs r4.2 1 4000 (by omega) (by omega) _ Er4.rd hsm
    refine hnr5.mono ?_
    rintro er5 w5 ⟨rfl, hSr5, hWr5⟩
    have hrgr5 := rnum_range 1 4000 bs r4.2
    replace HW : Hid _ := fun r5 r6 => HW.out r5 r6
    simp only [lowOf, highOf, hq, if_false] at HW
    replace HW : Hid _ := fun r6 => HW.out _ r6 rfl
    generalize rstep (num 1 4000) 0 bs r4.2 = r5 at *
    clear hnr5
    have D5 := Er4.rw hSr5 hWr5
    clear Er4 hSr5 hWr5 d2
    obtain ⟨m, hm⟩ : ∃ m : Nat, r5.1 = (m : Int) := ⟨r5.1.toNat, by omega⟩
    have hm4 : m ≤ 4000 := by omega
    rw [hm] at HW ⊢
    rw [Int.toNat_natCast] at HW
    go_wp2_with fail
    rename_i K hK
    refine Z.wp_region_mix (fun wr => wr.cell? ⟨w.heap.size + 2, 4, none⟩ = some (.slice none 0 0)) (fun i => i == 4 || i == 5 || i == 7) 7 (by kernel_rfl) rfl (by kernel_rfl) (by kernel_rfl) (by kernel_rfl) ?_
    have D6 := D5.drew
    clear D5
    generalize ({ w5 with drawn := w5.drawn + 1 } : World) = W5 at *
    have hC : W5.cell? ⟨w.heap.size + 2, 4, none⟩ = some (.slice none 0 0) := D6.blk.cell 4
    refine Z.withFrL (N := 50) rfl ?_
    intro a f hF hff
    have f2 : f 2 = .pointer (some ⟨w.heap.size, 0, none⟩) := hff 2
    have f5 : f 5 = .pointer (some ⟨w.heap.size + 1, 0, none⟩) := hff 5
    have f6 : f 6 = .pointer (some ⟨w.heap.size + 2, 0, none⟩) := hff 6
    have f7 : f 7 = .int .i64 ((m : Nat) : Int) := hff 7
    clear hff
    refine Z.ly hF rfl hC rfl (by omega) (wanted_none rfl) (v := Value.pointer (some ⟨w.heap.size + 2, 4, none⟩)) (fun wr hwr => by simp only [execOp, (hF.eval 6 (by omega)).trans f6]; simp [go_sem]) fun a1 F1 => ?_
    refine Z.ly F1 rfl hC rfl (by omega) (wanted_none rfl) (v := Value.slice none 0 0) (fun wr hwr => by simp only [execOp, (F1.eval 32 (by omega)).trans (show _ = Value.pointer (some ⟨w.heap.size + 2, 4, none⟩) from by simp [upd])]; simp [go_sem, hwr]) fun a2 F2 => ?_
    refine Z.ly F2 rfl hC rfl (by omega) (wanted_none rfl) (v := Value.pointer (some ⟨w.heap.size + 1, 0, none⟩)) (fun wr hwr => by simp only [execOp, (F2.eval 5 (by omega)).trans (show _ = Value.pointer (some ⟨w.heap.size + 1, 0, none⟩) from by simp [upd, f5])]; rfl) fun a3 F3 => ?_
    refine Z.ly F3 rfl hC rfl (by omega) (wanted_none rfl) (v := Value.int .i64 ((m : Nat) : Int)) (fun wr hwr => by simp only [execOp, (F3.eval 7 (by omega)).trans (show _ = Value.int .i64 ((m : Nat) : Int) from by simp [upd, f7])]; rfl) fun a4 F4 => ?_
    have htk := rtake_any (w.heap.size + 1) ao n cap bs r5.2 m hm4 W5 D6.rd hsm hrm hnil hform
    refine Z.lc F4 rfl hC rfl (by omega) (wanted_none rfl) (g := 85) (args := #[.pointer (some ⟨w.heap.size + 1, 0, none⟩), .int .i64 ((m : Nat) : Int)]) (by simp only [execOp, resolve, invoke, List.map_toArray, List.map_cons, List.map_nil, (F4.eval 34 (by omega)).trans (show _ = Value.pointer (some ⟨w.heap.size + 1, 0, none⟩) from by simp [upd]), (F4.eval 35 (by omega)).trans (show _ = Value.int .i64 ((m : Nat) : Int) from by simp [upd])]; simp [go_sem, Act.eval]) htk ?_
    rintro e6 w6 ⟨⟨ao6, c6, rfl, hf6, hnil6, hsub6⟩, hS6, hW6⟩
    have hx4 : (rstep (some' m) [] bs r5.2).1.length ≤ 4000 := rtake_len m bs r5.2 hm4
    replace HW : Hid _ := HW.out _ rfl
    generalize rstep (some' m) [] bs r5.2 = r6 at *
    clear htk
    have D7 := D6.rw hS6 hW6
    clear D6 hS6 hW6
    refine ⟨_, rfl, fun a5 F5 => ?_⟩
    have hC : w6.cell? ⟨w.heap.size + 2, 4, none⟩ = some (.slice none 0 0) := D7.blk.cell 4
    obtain ⟨ao7, c7, w7, hrun7, hown7, hb7⟩ := app_nil rfl hnil6 hf6 hx4
    have hz6 : w.heap.size + 2 < w6.heap.size := D7.blk.lt
    have hown7' := own_mono hown7 (show w.heap.size + 3 ≤ w6.heap.size from by omega)
    have D8 := D7.up hb7
    refine Z.le F5 rfl hC rfl (by omega) (wanted_none rfl) (v := .slice ao7 r6.1.length c7) (w1 := w7) (by simp only [execOp, resolve, invoke, builtin, Sem.run_bind, Sem.run_pure, Result.andThen_ok, List.map_toArray, List.map_cons, List.map_nil, (F5.eval 33 (by omega)).trans (show _ = Value.slice none 0 0 from by simp [upd]), (F5.eval 36 (by omega)).trans (show _ = Value.slice ao6 r6.1.length c6 from by simp [upd]), hrun7]) fun a6 F6 => ?_
    have hC : w7.cell? ⟨w.heap.size + 2, 4, none⟩ = some (.slice none 0 0) := D8.blk.cell 4
    refine Z.ly F6 rfl hC rfl (by omega) (wanted_none rfl) (v := Value.pointer (some ⟨w.heap.size + 2, 4, none⟩)) (fun wr hwr => by simp only [execOp, (F6.eval 6 (by omega)).trans (show _ = Value.pointer (some ⟨w.heap.size + 2, 0, none⟩) from by simp [upd, f6])]; simp [go_sem]) fun a7 F7 => ?_
    have D9 : DS w ao n cap bs r6.2 #[.int .i64 r1.1, .int .i64 r2.1, .int .i64 r3.1, .int .i64 r4.1, .slice ao7 r6.1.length c7] (w7.setCell ⟨w.heap.size + 2, 4, none⟩ (.slice ao7 r6.1.length c7)) := D8.set hab 4 _
    have z4 := D8.blk.frozen 4
    refine Z.lst rfl hC rfl (wanted_none rfl) (w1 := w7.setCell ⟨w.heap.size + 2, 4, none⟩ (.slice ao7 r6.1.length c7)) (by simp only [execOp, (F7.eval 38 (by omega)).trans (show _ = Value.pointer (some ⟨w.heap.size + 2, 4, none⟩) from by simp [upd]), (F7.eval 37 (by omega)).trans (show _ = Value.slice ao7 r6.1.length c7 from by simp [upd])]; simp [go_sem, hC, z4]) ?_
    have hown9 : (w7.setCell ⟨w.heap.size + 2, 4, none⟩ (.slice ao7 r6.1.length c7)).ownsRow (w.heap.size + 3) 5 1 (.slice ao7 r6.1.length c7) r6.1.length (r6.1.map B) := own_stable hown7' fun k h3 _ => Below.heap_setCell _ _ _ _ (by show k ≠ w.heap.size + 2; omega)
    clear hown7 hown7' D8 D7 hb7 hrun7 z4
    generalize (w7.setCell ⟨w.heap.size + 2, 4, none⟩ (.slice ao7 r6.1.length c7)) = W7 at *
    refine doneD F7 (show _ = Value.pointer (some ⟨w.heap.size, 0, none⟩) from by simp [upd, f2]) (show _ = Value.pointer (some ⟨w.heap.size + 1, 0, none⟩) from by simp [upd, f5]) (show _ = Value.pointer (some ⟨w.heap.size + 2, 0, none⟩) from by simp [upd, f6]) fun f' F' k2 k5 k6 => ?_
    clear hf6 hnil6 hsub6 hC F1 F2 F3 F4 F5 F6
    refine ⟨fun hle => absurd hle (by omega), ?_⟩
    show K _ _
    apply hK
    rw [F'.lit, show ((List.range 50).map f').toArray = #[f' 0, f' 1, f' 2, f' 3, f' 4, f' 5, f' 6, f' 7, f' 8, f' 9, f' 10, f' 11, f' 12, f' 13, f' 14, f' 15, f' 16, f' 17, f' 18, f' 19, f' 20, f' 21, f' 22, f' 23, f' 24, f' 25, f' 26, f' 27, f' 28, f' 29, f' 30, f' 31, f' 32, f' 33, f' 34, f' 35, f' 36, f' 37, f' 38, f' 39, f' 40, f' 41, f' 42, f' 43, f' 44, f' 45, f' 46, f' 47, f' 48, f' 49] from rfl, k2, k5, k6]
    have hdn := rdone_any (w.heap.size + 1) ao n cap r6.2.1 bs r6.2.2 W7 D9.rd.rds
    obtain ⟨HWA, HWB⟩ := HW.out
    rw [hlen] at HWA HWB
    by_cases hwr : r6.2.2 = true ∨ r6.2.1 < n
    · rw [if_pos hwr] at hdn
      replace HWA : Hid _ := HWA hwr
      clear HWB HW
      go_wp2_with fail
      refine hdn.mono ?_
      rintro e8 w8 ⟨rfl, hD8⟩
      have hB0 : Blk w8 w.heap.size zeroS 46 := by unfold Blk; rw [hD8.heap]; exact D9.res
      have hbB : Below w.heap.size w w8 := D9.low.trans (hD8.below.mono D9.low.size)
      have hfin : DecSPost (whole segment bs) w (.returned (.tuple #[.agg zeroS, .int .i64 (r6.2.1 : Nat), .int .i64 20])) (w8.setRow w.heap.size zeroS) := by
        refine ⟨hbB.trans ⟨rfl, rfl, rfl, by simp [World.setRow], fun k hk => setRow_other _ _ _ _ (by omega)⟩, ?_⟩
        rw [HWA.out]
      have hB3 := setRow_blk (cs := zeroS) hB0
      have HF : Hid _ := hfin
      clear hfin hbB
      go_wp2_with (first | (rw [zeroS_is]; refine wpList_store_row rfl 46 (.tmp 2) (.tmp 46) rfl w.heap.size zeroS rfl rfl 46 zeroS hB0 (by kernel_rfl) rfl (by kernel_rfl) ?_) | (refine wpList_store_row rfl 46 (.tmp 2) (.tmp 46) rfl w.heap.size zeroS rfl rfl 46 zeroS hB0 (by kernel_rfl) rfl (by kernel_rfl) ?_) | fail)
      go_wp2
      exact bodyPost_ret (results_cell2 Try.results59 _ _ w.heap.size zeroS rfl (run_loadVar_row _ _ 46 46 zeroS (0, 0) _ hB3 Try.underlying46 rfl (by kernel_rfl))) rfl HF.out
    · rw [if_neg hwr] at hdn
      replace HWB : Hid _ := HWB hwr
      clear HWA HW
      go_wp2_with fail
      refine hdn.mono ?_
      rintro e8 w8 ⟨rfl, hD8⟩
      have hB0 : Blk w8 w.heap.size zeroS 46 := by unfold Blk; rw [hD8.heap]; exact D9.res
      have hM : Blk w8 (w.heap.size + 2) (segCells r1.1 r2.1 r3.1 r4.1 (.slice ao7 r6.1.length c7)) 46 := by unfold Blk; rw [hD8.heap]; exact D9.blk
      have hbB : Below w.heap.size w w8 := D9.low.trans (hD8.below.mono D9.low.size)
      have hV : w8.ownsRow (w.heap.size + 3) 5 1 (.slice ao7 r6.1.length c7) r6.1.length (r6.1.map B) := own_stable hown9 fun k _ _ => by rw [hD8.heap]
      have hall : (segCells r1.1 r2.1 r3.1 r4.1 (.slice ao7 r6.1.length c7)).all (·.oneCell') = true := by simp [segCells, Value.oneCell']
      have hfin : DecSPost (whole segment bs) w (.returned (.tuple #[.agg (segCells r1.1 r2.1 r3.1 r4.1 (.slice ao7 r6.1.length c7)), .int .i64 0, .int .i64 0])) (w8.setRow w.heap.size (segCells r1.1 r2.1 r3.1 r4.1 (.slice ao7 r6.1.length c7))) := by
        refine ⟨hbB.trans ⟨rfl, rfl, rfl, by simp [World.setRow], fun k hk => setRow_other _ _ _ _ (by omega)⟩, ?_⟩
        rw [HWB.out]
        exact ⟨ao7, c7, rfl, own_mono (own_stable hV fun k h3 _ => setRow_other _ _ _ _ (by omega)) (by omega)⟩
      have hB3 := setRow_blk (cs := segCells r1.1 r2.1 r3.1 r4.1 (.slice ao7 r6.1.length c7)) hB0
      have HF : Hid _ := hfin
      have HV : Hid _ := hV
      clear hfin hbB hV
      generalize hD : segCells r1.1 r2.1 r3.1 r4.1 (.slice ao7 r6.1.length c7) = D at *
      have hsz : D.size = 5 := by rw [← hD]; rfl
      have hi46 : (Try.prog.info? 46).map (·.size) = some D.size := by rw [hsz]; kernel_rfl
      clear hD
      go_wp2_with (first | (refine wpList_load_row rfl 46 (.tmp 6) rfl (w.heap.size + 2) rfl 46 D (0, 0) _ hM Try.underlying46 rfl hi46 ?_) | (refine wpList_store_row rfl 46 (.tmp 2) (.tmp 49) rfl w.heap.size D rfl rfl 46 zeroS hB0 hi46 (by rw [hsz]; rfl) hall ?_) | fail)
      go_wp2
      exact bodyPost_ret (results_cell2 Try.results59 _ _ w.heap.size D rfl (run_loadVar_row _ _ 46 46 D (0, 0) _ hB3 Try.underlying46 rfl hi46)) rfl HF.out
end Go.Proofs.Ytneiomimjgfbpaa
