import Derived.Test.YtehjdkdoalmaeaaDel
import Derived.Test.YtehjdkdoalmaeaaSend
import Derived.Test.YtehjdkdoalmaeaaIns
import Derived.Test.YtehjdkdoalmaeaaMov0
namespace Go.Proofs.Ytehjdkdoalmaeaa
open Go.RowKit Go.PlainAid
set_option linter.unusedVariables false
set_option linter.unusedSimpArgs false

/-- The reference's bag: its box, the row of its letters, the bytes of each. -/
structure RBag (base hb room : Nat) (v : Value) (ls : List LetV) (w : World) : Prop where
  blk : w.heap[hb]? = some (.cells #[.int .i64 (room : Nat), v] 73 (0, 0))
  own : w.ownsRow base 31 3 v ls.length (flat ls)
  dat : ∀ l ∈ ls, w.ownsRow base 5 1 l.d l.bs.length (l.bs.map B)
section
variable {base hb room : Nat} {v : Value} {ls : List LetV} {w w' : World}
theorem RBag.lt (h : RBag base hb room v ls w) : hb < w.heap.size := (Array.getElem?_eq_some_iff.1 h.blk).1
theorem RBag.ne (h : RBag base hb room v ls w) : v.ownBlock ≠ some hb := fun e => by
  obtain ⟨cur, hc⟩ := ownsRow_type h.own e
  rw [h.blk] at hc
  cases hc
theorem RBag.c0 (h : RBag base hb room v ls w) : w.cell? ⟨hb, 0, none⟩ = some (.int .i64 (room : Nat)) := by rw [cell_of_row w hb 0 _ 73 (0, 0) h.blk]; rfl
theorem RBag.c1 (h : RBag base hb room v ls w) : w.cell? ⟨hb, 1, none⟩ = some v := by rw [cell_of_row w hb 1 _ 73 (0, 0) h.blk]; rfl
theorem RBag.fz (h : RBag base hb room v ls w) (j : Nat) : w.frozen? ⟨hb, j, none⟩ = false := by simp [World.frozen?, h.blk]
theorem RBag.dne (h : RBag base hb room v ls w) (l : LetV) (hl : l ∈ ls) (k : Nat) (hk : l.d.ownBlock = some k) : k ≠ hb ∧ v.ownBlock ≠ some k := by
  obtain ⟨cur, hc⟩ := ownsRow_type (h.dat l hl) hk
  refine ⟨fun e => ?_, fun e => ?_⟩
  · subst e
    rw [h.blk] at hc
    cases hc
  · obtain ⟨cur', hc'⟩ := ownsRow_type h.own e
    rw [hc'] at hc
    cases hc
/-- What is above the bag's memory does not touch it. -/
theorem RBag.keep (h : RBag base hb room v ls w) (hk : ∀ k, k < w.heap.size → w'.heap[k]? = w.heap[k]?) : RBag base hb room v ls w' :=
  ⟨(hk hb h.lt).trans h.blk, ownsRow_same h.own fun g hg => hk g (h.own.lt g hg).2, fun l hl => ownsRow_same (h.dat l hl) fun g hg => hk g ((h.dat l hl).lt g hg).2⟩
theorem RBag.below (h : RBag base hb room v ls w) (hb' : Below w.heap.size w w') : RBag base hb room v ls w' := h.keep hb'.block
theorem RBag.at_ (h : RBag base hb room v ls w) {i : Nat} {l : LetV} (hi : ls[i]? = some l) : ∃ g cap, v = .slice (some ⟨g, 0, none⟩) ls.length cap ∧ ls.length ≤ cap ∧ w.cell? ⟨g, i * 3, none⟩ = some (.int .i64 l.f) ∧ w.cell? ⟨g, i * 3 + 1, none⟩ = some (.int .i64 l.t) ∧ w.cell? ⟨g, i * 3 + 2, none⟩ = some l.d := by
  have hlt := (List.getElem?_eq_some_iff.1 hi).1
  have ho := h.own
  rcases ho.2 with ⟨_, h0⟩ | ⟨g, cap, cur, rfl, _, _, hc, _⟩
  · omega
  · have hcell := ho.cells (g := g) rfl
    obtain ⟨h0, h1, h2⟩ := flat_get ls i l hi
    refine ⟨g, cap, rfl, hc, ?_, ?_, ?_⟩
    · have := hcell _ _ h0; rwa [addr_add, Nat.zero_add] at this
    · have := hcell _ _ h1; rwa [addr_add, Nat.zero_add] at this
    · have := hcell _ _ h2; rwa [addr_add, Nat.zero_add] at this
end
set_option maxRecDepth 100000 in
set_option maxHeartbeats 800000 in
theorem rnew_any (room : Nat) (w : World) (h1 : 1 ≤ room) (h2 : room ≤ 1024) :
    Calls Try.prog 31 #[.int .i64 (room : Nat)] w fun r w' => r = .returned (.tuple #[.pointer (some ⟨w.heap.size, 0, none⟩), .int .i64 0]) ∧ w' = w.alloc (.cells #[.int .i64 (room : Nat), .slice none 0 0] 73) := by
  go_enter Try.func31, Try.ntmps31
  go_wp2
  go_ret2
  exact ⟨rfl, rfl⟩
theorem rnew_bag (base room : Nat) (w : World) : RBag base w.heap.size room (.slice none 0 0) [] (w.alloc (.cells #[.int .i64 (room : Nat), .slice none 0 0] 73)) :=
  ⟨heap_alloc_new w _, World.ownsRow_nil _ _ _ _, fun l hl => by cases hl⟩

set_option maxRecDepth 100000 in
set_option maxHeartbeats 800000 in
theorem rin_any {base hb room : Nat} {v : Value} {ls : List LetV} (w : World) (hS : RBag base hb room v ls w) (i : Int) :
    Calls Try.prog 45 #[.pointer (some ⟨hb, 0, none⟩), .int .i64 i] w fun r w' => r = .returned (.bool (decide (0 ≤ i) && decide (i < ls.length))) ∧ w' = w := by
  have hc := hS.c1
  obtain ⟨ao, cap, rfl, _⟩ := own_slice hS.own
  by_cases h0 : 0 ≤ i
  · go_enter Try.func45, Try.ntmps45
    go_wp2
    go_ret
    exact ⟨by simp [h0], rfl⟩
  · go_enter Try.func45, Try.ntmps45
    go_wp2
    go_ret
    exact ⟨by rw [show decide (0 ≤ i) = false from decide_eq_false (by omega)]; rfl, rfl⟩

set_option maxRecDepth 100000 in
set_option maxHeartbeats 1600000 in
/-- The reference's copy of a letter. -/
theorem rown_any (f t : Int) (ao : Option Addr) (k c : Nat) (s : List UInt8) (w : World) (hl : s.length = k) (hk : k ≤ 140737488355328) (hf : From w ao s) :
    Calls Try.prog 46 #[.agg (letC f t (.slice ao k c))] w fun e w' => ∃ v, e = .returned (.agg (letC f t v)) ∧ w'.ownsRow w.heap.size 5 1 v k (s.map B) ∧ Below w.heap.size w w' := by
  show Calls Try.prog 46 #[.agg #[.int .i64 f, .int .i64 t, .slice ao k c]] w _
  have hb0 : Below w.heap.size w ((w.alloc (.cells #[.int .i64 f, .int .i64 t, .slice ao k c] 31)).alloc (.cells #[.int .i64 0, .int .i64 0, .slice none 0 0] 31)) := by go_grown
  have hB1 : Blk ((w.alloc (.cells #[.int .i64 f, .int .i64 t, .slice ao k c] 31)).alloc (.cells #[.int .i64 0, .int .i64 0, .slice none 0 0] 31)) w.heap.size (letC f t (.slice ao k c)) 31 := (Below.heap_alloc _ _ _ (by simp)).trans (heap_alloc_new w _)
  have hB2 : Blk ((w.alloc (.cells #[.int .i64 f, .int .i64 t, .slice ao k c] 31)).alloc (.cells #[.int .i64 0, .int .i64 0, .slice none 0 0] 31)) (w.heap.size + 1) (letC 0 0 (.slice none 0 0)) 31 := by
    have := heap_alloc_new (w.alloc (.cells #[.int .i64 f, .int .i64 t, .slice ao k c] 31)) (.cells #[.int .i64 0, .int .i64 0, .slice none 0 0] 31)
    rw [World.size_alloc] at this
    exact this
  have hsz : ((w.alloc (.cells #[.int .i64 f, .int .i64 t, .slice ao k c] 31)).alloc (.cells #[.int .i64 0, .int .i64 0, .slice none 0 0] 31)).heap.size = w.heap.size + 2 := by simp
  go_enter Try.func46, Try.ntmps46
  go_wp2
  generalize ((w.alloc (.cells #[.int .i64 f, .int .i64 t, .slice ao k c] 31)).alloc (.cells #[.int .i64 0, .int .i64 0, .slice none 0 0] 31)) = w2 at *
  go_loopw [3, 4] (fun v i wr => ∃ j : Nat, j ≤ k ∧ i = .int .i64 j ∧ wr.ownsRow (w.heap.size + 2) 5 1 v j ((s.take j).map B) ∧ Below (w.heap.size + 2) w2 wr) (fun _ i _ => k - (intOf i).toNat)
  case atStart => exact ⟨0, Nat.zero_le _, rfl, World.ownsRow_nil _ _ _ _, Below.refl _ _⟩
  case round =>
    obtain ⟨j, hj, rfl, hown, hb⟩ := hrel
    have hq1 : Blk wr w.heap.size (letC f t (.slice ao k c)) 31 := (hb.block _ (by omega)).trans hB1
    have hq2 : Blk wr (w.heap.size + 1) (letC 0 0 (.slice none 0 0)) 31 := (hb.block _ (by omega)).trans hB2
    have c0 : wr.cell? ⟨w.heap.size, 0, none⟩ = some (.int .i64 f) := hq1.cell 0
    have c1 : wr.cell? ⟨w.heap.size, 1, none⟩ = some (.int .i64 t) := hq1.cell 1
    have c2 : wr.cell? ⟨w.heap.size, 2, none⟩ = some (.slice ao k c) := hq1.cell 2
    have hzr := hb.size
    by_cases hlt : j < k
    · have hfr : From wr ao s := by
        intro h0
        obtain ⟨b, off, e, hc⟩ := hf h0
        refine ⟨b, off, e, fun i u hu => ?_⟩
        have h1 := hc i u hu
        have hlt := World.block_lt_of_cell? w _ h1
        simp only at hlt
        exact (World.cell?_of_block (w := w) ((hb.block b (by omega)).trans (hb0.block b hlt))).trans h1
      obtain ⟨b, off, rfl, hc⟩ := hfr (by omega)
      obtain ⟨u, hu⟩ : ∃ u, s[j]? = some u := ⟨s[j]'(by omega), List.getElem?_eq_getElem _⟩
      have hcu := hc j u hu
      have hs1 := from_mark wr [u] #[.int .u8 (u.toNat : Int)] (0, 0) rfl
      simp only [B] at hcu
      have HO : Hid _ := hown
      clear hc hq1 hq2 hB1 hB2 hb0 hf
      go_wp2_with (first
        | (at_builtin; go_must (refine wpList_append_in rfl _ _ rfl (w.heap.size + 2) _ _ _ rfl (World.ownsRow.alloc HO.out _) _ 1 1 [u] rfl rfl hs1 (by omega) (by simp; omega) ?_))
        | fail)
      intro v1 w1 hown1 hg1
      have hown2 : w1.ownsRow (w.heap.size + 2) 5 1 v1 (j + 1) ((s.take (j + 1)).map B) := by
        rw [List.take_add_one, hu, List.map_append, List.map_take]
        exact hown1
      have hb1 : Below (w.heap.size + 2) w2 w1 := hb.trans (hg1.ofAlloc.below (fun i hi => (World.ownsRow.lt HO.out i hi).1) (by omega))
      clear hown1 hg1 HO hs1 c0 c1 c2 hcu
      go_wp2
      go_roundw
      case rel => exact ⟨j + 1, by omega, by go_num, hown2, hb1⟩
      case measure => simp [intOf]; omega
    · obtain rfl : j = k := by omega
      rw [List.take_of_length_le (by omega)] at hown
      obtain ⟨vo, vc, rfl, _⟩ := own_slice hown
      have hall : (letC f t (.slice vo j vc)).all (·.oneCell') = true := by simp [letC, Value.oneCell']
      have hz3 : (letC f t (.slice vo j vc)) = #[.int .i64 f, .int .i64 t, .slice vo j vc] := rfl
      have hB5 : Blk (wr.setRow (w.heap.size + 1) (letC f t (.slice vo j vc))) (w.heap.size + 1) (letC f t (.slice vo j vc)) 31 := setRow_heap _ _ _ _ 31 _ hq2
      have hlast : (wr.setRow (w.heap.size + 1) (letC f t (.slice vo j vc))).ownsRow w.heap.size 5 1 (.slice vo j vc) j (s.map B) := ownsRow_mono (ownsRow_same hown fun g hg => heap_setRow_other _ _ _ (by have := (hown.lt g hg).1; omega)) (by omega)
      have hlb : Below w.heap.size w (wr.setRow (w.heap.size + 1) (letC f t (.slice vo j vc))) := below_setRow' (hb0.trans (hb.mono (by omega))) (by omega)
      have HL : Hid _ := hlast
      have HB : Hid _ := hlb
      clear hown hlast hlb hb hb0 hB1 hB2 hq1 hf
      go_wp2_with (first | (refine wpList_store_row rfl 31 (.tmp 2) (.tmp 25) rfl (w.heap.size + 1) (letC f t (.slice vo j vc)) rfl rfl 31 _ hq2 (by kernel_rfl) rfl hall ?_) | fail)
      exact bodyPost_ret (results_cell_row Try.results46 _ _ (w.heap.size + 1) 31 _ (0, 0) _ rfl hB5 Try.underlying31 rfl (by kernel_rfl)) rfl ⟨_, rfl, HL.out, HB.out⟩
end Go.Proofs.Ytehjdkdoalmaeaa
namespace Go.Proofs.Ytehjdkdoalmaeaa
open Go.RowKit Go.PlainAid
set_option linter.unusedVariables false
set_option linter.unusedSimpArgs false

theorem From.up0 {w w' : World} {ao : Option Addr} {bs : List UInt8} (h : From w ao bs) (hb : Below w.heap.size w w') : From w' ao bs := by
  intro h0
  obtain ⟨b, off, rfl, hc⟩ := h h0
  refine ⟨b, off, rfl, fun j u hu => ?_⟩
  have h1 := hc j u hu
  exact (hb.cell (World.block_lt_of_cell? w _ h1)).trans h1
set_option maxRecDepth 100000 in
set_option maxHeartbeats 1600000 in
/-- The reference's Send, where there is no room. -/
theorem rsend_full {base hb room : Nat} {v : Value} {ls : List LetV} (w : World) (hS : RBag base hb room v ls w) (hroom : room ≤ 1024) (hlen : ls.length = room) (x : Value) (f t : Int) :
    Calls Try.prog 43 #[.pointer (some ⟨hb, 0, none⟩), .agg (letC f t x)] w fun e w' => e = .returned (.int .i64 41) ∧ Below w.heap.size w w' := by
  show Calls Try.prog 43 #[.pointer (some ⟨hb, 0, none⟩), .agg #[.int .i64 f, .int .i64 t, x]] w _
  have hS1 := hS.below (w' := w.alloc (.cells #[.int .i64 f, .int .i64 t, x] 31)) (by go_grown)
  have c0 := hS1.c0
  have c1 := hS1.c1
  obtain ⟨ao, cap, rfl, _⟩ := own_slice hS.own
  rw [hlen] at c1
  have hgr : Below w.heap.size w (w.alloc (.cells #[.int .i64 f, .int .i64 t, x] 31)) := by go_grown
  have HG : Hid _ := hgr
  clear hS1 hgr
  go_enter Try.func43, Try.ntmps43
  go_wp2
  go_quiet (fail)
  go_wp2
  go_ret
  exact ⟨rfl, below_drewN _ HG.out⟩
set_option maxRecDepth 100000 in
set_option maxHeartbeats 3200000 in
/-- The reference's Send, where there is room. -/
theorem rsend_room {base hb room : Nat} {v : Value} {ls : List LetV} (w : World) (hS : RBag base hb room v ls w) (hroom : room ≤ 1024) (hlen : ls.length < room) (hbase : base ≤ w.heap.size)
    (f t : Int) (ao : Option Addr) (k c : Nat) (s : List UInt8) (hl : s.length = k) (hk : k ≤ 140737488355328) (hf : From w ao s) :
    Calls Try.prog 43 #[.pointer (some ⟨hb, 0, none⟩), .agg (letC f t (.slice ao k c))] w fun e w' => e = .returned (.int .i64 0) ∧ ∃ v' d', RBag base hb room v' (ls ++ [⟨f, t, d', s⟩]) w' ∧ Stp hb v v' w w' ∧ ∀ j, d'.ownBlock = some j → w.heap.size ≤ j := by
  show Calls Try.prog 43 #[.pointer (some ⟨hb, 0, none⟩), .agg #[.int .i64 f, .int .i64 t, .slice ao k c]] w _
  have hgr : Below w.heap.size w (w.alloc (.cells #[.int .i64 f, .int .i64 t, .slice ao k c] 31)) := by go_grown
  have hB0 : Blk (w.alloc (.cells #[.int .i64 f, .int .i64 t, .slice ao k c] 31)) w.heap.size (letC f t (.slice ao k c)) 31 := heap_alloc_new w _
  have hS1 := hS.below hgr
  have c0 := hS1.c0
  have c1 := hS1.c1
  have hne : ¬ ((room : Int) ≤ (ls.length : Int)) := by omega
  have hvs := own_slice hS.own
  have HG : Hid _ := hgr
  have HB0 : Hid _ := hB0
  clear hS1 hgr hB0
  obtain ⟨vo, vc, hv, _⟩ := hvs
  rw [hv] at c1
  go_enter Try.func43, Try.ntmps43
  go_wp2
  go_quiet (fail)
  go_wp2_with fail
  rename_i K hK
  refine wp_region_mix (CSend w hb w.heap.size (letC f t (.slice ao k c))) (fun i => i == 6 || i == 7 || i == 8 || i == 11) 11 (by kernel_rfl) rfl (by kernel_rfl) (by kernel_rfl) (by kernel_rfl) ?_
  have hW0 : Below w.heap.size w ({ (w.alloc (.cells #[.int .i64 f, .int .i64 t, .slice ao k c] 31)).drewN nq with drawn := ((w.alloc (.cells #[.int .i64 f, .int .i64 t, .slice ao k c] 31)).drewN nq).drawn + 1 } : World) := ⟨HG.out.os, HG.out.tape, HG.out.output, HG.out.size, HG.out.block⟩
  have hBW : Blk ({ (w.alloc (.cells #[.int .i64 f, .int .i64 t, .slice ao k c] 31)).drewN nq with drawn := ((w.alloc (.cells #[.int .i64 f, .int .i64 t, .slice ao k c] 31)).drewN nq).drawn + 1 } : World) w.heap.size (letC f t (.slice ao k c)) 31 := HB0.out
  clear c0 c1
  generalize ({ (w.alloc (.cells #[.int .i64 f, .int .i64 t, .slice ao k c] 31)).drewN nq with drawn := ((w.alloc (.cells #[.int .i64 f, .int .i64 t, .slice ao k c] 31)).drewN nq).drawn + 1 } : World) = W at *
  have hC : CSend w hb w.heap.size (letC f t (.slice ao k c)) W := ⟨hW0.block hb hS.lt, hBW⟩
  have hSW := hS.below hW0
  have hfW : From W ao s := hf.up0 hW0
  have hWs : w.heap.size < W.heap.size := hBW.lt
  have hblt := hS.lt
  have hbase' : base ≤ W.heap.size := by omega
  refine withFrL (N := 26) rfl ?_
  intro a0 f0 F0 hff
  have h0 : f0 0 = .pointer (some ⟨hb, 0, none⟩) := hff 0
  have h3 : f0 3 = .pointer (some ⟨w.heap.size, 0, none⟩) := hff 3
  clear hff
  refine ly F0 rfl hC rfl (by omega) (wanted_none rfl) (v := Value.pointer (some ⟨hb, 0, none⟩)) (fun wr hwr => by simp only [execOp, (F0.eval 0 (by omega)).trans (show _ = Value.pointer (some ⟨hb, 0, none⟩) from by simp [upd, h0, h3])]; first | rfl | simp [go_sem]) fun a1 F1 => ?_
  refine ly F1 rfl hC rfl (by omega) (wanted_none rfl) (v := Value.pointer (some ⟨hb, 0, none⟩)) (fun wr hwr => by simp only [execOp, (F1.eval 0 (by omega)).trans (show _ = Value.pointer (some ⟨hb, 0, none⟩) from by simp [upd, h0, h3])]; first | rfl | simp [go_sem]) fun a2 F2 => ?_
  refine ly F2 rfl hC rfl (by omega) (wanted_none rfl) (v := Value.pointer (some ⟨hb, 0, none⟩)) (fun wr hwr => by simp only [execOp, (F2.eval 16 (by omega)).trans (show _ = Value.pointer (some ⟨hb, 0, none⟩) from by simp [upd, h0, h3])]; first | rfl | simp [go_sem]) fun a3 F3 => ?_
  refine ly F3 rfl hC rfl (by omega) (wanted_none rfl) (v := Value.pointer (some ⟨hb, 1, none⟩)) (fun wr hwr => by simp only [execOp, (F3.eval 17 (by omega)).trans (show _ = Value.pointer (some ⟨hb, 0, none⟩) from by simp [upd, h0, h3])]; first | rfl | simp [go_sem]) fun a4 F4 => ?_
  refine ly F4 rfl hC rfl (by omega) (wanted_none rfl) (v := v) (fun wr hwr => by simp only [execOp, (F4.eval 18 (by omega)).trans (show _ = Value.pointer (some ⟨hb, 1, none⟩) from by simp [upd, h0, h3])]; simp [go_sem, (show wr.cell? ⟨hb, 1, none⟩ = some v from (World.cell?_of_block (w := w) hwr.1).trans hS.c1)]) fun a5 F5 => ?_
  refine ly F5 rfl hC rfl (by omega) (wanted_none rfl) (v := Value.agg (letC f t (.slice ao k c))) (fun wr hwr => by simp only [execOp, (F5.eval 3 (by omega)).trans (show _ = Value.pointer (some ⟨w.heap.size, 0, none⟩) from by simp [upd, h0, h3]), Instr.loadAt, Instr.sureAddr, Sem.run_bind, Sem.run_pure, Result.andThen_ok, run_loadVar_row (P := Try.prog) wr w.heap.size 31 31 (letC f t (.slice ao k c)) (0, 0) _ hwr.2 Try.underlying31 rfl (by kernel_rfl)]) fun a6 F6 => ?_
  refine lc F6 rfl hC rfl (by omega) (wanted_none rfl) (g := 46) (args := #[.agg (letC f t (.slice ao k c))]) (by simp only [execOp, resolve, invoke, List.map_toArray, List.map_cons, List.map_nil, (F6.eval 20 (by omega)).trans (show _ = Value.agg (letC f t (.slice ao k c)) from by simp [upd, h0, h3])]; simp [go_sem, Act.eval]) (rown_any f t ao k c s W hl hk hfW) ?_
  rintro e1 W1 ⟨d, rfl, hd1, hb1⟩
  refine ⟨_, rfl, fun a7 F7 => ?_⟩
  have hC1 : CSend w hb w.heap.size (letC f t (.slice ao k c)) W1 := ⟨(hb1.block hb (by omega)).trans hC.1, (hb1.block _ hC.2.lt).trans hC.2⟩
  have hds : ∃ ao' cap', d = .slice ao' k cap' := by obtain ⟨x, y, h, _⟩ := own_slice hd1; exact ⟨x, y, h⟩
  have hd1c : d.oneCell' = true := by obtain ⟨x, y, rfl⟩ := hds; rfl
  refine le F7 rfl hC1 rfl (by omega) (wanted_none rfl) (v := Value.slice (some ⟨W1.heap.size, 0, none⟩) 1 1) (w1 := W1.alloc (.cells (letC f t d) 31)) (by simp only [execOp, List.map_toArray, List.map_cons, List.map_nil, (F7.eval 21 (by omega)).trans (show _ = Value.agg (letC f t d) from by simp [upd, h0, h3])]; simp [go_sem, letC]) fun a8 F8 => ?_
  have hC2 : CSend w hb w.heap.size (letC f t (.slice ao k c)) (W1.alloc (.cells (letC f t d) 31)) := ⟨(Below.heap_alloc _ _ _ (by have := hb1.size; omega)).trans hC1.1, (Below.heap_alloc _ _ _ hC1.2.lt).trans hC1.2⟩
  have hk2 : ∀ j, j < W.heap.size → (W1.alloc (.cells (letC f t d) 31)).heap[j]? = W.heap[j]? := fun j hj => (Below.heap_alloc _ _ _ (by have := hb1.size; omega)).trans (hb1.block j hj)
  have hS2 : RBag base hb room v ls (W1.alloc (.cells (letC f t d) 31)) := hSW.keep hk2
  obtain ⟨v3, W3, hr3, ho3, hG3⟩ := append3 hS2.own W1.heap.size ⟨f, t, d, s⟩ (heap_alloc_new W1 _) hd1c (by omega) (by have := hb1.size; simp; omega) 22
  have hb3 : hb ≠ W1.heap.size := by have := hb1.size; omega
  have hvlt : ∀ j, v.ownBlock = some j → j < w.heap.size := fun j hj => (hS.own.lt j hj).2
  have hC3 : CSend w hb w.heap.size (letC f t (.slice ao k c)) W3 := ⟨(hG3.g.block hb (by have := hS2.lt; exact this) (fun e => hS2.ne e.symm)).trans hC2.1, (hG3.g.block _ hC2.2.lt (fun e => by have := hvlt _ e.symm; omega)).trans hC2.2⟩
  refine le F8 rfl hC2 rfl (by omega) (wanted_none rfl) (v := v3) (w1 := W3) (by simp only [execOp, resolve, invoke, builtin, Sem.run_bind, Sem.run_pure, Result.andThen_ok, List.map_toArray, List.map_cons, List.map_nil, (F8.eval 19 (by omega)).trans (show _ = v from by simp [upd, h0, h3]), (F8.eval 22 (by omega)).trans (show _ = Value.slice (some ⟨W1.heap.size, 0, none⟩) 1 1 from by simp [upd, h0, h3]), hr3]) fun a9 F9 => ?_
  refine ly F9 rfl hC3 rfl (by omega) (wanted_none rfl) (v := Value.pointer (some ⟨hb, 0, none⟩)) (fun wr hwr => by simp only [execOp, (F9.eval 15 (by omega)).trans (show _ = Value.pointer (some ⟨hb, 0, none⟩) from by simp [upd, h0, h3])]; first | rfl | simp [go_sem]) fun a10 F10 => ?_
  refine ly F10 rfl hC3 rfl (by omega) (wanted_none rfl) (v := Value.pointer (some ⟨hb, 1, none⟩)) (fun wr hwr => by simp only [execOp, (F10.eval 24 (by omega)).trans (show _ = Value.pointer (some ⟨hb, 0, none⟩) from by simp [upd, h0, h3])]; first | rfl | simp [go_sem]) fun a11 F11 => ?_
  have hv3 : ∃ ao' cap', v3 = .slice ao' (ls.length + 1) cap' := by obtain ⟨x, y, h, _⟩ := own_slice ho3; exact ⟨x, y, h⟩
  have hB3 : Blk W3 hb #[.int .i64 (room : Nat), v] 73 := hC3.1.trans hS.blk
  have hr4 : (storeVar 22 ⟨hb, 1, none⟩ v3).run Try.prog W3 = .ok () (W3.setCell ⟨hb, 1, none⟩ v3) := by
    obtain ⟨x, y, rfl⟩ := hv3
    have z1 := hB3.frozen 1
    have z2 : W3.cell? ⟨hb, 1, none⟩ = some v := hB3.cell 1
    simp [go_sem, z1, z2]
  refine lst rfl hC3 rfl (wanted_none rfl) (w1 := W3.setCell ⟨hb, 1, none⟩ v3) (by simp only [execOp, (F11.eval 25 (by omega)).trans (show _ = Value.pointer (some ⟨hb, 1, none⟩) from by simp [upd, h0, h3]), (F11.eval 23 (by omega)).trans (show _ = v3 from by simp [upd, h0, h3])]; simp [Instr.storeAt, Instr.sureAddr, hr4]) ?_

  refine ⟨fun h => by omega, ?_⟩
  have hv3' : ∀ j, v3.ownBlock = some j → j ≠ hb := fun j hj e => by
    subst e
    obtain ⟨cur, hc⟩ := ownsRow_type ho3 hj
    rw [hB3] at hc
    cases hc
  have hsz1 := hb1.size
  have hsz3 : W1.heap.size + 1 ≤ W3.heap.size := by have := hG3.g.size; rwa [World.size_alloc] at this
  have hlow : ∀ j, j < W1.heap.size → v.ownBlock ≠ some j → W3.heap[j]? = W1.heap[j]? := fun j hj hne => (hG3.g.block j (by rw [World.size_alloc]; omega) (fun e => hne e.symm)).trans (Below.heap_alloc _ _ _ hj)
  have hold : ∀ j, j < w.heap.size → v.ownBlock ≠ some j → W3.heap[j]? = w.heap[j]? := fun j hj hne => (hlow j (by omega) hne).trans ((hb1.block j (by omega)).trans (hW0.block j hj))
  have hset : ∀ j, j ≠ hb → (W3.setCell ⟨hb, 1, none⟩ v3).heap[j]? = W3.heap[j]? := fun j hj => Below.heap_setCell _ _ _ _ hj
  have hBag : RBag base hb room v3 (ls ++ [⟨f, t, d, s⟩]) (W3.setCell ⟨hb, 1, none⟩ v3) := by
    refine ⟨Blk.set hB3 1 v3, ?_, fun l hl2 => ?_⟩
    · rw [List.length_append]
      exact ownsRow_same ho3 fun g hg => hset g (hv3' g hg)
    · rcases List.mem_append.1 hl2 with h1 | h1
      · refine ownsRow_same (hS.dat l h1) fun g hg => ?_
        obtain ⟨n1, n2⟩ := hS.dne l h1 g hg
        exact (hset g n1).trans (hold g ((hS.dat l h1).lt g hg).2 n2)
      · simp only [List.mem_singleton] at h1
        subst h1
        refine ownsRow_mono (base := W.heap.size) (ownsRow_same (by rw [hl]; exact hd1) fun g hg => ?_) hbase'
        have hg2 := hd1.lt g hg
        exact (hset g (by omega)).trans (hlow g hg2.2 (fun e => by have := hvlt g e; omega))
  have hStp : Stp hb v v3 w (W3.setCell ⟨hb, 1, none⟩ v3) := by
    refine ⟨?_, ?_, ?_, ?_, fun j hj n1 n2 => (hset j n1).trans (hold j hj n2), fun j hj => ?_⟩
    · exact hG3.g.os.trans (hb1.os.trans hW0.os)
    · exact hG3.g.tape.trans (hb1.tape.trans hW0.tape)
    · exact hG3.g.output.trans (hb1.output.trans hW0.output)
    · show w.heap.size ≤ (W3.setCell ⟨hb, 1, none⟩ v3).heap.size
      simp [World.setCell]
      omega
    · rcases hG3.at' j hj with h1 | h1
      · exact Or.inl h1
      · rw [World.size_alloc] at h1
        exact Or.inr (by omega)
  have hfr : ∀ j, d.ownBlock = some j → w.heap.size ≤ j := fun j hj => by have := (hd1.lt j hj).1; omega
  clear hS hSW hS2 ho3 hG3 hd1 hb1 hC hC1 hC2 hC3 hr3 hr4 hB3 hlow hold hset hW0 hBW hk2
  show K _ _
  apply hK
  revert F11
  generalize (upd _ _ _ : Nat → Value) = f'
  intro F'
  rw [F'.lit, show ((List.range 26).map f').toArray = #[f' 0, f' 1, f' 2, f' 3, f' 4, f' 5, f' 6, f' 7, f' 8, f' 9, f' 10, f' 11, f' 12, f' 13, f' 14, f' 15, f' 16, f' 17, f' 18, f' 19, f' 20, f' 21, f' 22, f' 23, f' 24, f' 25] from rfl]
  go_wp2
  go_ret
  exact ⟨rfl, v3, d, hBag, hStp, hfr⟩
end Go.Proofs.Ytehjdkdoalmaeaa
namespace Go.Proofs.Ytehjdkdoalmaeaa
open Go.RowKit Go.PlainAid
set_option linter.unusedVariables false
set_option linter.unusedSimpArgs false

set_option maxRecDepth 100000 in
set_option maxHeartbeats 1600000 in
/-- The reference's At, where there is no such letter. -/
theorem rat_no {base hb room : Nat} {v : Value} {ls : List LetV} (w : World) (hS : RBag base hb room v ls w) (i : Int) (hi : ¬ (0 ≤ i ∧ i < ls.length)) :
    Calls Try.prog 38 #[.pointer (some ⟨hb, 0, none⟩), .int .i64 i] w fun e w' => e = .returned (.tuple #[.agg zeroL, .int .i64 40]) ∧ Below w.heap.size w w' := by
  have hgr : Below w.heap.size w (w.alloc (.cells #[.int .i64 0, .int .i64 0, .slice none 0 0] 31)) := by go_grown
  have hh := rin_any _ (hS.below hgr) i
  rw [show (decide (0 ≤ i) && decide (i < ls.length)) = false from by simp; omega] at hh
  have hB : Blk ((w.alloc (.cells #[.int .i64 0, .int .i64 0, .slice none 0 0] 31)).setRow w.heap.size zeroL) w.heap.size zeroL 31 := setRow_heap _ _ _ _ 31 _ (zeroL_blk w)
  have hbl : Below w.heap.size w ((w.alloc (.cells #[.int .i64 0, .int .i64 0, .slice none 0 0] 31)).setRow w.heap.size zeroL) := below_setRow' hgr (Nat.le_refl _)
  have hall : zeroL.all (·.oneCell') = true := by simp [zeroL, Value.oneCell']
  have HB : Hid _ := hbl
  clear hgr hbl
  go_enter Try.func38, Try.ntmps38
  go_wp2_with (first | (go_at_call 45; refine hh.mono ?_; rintro e1 w1 ⟨rfl, rfl⟩) | (refine wpList_store_row rfl 31 (.tmp 4) (.tmp 12) rfl w.heap.size zeroL rfl rfl 31 _ (zeroL_blk w) (by kernel_rfl) rfl hall ?_) | fail)
  exact bodyPost_ret (results_cellT Try.results38 _ _ w.heap.size zeroL rfl (run_loadVar_row _ _ 31 31 zeroL (0, 0) _ hB Try.underlying31 rfl (by kernel_rfl))) rfl ⟨rfl, HB.out⟩

set_option maxRecDepth 100000 in
set_option maxHeartbeats 1600000 in
/-- The reference's At. -/
theorem rat_at {base hb room : Nat} {v : Value} {ls : List LetV} (w : World) (hS : RBag base hb room v ls w) (hroom : ls.length ≤ 1024) (i : Nat) (l : LetV) (hi : ls[i]? = some l) (hsz : l.bs.length ≤ 140737488355328) :
    Calls Try.prog 38 #[.pointer (some ⟨hb, 0, none⟩), .int .i64 (i : Nat)] w fun e w' => ∃ d, e = .returned (.tuple #[.agg (letC l.f l.t d), .int .i64 0]) ∧ w'.ownsRow w.heap.size 5 1 d l.bs.length (l.bs.map B) ∧ Below w.heap.size w w' := by
  have hil := (List.getElem?_eq_some_iff.1 hi).1
  have hgr : Below w.heap.size w (w.alloc (.cells #[.int .i64 0, .int .i64 0, .slice none 0 0] 31)) := by go_grown
  have hS1 := hS.below hgr
  have hh := rin_any _ hS1 i
  rw [show (decide ((0 : Int) ≤ i) && decide ((i : Int) < ls.length)) = true from by simp; omega] at hh
  have hc1 := hS1.c1
  obtain ⟨g, cap, rfl, hcap, m0, m1, m2⟩ := hS1.at_ hi
  obtain ⟨lao, lcap, hld, _, lnil, lfrom, _⟩ := own_from (hS1.dat l (List.mem_of_getElem? hi))
  have hlike := rown_any l.f l.t lao l.bs.length lcap l.bs _ rfl hsz lfrom
  rw [hld] at m2
  have HG : Hid _ := hgr
  clear hS1 hgr hS
  go_enter Try.func38, Try.ntmps38
  go_wp2_with (first | (go_at_call 45; refine hh.mono ?_; rintro e1 w1 ⟨rfl, rfl⟩) | fail)
  refine hlike.mono ?_
  rintro e2 W ⟨d, rfl, hd, hbW⟩
  have hW4 : Blk W w.heap.size zeroL 31 := (hbW.block w.heap.size (by simp)).trans (zeroL_blk w)
  have hW5 : Blk (W.setRow w.heap.size (letC l.f l.t d)) w.heap.size (letC l.f l.t d) 31 := setRow_heap _ _ _ _ 31 _ hW4
  have hall : (letC l.f l.t d).all (·.oneCell') = true := by
    obtain ⟨x, y, h, _⟩ := own_slice hd
    rw [h]
    simp [letC, Value.oneCell']
  have hd2 : (W.setRow w.heap.size (letC l.f l.t d)).ownsRow w.heap.size 5 1 d l.bs.length (l.bs.map B) := by
    refine ownsRow_mono (ownsRow_same hd fun j hj => heap_setRow_other _ _ _ ?_) (by simp)
    have := (hd.lt j hj).1
    rw [World.size_alloc] at this
    omega
  have hb2 : Below w.heap.size w (W.setRow w.heap.size (letC l.f l.t d)) := below_setRow' (HG.out.trans (hbW.mono (by simp))) (Nat.le_refl _)
  clear hd hbW hlike hh
  go_wp2_with (first | (refine wpList_store_row rfl 31 (.tmp 4) (.tmp 20) rfl w.heap.size (letC l.f l.t d) rfl rfl 31 _ hW4 (by kernel_rfl) rfl hall ?_) | fail)
  exact bodyPost_ret (results_cellT Try.results38 _ _ w.heap.size (letC l.f l.t d) rfl (run_loadVar_row _ _ 31 31 (letC l.f l.t d) (0, 0) _ hW5 Try.underlying31 rfl (by kernel_rfl))) rfl ⟨d, rfl, hd2, hb2⟩

/-- What 'without' has put together when it has come to k. -/
def woTake (ls : List LetV) (i k : Nat) : List LetV := (ls.take k).eraseIdx i
theorem wo_skip (ls : List LetV) (i : Nat) (hi : i < ls.length) : woTake ls i (i + 1) = woTake ls i i := by
  apply List.ext_getElem?
  intro j
  simp only [woTake, List.getElem?_eraseIdx, List.getElem?_take]
  by_cases h1 : j < i
  · simp [h1, show j < i + 1 from by omega]
  · simp [h1, show ¬ j + 1 < i + 1 from by omega, show ¬ j + 1 < i from by omega]
theorem wo_more (ls : List LetV) (i k : Nat) (x : LetV) (hk : ls[k]? = some x) (hne : k ≠ i) : woTake ls i (k + 1) = woTake ls i k ++ [x] := by
  have hl := (List.getElem?_eq_some_iff.1 hk).1
  unfold woTake
  rw [List.take_add_one, hk]
  by_cases h : i < k
  · rw [List.eraseIdx_append_of_lt_length (by simp; omega)]
    rfl
  · rw [List.eraseIdx_of_length_le (by simp; omega), List.eraseIdx_of_length_le (by simp; omega)]
    rfl
set_option maxRecDepth 100000 in
set_option maxHeartbeats 1600000 in
/-- The reference's list without one. -/
theorem without_any {base hb room : Nat} {v : Value} {ls : List LetV} (w : World) (hS : RBag base hb room v ls w) (hroom : ls.length ≤ 1024) (i : Nat) (hi : i < ls.length) :
    Calls Try.prog 44 #[.pointer (some ⟨hb, 0, none⟩), .int .i64 (i : Nat)] w fun e w' => ∃ v', e = .returned v' ∧ w'.ownsRow w.heap.size 31 3 v' (ls.eraseIdx i).length (flat (ls.eraseIdx i)) ∧ Below w.heap.size w w' := by
  have hld : ∀ x ∈ ls, x.d.oneCell' = true := fun x hx => by obtain ⟨_, _, h, _⟩ := own_slice (hS.dat x hx); rw [h]; rfl
  go_enter Try.func44, Try.ntmps44
  go_wp2
  go_loopw [5, 6] (fun s k wr => ∃ k' : Nat, k' ≤ ls.length ∧ k = .int .i64 k' ∧ wr.ownsRow w.heap.size 31 3 s (woTake ls i k').length (flat (woTake ls i k')) ∧ Below w.heap.size w wr) (fun _ k _ => ls.length - (intOf k).toNat)
  case atStart => exact ⟨0, Nat.zero_le _, rfl, by simpa [woTake, flat] using World.ownsRow_nil _ _ _ _, Below.refl _ _⟩
  case round =>
    obtain ⟨k, hk, rfl, hown, hbl⟩ := hrel
    have hSr := hS.below hbl
    have hc1 := hSr.c1
    by_cases hlt : k < ls.length
    · obtain ⟨x, hx⟩ : ∃ x, ls[k]? = some x := ⟨ls[k]'(by omega), List.getElem?_eq_getElem _⟩
      obtain ⟨g, cap, hv, hcap, m0, m1, m2⟩ := hSr.at_ hx
      rw [hv] at hc1
      by_cases hki : k = i
      · subst hki
        rw [← wo_skip ls k hlt] at hown
        have HO : Hid _ := hown
        clear hown hSr m0 m1 m2
        go_wp2
        go_roundw
        case rel => exact ⟨k + 1, by omega, by go_num, HO.out, hbl⟩
        case measure => simp [intOf]; omega
      · have hki' : ¬ ((k : Int) = (i : Int)) := by omega
        have hxd := hld x (List.mem_of_getElem? hx)
        have hlen : (woTake ls i k).length ≤ 1024 := by unfold woTake; have := List.length_eraseIdx_le (ls.take k) i; simp at this; omega
        obtain ⟨s', w', hr, ho', hg⟩ := append3 (w := wr.alloc (.cells #[.int .i64 x.f, .int .i64 x.t, x.d] 31)) (hown.alloc _) wr.heap.size x (heap_alloc_new wr _) hxd (by omega) (by simp; have := hbl.size; omega) 22
        have hb' : Below w.heap.size w w' := hbl.trans (hg.ofAlloc.below (fun j hj => (hown.lt j hj).1) hbl.size)
        have ho2 : w'.ownsRow w.heap.size 31 3 s' (woTake ls i (k + 1)).length (flat (woTake ls i (k + 1))) := by rw [wo_more ls i k x hx hki, List.length_append]; exact ho'
        have HO : Hid _ := ho2
        clear hown hSr ho' hg ho2 hlen
        go_wp2_with (first | (at_builtin; go_must (refine wpList_append_run rfl _ _ rfl _ _ _ rfl rfl hr ?_)) | fail)
        go_roundw
        case rel => exact ⟨k + 1, by omega, by go_num, HO.out, hb'⟩
        case measure => simp [intOf]; omega
    · obtain rfl : ls.length = k := by omega
      obtain ⟨vo, vc, hv, _⟩ := own_slice hSr.own
      rw [hv] at hc1
      have e : woTake ls i ls.length = ls.eraseIdx i := by rw [woTake, List.take_length]
      rw [e] at hown
      have HO : Hid _ := hown
      clear hown hSr e
      go_wp2
      go_ret
      exact ⟨_, rfl, HO.out, hbl⟩
end Go.Proofs.Ytehjdkdoalmaeaa
namespace Go.Proofs.Ytehjdkdoalmaeaa
open Go.RowKit Go.PlainAid
set_option linter.unusedVariables false
set_option linter.unusedSimpArgs false
/-- The box takes another list. -/
theorem RBag.put {base hb room : Nat} {v v' : Value} {ls ls' : List LetV} {w : World} (h : RBag base hb room v ls w) (ho : w.ownsRow base 31 3 v' ls'.length (flat ls')) (hd : ∀ l ∈ ls', w.ownsRow base 5 1 l.d l.bs.length (l.bs.map B)) : RBag base hb room v' ls' (w.setCell ⟨hb, 1, none⟩ v') := by
  have hB : Blk w hb #[.int .i64 (room : Nat), v] 73 := h.blk
  have hne : ∀ (e s n : Nat) (u : Value) (xs : List Value), w.ownsRow base e s u n xs → e ≠ 73 → ∀ g, u.ownBlock = some g → (w.setCell ⟨hb, 1, none⟩ v').heap[g]? = w.heap[g]? := fun e s n u xs hu he g hg => Below.heap_setCell _ _ _ _ (fun hgh => by
    obtain ⟨cur, hc⟩ := ownsRow_type hu hg
    rw [hgh] at hc
    rw [show w.heap[hb]? = _ from hB] at hc
    cases hc
    exact he rfl)
  exact ⟨Blk.set hB 1 v', ownsRow_same ho (hne _ _ _ _ _ ho (by decide)), fun l hl => ownsRow_same (hd l hl) (hne _ _ _ _ _ (hd l hl) (by decide))⟩
theorem Stp.putB {hb : Nat} {v v' : Value} {w0 w : World} (h : Below w0.heap.size w0 w) (hv : ∀ j, v'.ownBlock = some j → w0.heap.size ≤ j) : Stp hb v v' w0 (w.setCell ⟨hb, 1, none⟩ v') :=
  ⟨h.os, h.tape, h.output, by have := h.size; simp [World.setCell]; exact this, fun k h0 h1 _ => (Below.heap_setCell _ _ _ _ h1).trans (h.block k h0), fun j hj => Or.inr (hv j hj)⟩
theorem Stp.more {hb : Nat} {v v' : Value} {w0 w w' : World} (h : Stp hb v v' w0 w) (hb' : Below w.heap.size w w') : Stp hb v v' w0 w' :=
  ⟨hb'.os.trans h.os, hb'.tape.trans h.tape, hb'.output.trans h.output, Nat.le_trans h.size hb'.size, fun k h0 h1 h2 => (hb'.block k (Nat.lt_of_lt_of_le h0 h.size)).trans (h.block k h0 h1 h2), h.at'⟩

set_option maxRecDepth 100000 in
set_option maxHeartbeats 1600000 in
/-- The reference's Drop, where there is none. -/
theorem rdrop_no {base hb room : Nat} {v : Value} {ls : List LetV} (w : World) (hS : RBag base hb room v ls w) (i : Int) (hi : ¬ (0 ≤ i ∧ i < ls.length)) :
    Calls Try.prog 35 #[.pointer (some ⟨hb, 0, none⟩), .int .i64 i] w fun e w' => e = .returned (.int .i64 40) ∧ w' = w := by
  have hh := rin_any _ hS i
  rw [show (decide (0 ≤ i) && decide (i < ls.length)) = false from by simp; omega] at hh
  clear hS
  go_enter Try.func35, Try.ntmps35
  go_wp2_with (first | (go_at_call 45; refine hh.mono ?_; rintro e1 w1 ⟨rfl, rfl⟩) | fail)
  go_ret
  exact ⟨rfl, rfl⟩
set_option maxRecDepth 100000 in
set_option maxHeartbeats 1600000 in
/-- The reference's Drop. -/
theorem rdrop_at {base hb room : Nat} {v : Value} {ls : List LetV} (w : World) (hS : RBag base hb room v ls w) (hroom : ls.length ≤ 1024) (hbase : base ≤ w.heap.size) (i : Nat) (hi : i < ls.length) :
    Calls Try.prog 35 #[.pointer (some ⟨hb, 0, none⟩), .int .i64 (i : Nat)] w fun e w' => e = .returned (.int .i64 0) ∧ ∃ v', RBag base hb room v' (ls.eraseIdx i) w' ∧ Stp hb v v' w w' := by
  have hh := rin_any _ hS i
  rw [show (decide ((0 : Int) ≤ i) && decide ((i : Int) < ls.length)) = true from by simp; omega] at hh
  have hwo := without_any w hS hroom i hi
  go_enter Try.func35, Try.ntmps35
  go_wp2_with (first | (go_at_call 45; refine hh.mono ?_; rintro e1 w1 ⟨rfl, rfl⟩) | fail)
  refine hwo.mono ?_
  rintro e2 w2 ⟨v', rfl, ho, hbl⟩
  have hS2 := hS.below hbl
  have hB := (hS2.put (ownsRow_mono ho hbase) fun l hl => hS2.dat l (List.mem_of_mem_eraseIdx hl))
  have hst := Stp.putB (hb := hb) (v := v) hbl fun j hj => (ho.lt j hj).1
  have z1 := hS2.fz 1
  have z2 := hS2.c1
  obtain ⟨vo, vc, rfl, _⟩ := own_slice ho
  have HB : Hid _ := hB
  have HS : Hid _ := hst
  clear hh hwo hS hS2 ho hbl hB hst
  go_wp2
  go_ret
  exact ⟨rfl, _, HB.out, HS.out⟩
set_option maxRecDepth 100000 in
set_option maxHeartbeats 1600000 in
/-- The reference's Deliver, where there is none. -/
theorem rdeliver_no {base hb room : Nat} {v : Value} {ls : List LetV} (w : World) (hS : RBag base hb room v ls w) (i : Int) (hi : ¬ (0 ≤ i ∧ i < ls.length)) :
    Calls Try.prog 33 #[.pointer (some ⟨hb, 0, none⟩), .int .i64 i] w fun e w' => e = .returned (.tuple #[.agg zeroL, .int .i64 40]) ∧ Below w.heap.size w w' := by
  have hgr : Below w.heap.size w (w.alloc (.cells #[.int .i64 0, .int .i64 0, .slice none 0 0] 31)) := by go_grown
  have hat := rat_no _ (hS.below hgr) i hi
  have HG : Hid _ := hgr
  clear hgr hS
  go_enter Try.func33, Try.ntmps33
  go_wp2_with fail
  refine hat.mono ?_
  rintro e1 w1 ⟨rfl, hb1⟩
  have hz1 := hb1.size
  rw [World.size_alloc] at hz1
  have hR1 : Blk w1 w.heap.size zeroL 31 := (hb1.block _ (by simp)).trans (zeroL_blk w)
  have hBz : (w1.alloc (.cells #[.int .i64 0, .int .i64 0, .slice none 0 0] 31)).heap[w1.heap.size]? = some (.cells #[.int .i64 0, .int .i64 0, .slice none 0 0] 31 (0, 0)) := heap_alloc_new w1 _
  have hbX : Below w1.heap.size w1 ((w1.alloc (.cells #[.int .i64 0, .int .i64 0, .slice none 0 0] 31)).setRow w1.heap.size zeroL) := below_setRow' ((Below.refl _ _).alloc (Nat.le_refl _) _) (Nat.le_refl _)
  have hBX : Blk ((w1.alloc (.cells #[.int .i64 0, .int .i64 0, .slice none 0 0] 31)).setRow w1.heap.size zeroL) w1.heap.size zeroL 31 := setRow_heap _ _ _ _ 31 _ hBz
  have hRX : Blk ((w1.alloc (.cells #[.int .i64 0, .int .i64 0, .slice none 0 0] 31)).setRow w1.heap.size zeroL) w.heap.size zeroL 31 := (hbX.block _ hR1.lt).trans hR1
  have hR2 : Blk (((w1.alloc (.cells #[.int .i64 0, .int .i64 0, .slice none 0 0] 31)).setRow w1.heap.size zeroL).setRow w.heap.size zeroL) w.heap.size zeroL 31 := setRow_heap _ _ _ _ 31 _ hRX
  have hbl : Below w.heap.size w (((w1.alloc (.cells #[.int .i64 0, .int .i64 0, .slice none 0 0] 31)).setRow w1.heap.size zeroL).setRow w.heap.size zeroL) := below_setRow' (HG.out.trans ((hb1.trans (hbX.mono (by simp; omega))).mono (by simp))) (Nat.le_refl _)
  have hall : zeroL.all (·.oneCell') = true := by simp [zeroL, Value.oneCell']
  have HB : Hid _ := hbl
  clear hat hb1 HG hbl hbX hR1
  go_wp2_with (first | (refine wpList_store_row rfl 31 (.tmp 6) (.tmp 12) rfl w1.heap.size zeroL rfl rfl 31 _ hBz (by kernel_rfl) rfl hall ?_) | (refine wpList_load_row rfl 31 (.tmp 6) rfl w1.heap.size rfl 31 zeroL (0, 0) _ hBX Try.underlying31 rfl (by kernel_rfl) ?_) | (refine wpList_store_row rfl 31 (.tmp 4) (.tmp 22) rfl w.heap.size zeroL rfl rfl 31 _ hRX (by kernel_rfl) rfl hall ?_) | fail)
  exact bodyPost_ret (results_cellT Try.results33 _ _ w.heap.size zeroL rfl (run_loadVar_row _ _ 31 31 zeroL (0, 0) _ hR2 Try.underlying31 rfl (by kernel_rfl))) rfl ⟨rfl, HB.out⟩
set_option maxRecDepth 100000 in
set_option maxHeartbeats 1600000 in
/-- The reference's Deliver. -/
theorem rdeliver_at {base hb room : Nat} {v : Value} {ls : List LetV} (w : World) (hS : RBag base hb room v ls w) (hroom : ls.length ≤ 1024) (hbase : base ≤ w.heap.size) (i : Nat) (l : LetV) (hi : ls[i]? = some l) (hsz : l.bs.length ≤ 140737488355328) :
    Calls Try.prog 33 #[.pointer (some ⟨hb, 0, none⟩), .int .i64 (i : Nat)] w fun e w' => ∃ d, e = .returned (.tuple #[.agg (letC l.f l.t d), .int .i64 0]) ∧ w'.ownsRow w.heap.size 5 1 d l.bs.length (l.bs.map B) ∧ ∃ v', RBag base hb room v' (ls.eraseIdx i) w' ∧ Stp hb v v' w w' := by
  have hil := (List.getElem?_eq_some_iff.1 hi).1
  have hgr : Below w.heap.size w (w.alloc (.cells #[.int .i64 0, .int .i64 0, .slice none 0 0] 31)) := by go_grown
  have hS0 := hS.below hgr
  have hat := rat_at _ hS0 hroom i l hi hsz
  have HG : Hid _ := hgr
  clear hgr
  go_enter Try.func33, Try.ntmps33
  go_wp2_with fail
  refine hat.mono ?_
  rintro e1 w1 ⟨d, rfl, hd, hb1⟩
  have hz1 := hb1.size
  rw [World.size_alloc] at hz1 hd
  have hS1 := hS0.below hb1
  have hall : (letC l.f l.t d).all (·.oneCell') = true := by
    obtain ⟨x, y, h, _⟩ := own_slice hd
    rw [h]
    simp [letC, Value.oneCell']
  have hR1 : Blk w1 w.heap.size zeroL 31 := (hb1.block _ (by simp)).trans (zeroL_blk w)
  have hBz : (w1.alloc (.cells #[.int .i64 0, .int .i64 0, .slice none 0 0] 31)).heap[w1.heap.size]? = some (.cells #[.int .i64 0, .int .i64 0, .slice none 0 0] 31 (0, 0)) := heap_alloc_new w1 _
  have hbX : Below w1.heap.size w1 ((w1.alloc (.cells #[.int .i64 0, .int .i64 0, .slice none 0 0] 31)).setRow w1.heap.size (letC l.f l.t d)) := below_setRow' ((Below.refl _ _).alloc (Nat.le_refl _) _) (Nat.le_refl _)
  have hBX : Blk ((w1.alloc (.cells #[.int .i64 0, .int .i64 0, .slice none 0 0] 31)).setRow w1.heap.size (letC l.f l.t d)) w1.heap.size (letC l.f l.t d) 31 := setRow_heap _ _ _ _ 31 _ hBz
  have hRX : Blk ((w1.alloc (.cells #[.int .i64 0, .int .i64 0, .slice none 0 0] 31)).setRow w1.heap.size (letC l.f l.t d)) w.heap.size zeroL 31 := (hbX.block _ hR1.lt).trans hR1
  have hdX : ((w1.alloc (.cells #[.int .i64 0, .int .i64 0, .slice none 0 0] 31)).setRow w1.heap.size (letC l.f l.t d)).ownsRow (w.heap.size + 1) 5 1 d l.bs.length (l.bs.map B) := ownsRow_same hd fun g hg => hbX.block g (hd.lt g hg).2
  have hSX := hS1.below hbX
  have hbwX : Below w.heap.size w ((w1.alloc (.cells #[.int .i64 0, .int .i64 0, .slice none 0 0] 31)).setRow w1.heap.size (letC l.f l.t d)) := HG.out.trans ((hb1.trans (hbX.mono (by simp; omega))).mono (by simp))
  have hwo := without_any _ hSX hroom i hil
  have H1 : Hid _ := hSX
  have H2 : Hid _ := hbwX
  have H3 : Hid _ := hdX
  have H4 : Hid _ := hRX
  have H5 : Hid _ := hBX
  clear hat hb1 HG hbX hR1 hd hS0 hS1 hSX hbwX hdX hRX hBX
  go_wp2_with (first | (refine wpList_store_row rfl 31 (.tmp 6) (.tmp 12) rfl w1.heap.size (letC l.f l.t d) rfl rfl 31 _ hBz (by kernel_rfl) rfl hall ?_) | fail)
  have hSX := H1.out
  have hbwX := H2.out
  have hdX := H3.out
  have hRX : Blk ((w1.alloc (.cells #[.int .i64 0, .int .i64 0, .slice none 0 0] 31)).setRow w1.heap.size (letC l.f l.t d)) w.heap.size zeroL 31 := H4.out
  have hBX : Blk ((w1.alloc (.cells #[.int .i64 0, .int .i64 0, .slice none 0 0] 31)).setRow w1.heap.size (letC l.f l.t d)) w1.heap.size (letC l.f l.t d) 31 := H5.out
  clear H1 H2 H3 H4 H5 hBz
  generalize ((w1.alloc (.cells #[.int .i64 0, .int .i64 0, .slice none 0 0] 31)).setRow w1.heap.size (letC l.f l.t d)) = w2 at *
  refine hwo.mono ?_
  rintro e3 w3 ⟨v', rfl, ho, hb3⟩
  have hz2 := hbwX.size
  have hS3 := hSX.below hb3
  have hbw3 := hbwX.trans (hb3.mono hz2)
  have hRX3 : Blk w3 w.heap.size zeroL 31 := (hb3.block _ hRX.lt).trans hRX
  have hBX3 : Blk w3 w1.heap.size (letC l.f l.t d) 31 := (hb3.block _ hBX.lt).trans hBX
  have hd3 : w3.ownsRow (w.heap.size + 1) 5 1 d l.bs.length (l.bs.map B) := ownsRow_same hdX fun g hg => hb3.block g (World.ownsRow.lt hdX g hg).2
  have hB4 := hS3.put (ownsRow_mono ho (by omega)) fun l hl => hS3.dat l (List.mem_of_mem_eraseIdx hl)
  have hst4 := Stp.putB (hb := hb) (v := v) hbw3 fun j hj => by have := (ho.lt j hj).1; omega
  have hblt := hS.lt
  have hR4 : Blk (w3.setCell ⟨hb, 1, none⟩ v') w.heap.size zeroL 31 := (Below.heap_setCell _ _ _ _ (by show _ ≠ hb; omega)).trans hRX3
  have hB4x : Blk (w3.setCell ⟨hb, 1, none⟩ v') w1.heap.size (letC l.f l.t d) 31 := (Below.heap_setCell _ _ _ _ (by show _ ≠ hb; omega)).trans hBX3
  have hd4 : (w3.setCell ⟨hb, 1, none⟩ v').ownsRow (w.heap.size + 1) 5 1 d l.bs.length (l.bs.map B) := ownsRow_same hd3 fun g hg => Below.heap_setCell _ _ _ _ (by show _ ≠ hb; have := (hd3.lt g hg).1; omega)
  have z1 := hS3.fz 1
  have z2 := hS3.c1
  have hR5 : Blk ((w3.setCell ⟨hb, 1, none⟩ v').setRow w.heap.size (letC l.f l.t d)) w.heap.size (letC l.f l.t d) 31 := setRow_heap _ _ _ _ 31 _ hR4
  have hv' : ∀ j, v'.ownBlock = some j → j ≠ w.heap.size := fun j hj => by have := (ho.lt j hj).1; have := hRX.lt; omega
  have hB5 : RBag base hb room v' (ls.eraseIdx i) ((w3.setCell ⟨hb, 1, none⟩ v').setRow w.heap.size (letC l.f l.t d)) := by
    refine ⟨(heap_setRow_other _ _ _ (by omega)).trans hB4.blk, ownsRow_same hB4.own fun j hj => heap_setRow_other _ _ _ (hv' j hj), fun x hx => ownsRow_same (hB4.dat x hx) fun j hj => heap_setRow_other _ _ _ ?_⟩
    have := (hS.dat x (List.mem_of_mem_eraseIdx hx)).lt j hj
    omega
  have hst5 : Stp hb v v' w ((w3.setCell ⟨hb, 1, none⟩ v').setRow w.heap.size (letC l.f l.t d)) := ⟨hst4.os, hst4.tape, hst4.output, by have := hst4.size; simp [World.setRow] at this ⊢; exact this, fun k h0 h1 h2 => (heap_setRow_other _ _ _ (by omega)).trans (hst4.block k h0 h1 h2), hst4.at'⟩
  have hd5 : ((w3.setCell ⟨hb, 1, none⟩ v').setRow w.heap.size (letC l.f l.t d)).ownsRow w.heap.size 5 1 d l.bs.length (l.bs.map B) := ownsRow_mono (ownsRow_same hd4 fun g hg => heap_setRow_other _ _ _ (by have := (hd4.lt g hg).1; omega)) (by omega)
  obtain ⟨vo, vc, rfl, _⟩ := own_slice ho
  have HB : Hid _ := hB5
  have HS : Hid _ := hst5
  have HD : Hid _ := hd5
  clear hwo hS hSX hS3 ho hb3 hB4 hst4 hB5 hst5 hd5 hd4 hd3 hdX hbw3 hbwX hRX3 hBX3 hRX hBX hv'
  go_wp2_with (first | (refine wpList_load_row rfl 31 (.tmp 6) rfl w1.heap.size rfl 31 (letC l.f l.t d) (0, 0) _ hB4x Try.underlying31 rfl (by kernel_rfl) ?_) | (refine wpList_store_row rfl 31 (.tmp 4) (.tmp 22) rfl w.heap.size (letC l.f l.t d) rfl rfl 31 _ hR4 (by kernel_rfl) rfl hall ?_) | fail)
  exact bodyPost_ret (results_cellT Try.results33 _ _ w.heap.size (letC l.f l.t d) rfl (run_loadVar_row _ _ 31 31 (letC l.f l.t d) (0, 0) _ hR5 Try.underlying31 rfl (by kernel_rfl))) rfl ⟨d, rfl, HD.out, _, HB.out, HS.out⟩
end Go.Proofs.Ytehjdkdoalmaeaa
namespace Go.Proofs.Ytehjdkdoalmaeaa
open Go.RowKit Go.PlainAid
set_option linter.unusedVariables false
set_option linter.unusedSimpArgs false
set_option maxRecDepth 100000 in
set_option maxHeartbeats 1600000 in
/-- The reference's Double, where there is none. -/
theorem rdouble_no {base hb room : Nat} {v : Value} {ls : List LetV} (w : World) (hS : RBag base hb room v ls w) (i : Int) (hi : ¬ (0 ≤ i ∧ i < ls.length)) :
    Calls Try.prog 36 #[.pointer (some ⟨hb, 0, none⟩), .int .i64 i] w fun e w' => e = .returned (.int .i64 40) ∧ Below w.heap.size w w' := by
  have hat := rat_no w hS i hi
  clear hS
  go_enter Try.func36, Try.ntmps36
  go_wp2_with fail
  refine hat.mono ?_
  rintro e1 w1 ⟨rfl, hb1⟩
  have hBz : Blk (w1.alloc (.cells #[.int .i64 0, .int .i64 0, .slice none 0 0] 31)) w1.heap.size zeroL 31 := heap_alloc_new w1 _
  have hbl : Below w.heap.size w ((w1.alloc (.cells #[.int .i64 0, .int .i64 0, .slice none 0 0] 31)).setRow w1.heap.size zeroL) := below_setRow' (hb1.alloc hb1.size _) hb1.size
  have hall : zeroL.all (·.oneCell') = true := by simp [zeroL, Value.oneCell']
  have HB : Hid _ := hbl
  clear hbl hb1 hat
  go_wp2_with (first | (refine wpList_store_row rfl 31 (.tmp 5) (.tmp 11) rfl w1.heap.size zeroL rfl rfl 31 _ hBz (by kernel_rfl) rfl hall ?_) | fail)
  go_ret
  exact ⟨rfl, HB.out⟩
set_option maxRecDepth 100000 in
set_option maxHeartbeats 1600000 in
/-- The reference's Double, where there is no room. -/
theorem rdouble_full {base hb room : Nat} {v : Value} {ls : List LetV} (w : World) (hS : RBag base hb room v ls w) (hroom : room ≤ 1024) (hlen : ls.length = room) (i : Nat) (l : LetV) (hi : ls[i]? = some l) (hsz : l.bs.length ≤ 140737488355328) :
    Calls Try.prog 36 #[.pointer (some ⟨hb, 0, none⟩), .int .i64 (i : Nat)] w fun e w' => e = .returned (.int .i64 41) ∧ Below w.heap.size w w' := by
  have hil := (List.getElem?_eq_some_iff.1 hi).1
  have hat := rat_at w hS (by omega) i l hi hsz
  go_enter Try.func36, Try.ntmps36
  go_wp2_with fail
  refine hat.mono ?_
  rintro e1 w1 ⟨d, rfl, hd, hb1⟩
  have hz1 := hb1.size
  have hS1 := hS.below hb1
  have hall : (letC l.f l.t d).all (·.oneCell') = true := by
    obtain ⟨x, y, h, _⟩ := own_slice hd
    rw [h]
    simp [letC, Value.oneCell']
  have hd1c : d.oneCell' = true := by
    obtain ⟨x, y, h, _⟩ := own_slice hd
    rw [h]
    rfl
  have hBz : (w1.alloc (.cells #[.int .i64 0, .int .i64 0, .slice none 0 0] 31)).heap[w1.heap.size]? = some (.cells #[.int .i64 0, .int .i64 0, .slice none 0 0] 31 (0, 0)) := heap_alloc_new w1 _
  have hbX : Below w1.heap.size w1 ((w1.alloc (.cells #[.int .i64 0, .int .i64 0, .slice none 0 0] 31)).setRow w1.heap.size (letC l.f l.t d)) := below_setRow' ((Below.refl _ _).alloc (Nat.le_refl _) _) (Nat.le_refl _)
  have hBX : Blk ((w1.alloc (.cells #[.int .i64 0, .int .i64 0, .slice none 0 0] 31)).setRow w1.heap.size (letC l.f l.t d)) w1.heap.size (letC l.f l.t d) 31 := setRow_heap _ _ _ _ 31 _ hBz
  have hdX : ((w1.alloc (.cells #[.int .i64 0, .int .i64 0, .slice none 0 0] 31)).setRow w1.heap.size (letC l.f l.t d)).ownsRow w.heap.size 5 1 d l.bs.length (l.bs.map B) := ownsRow_same hd fun g hg => hbX.block g (hd.lt g hg).2
  have hSX := hS1.below hbX
  have hbwX : Below w.heap.size w ((w1.alloc (.cells #[.int .i64 0, .int .i64 0, .slice none 0 0] 31)).setRow w1.heap.size (letC l.f l.t d)) := hb1.trans (hbX.mono hz1)
  have c0 := hSX.c0
  have c1 := hSX.c1
  obtain ⟨vo, vc, hv, _⟩ := own_slice hS.own
  rw [hv] at c1
  have hge : (room : Int) ≤ (ls.length : Int) := by omega
  have HB : Hid _ := hbwX
  clear hat hb1 hbX hd hS1 hSX hbwX hdX hBX hS
  go_wp2_with (first | (refine wpList_store_row rfl 31 (.tmp 5) (.tmp 11) rfl w1.heap.size (letC l.f l.t d) rfl rfl 31 _ hBz (by kernel_rfl) rfl hall ?_) | fail)
  go_quiet (fail)
  go_wp2
  go_ret
  exact ⟨rfl, below_drewN _ HB.out⟩
set_option maxRecDepth 100000 in
set_option maxHeartbeats 3200000 in
/-- The reference's Double, where there is room. -/
theorem rdouble_room {base hb room : Nat} {v : Value} {ls : List LetV} (w : World) (hS : RBag base hb room v ls w) (hroom : room ≤ 1024) (hlen : ls.length < room) (hbase : base ≤ w.heap.size) (i : Nat) (l : LetV) (hi : ls[i]? = some l) (hsz : l.bs.length ≤ 140737488355328) :
    Calls Try.prog 36 #[.pointer (some ⟨hb, 0, none⟩), .int .i64 (i : Nat)] w fun e w' => e = .returned (.int .i64 0) ∧ ∃ v' d, RBag base hb room v' (ls ++ [⟨l.f, l.t, d, l.bs⟩]) w' ∧ Stp hb v v' w w' ∧ ∀ j, d.ownBlock = some j → w.heap.size ≤ j := by
  have hil := (List.getElem?_eq_some_iff.1 hi).1
  have hat := rat_at w hS (by omega) i l hi hsz
  go_enter Try.func36, Try.ntmps36
  go_wp2_with fail
  refine hat.mono ?_
  rintro e1 w1 ⟨d, rfl, hd, hb1⟩
  have hz1 := hb1.size
  have hS1 := hS.below hb1
  have hall : (letC l.f l.t d).all (·.oneCell') = true := by
    obtain ⟨x, y, h, _⟩ := own_slice hd
    rw [h]
    simp [letC, Value.oneCell']
  have hd1c : d.oneCell' = true := by
    obtain ⟨x, y, h, _⟩ := own_slice hd
    rw [h]
    rfl
  have hBz : (w1.alloc (.cells #[.int .i64 0, .int .i64 0, .slice none 0 0] 31)).heap[w1.heap.size]? = some (.cells #[.int .i64 0, .int .i64 0, .slice none 0 0] 31 (0, 0)) := heap_alloc_new w1 _
  have hbX : Below w1.heap.size w1 ((w1.alloc (.cells #[.int .i64 0, .int .i64 0, .slice none 0 0] 31)).setRow w1.heap.size (letC l.f l.t d)) := below_setRow' ((Below.refl _ _).alloc (Nat.le_refl _) _) (Nat.le_refl _)
  have hBX : Blk ((w1.alloc (.cells #[.int .i64 0, .int .i64 0, .slice none 0 0] 31)).setRow w1.heap.size (letC l.f l.t d)) w1.heap.size (letC l.f l.t d) 31 := setRow_heap _ _ _ _ 31 _ hBz
  have hdX : ((w1.alloc (.cells #[.int .i64 0, .int .i64 0, .slice none 0 0] 31)).setRow w1.heap.size (letC l.f l.t d)).ownsRow w.heap.size 5 1 d l.bs.length (l.bs.map B) := ownsRow_same hd fun g hg => hbX.block g (hd.lt g hg).2
  have hSX := hS1.below hbX
  have hbwX : Below w.heap.size w ((w1.alloc (.cells #[.int .i64 0, .int .i64 0, .slice none 0 0] 31)).setRow w1.heap.size (letC l.f l.t d)) := hb1.trans (hbX.mono hz1)
  have c0 := hSX.c0
  have c1 := hSX.c1
  obtain ⟨vo, vc, hv, _⟩ := own_slice hS.own
  rw [hv] at c1
  have hge : ¬ ((room : Int) ≤ (ls.length : Int)) := by omega
  have H1 : Hid _ := hSX
  have H2 : Hid _ := hbwX
  have H3 : Hid _ := hdX
  have H5 : Hid _ := hBX
  clear hat hb1 hbX hd hS1 hSX hbwX hdX hBX
  go_wp2_with (first | (refine wpList_store_row rfl 31 (.tmp 5) (.tmp 11) rfl w1.heap.size (letC l.f l.t d) rfl rfl 31 _ hBz (by kernel_rfl) rfl hall ?_) | fail)
  go_quiet (fail)
  go_wp2_with fail
  rename_i K hK
  refine wp_region_mix (CSend ({ (((w1.alloc (.cells #[.int .i64 0, .int .i64 0, .slice none 0 0] 31)).setRow w1.heap.size (letC l.f l.t d))).drewN nq with drawn := ((((w1.alloc (.cells #[.int .i64 0, .int .i64 0, .slice none 0 0] 31)).setRow w1.heap.size (letC l.f l.t d))).drewN nq).drawn + 1 } : World) hb w1.heap.size (letC l.f l.t d)) (fun i => i == 6 || i == 7 || i == 10) 10 (by kernel_rfl) rfl (by kernel_rfl) (by kernel_rfl) (by kernel_rfl) ?_
  have hW0 : Below w.heap.size w ({ (((w1.alloc (.cells #[.int .i64 0, .int .i64 0, .slice none 0 0] 31)).setRow w1.heap.size (letC l.f l.t d))).drewN nq with drawn := ((((w1.alloc (.cells #[.int .i64 0, .int .i64 0, .slice none 0 0] 31)).setRow w1.heap.size (letC l.f l.t d))).drewN nq).drawn + 1 } : World) := ⟨H2.out.os, H2.out.tape, H2.out.output, H2.out.size, H2.out.block⟩
  have hBW : Blk ({ (((w1.alloc (.cells #[.int .i64 0, .int .i64 0, .slice none 0 0] 31)).setRow w1.heap.size (letC l.f l.t d))).drewN nq with drawn := ((((w1.alloc (.cells #[.int .i64 0, .int .i64 0, .slice none 0 0] 31)).setRow w1.heap.size (letC l.f l.t d))).drewN nq).drawn + 1 } : World) w1.heap.size (letC l.f l.t d) 31 := H5.out
  have hdW : ({ (((w1.alloc (.cells #[.int .i64 0, .int .i64 0, .slice none 0 0] 31)).setRow w1.heap.size (letC l.f l.t d))).drewN nq with drawn := ((((w1.alloc (.cells #[.int .i64 0, .int .i64 0, .slice none 0 0] 31)).setRow w1.heap.size (letC l.f l.t d))).drewN nq).drawn + 1 } : World).ownsRow w.heap.size 5 1 d l.bs.length (l.bs.map B) := H3.out
  clear c0 c1 H1 H2 H3 H5 hBz
  generalize ({ (((w1.alloc (.cells #[.int .i64 0, .int .i64 0, .slice none 0 0] 31)).setRow w1.heap.size (letC l.f l.t d))).drewN nq with drawn := ((((w1.alloc (.cells #[.int .i64 0, .int .i64 0, .slice none 0 0] 31)).setRow w1.heap.size (letC l.f l.t d))).drewN nq).drawn + 1 } : World) = W at *
  generalize w1.heap.size = bx at *
  have hSW := hS.below hW0
  have hC : CSend W hb bx (letC l.f l.t d) W := ⟨rfl, hBW⟩
  have hWs : w.heap.size ≤ W.heap.size := hW0.size
  have hbxW : bx < W.heap.size := hBW.lt
  have hblt := hS.lt
  refine withFrL (N := 36) rfl ?_
  intro a0 f0 F0 hff
  have h0 : f0 0 = .pointer (some ⟨hb, 0, none⟩) := hff 0
  have h5 : f0 5 = .pointer (some ⟨bx, 0, none⟩) := hff 5
  clear hff
  refine ly F0 rfl hC rfl (by omega) (wanted_none rfl) (v := Value.pointer (some ⟨hb, 0, none⟩)) (fun wr hwr => by simp only [execOp, (F0.eval 0 (by omega)).trans (show _ = Value.pointer (some ⟨hb, 0, none⟩) from by simp [upd, h0, h5])]; first | rfl | simp [go_sem]) fun a1 F1 => ?_
  refine ly F1 rfl hC rfl (by omega) (wanted_none rfl) (v := Value.pointer (some ⟨hb, 0, none⟩)) (fun wr hwr => by simp only [execOp, (F1.eval 0 (by omega)).trans (show _ = Value.pointer (some ⟨hb, 0, none⟩) from by simp [upd, h0, h5])]; first | rfl | simp [go_sem]) fun a2 F2 => ?_
  refine ly F2 rfl hC rfl (by omega) (wanted_none rfl) (v := Value.pointer (some ⟨hb, 0, none⟩)) (fun wr hwr => by simp only [execOp, (F2.eval 27 (by omega)).trans (show _ = Value.pointer (some ⟨hb, 0, none⟩) from by simp [upd, h0, h5])]; first | rfl | simp [go_sem]) fun a3 F3 => ?_
  refine ly F3 rfl hC rfl (by omega) (wanted_none rfl) (v := Value.pointer (some ⟨hb, 1, none⟩)) (fun wr hwr => by simp only [execOp, (F3.eval 28 (by omega)).trans (show _ = Value.pointer (some ⟨hb, 0, none⟩) from by simp [upd, h0, h5])]; first | rfl | simp [go_sem]) fun a4 F4 => ?_
  refine ly F4 rfl hC rfl (by omega) (wanted_none rfl) (v := v) (fun wr hwr => by simp only [execOp, (F4.eval 29 (by omega)).trans (show _ = Value.pointer (some ⟨hb, 1, none⟩) from by simp [upd, h0, h5])]; simp [go_sem, (show wr.cell? ⟨hb, 1, none⟩ = some v from (World.cell?_of_block (w := W) hwr.1).trans hSW.c1)]) fun a5 F5 => ?_
  refine ly F5 rfl hC rfl (by omega) (wanted_none rfl) (v := Value.agg (letC l.f l.t d)) (fun wr hwr => by simp only [execOp, (F5.eval 5 (by omega)).trans (show _ = Value.pointer (some ⟨bx, 0, none⟩) from by simp [upd, h0, h5]), Instr.loadAt, Instr.sureAddr, Sem.run_bind, Sem.run_pure, Result.andThen_ok, run_loadVar_row (P := Try.prog) wr bx 31 31 (letC l.f l.t d) (0, 0) _ hwr.2 Try.underlying31 rfl (by kernel_rfl)]) fun a6 F6 => ?_
  refine le F6 rfl hC rfl (by omega) (wanted_none rfl) (v := Value.slice (some ⟨W.heap.size, 0, none⟩) 1 1) (w1 := W.alloc (.cells (letC l.f l.t d) 31)) (by simp only [execOp, List.map_toArray, List.map_cons, List.map_nil, (F6.eval 31 (by omega)).trans (show _ = Value.agg (letC l.f l.t d) from by simp [upd, h0, h5])]; simp [go_sem, letC]) fun a7 F7 => ?_
  have hC2 : CSend W hb bx (letC l.f l.t d) (W.alloc (.cells (letC l.f l.t d) 31)) := ⟨Below.heap_alloc _ _ _ hSW.lt, (Below.heap_alloc _ _ _ hC.2.lt).trans hC.2⟩
  have hS2 : RBag base hb room v ls (W.alloc (.cells (letC l.f l.t d) 31)) := hSW.keep fun j hj => Below.heap_alloc _ _ _ hj
  obtain ⟨v3, W3, hr3, ho3, hG3⟩ := append3 hS2.own W.heap.size ⟨l.f, l.t, d, l.bs⟩ (heap_alloc_new W _) hd1c (by omega) (by simp; omega) 22
  have hvlt : ∀ j, v.ownBlock = some j → j < w.heap.size := fun j hj => (hS.own.lt j hj).2
  have hC3 : CSend W hb bx (letC l.f l.t d) W3 := ⟨(hG3.g.block hb hS2.lt (fun e => hS2.ne e.symm)).trans hC2.1, (hG3.g.block _ hC2.2.lt (fun e => by have := hvlt _ e.symm; omega)).trans hC2.2⟩
  refine le F7 rfl hC2 rfl (by omega) (wanted_none rfl) (v := v3) (w1 := W3) (by simp only [execOp, resolve, invoke, builtin, Sem.run_bind, Sem.run_pure, Result.andThen_ok, List.map_toArray, List.map_cons, List.map_nil, (F7.eval 30 (by omega)).trans (show _ = v from by simp [upd, h0, h5]), (F7.eval 32 (by omega)).trans (show _ = Value.slice (some ⟨W.heap.size, 0, none⟩) 1 1 from by simp [upd, h0, h5]), hr3]) fun a8 F8 => ?_
  refine ly F8 rfl hC3 rfl (by omega) (wanted_none rfl) (v := Value.pointer (some ⟨hb, 0, none⟩)) (fun wr hwr => by simp only [execOp, (F8.eval 26 (by omega)).trans (show _ = Value.pointer (some ⟨hb, 0, none⟩) from by simp [upd, h0, h5])]; first | rfl | simp [go_sem]) fun a9 F9 => ?_
  refine ly F9 rfl hC3 rfl (by omega) (wanted_none rfl) (v := Value.pointer (some ⟨hb, 1, none⟩)) (fun wr hwr => by simp only [execOp, (F9.eval 34 (by omega)).trans (show _ = Value.pointer (some ⟨hb, 0, none⟩) from by simp [upd, h0, h5])]; first | rfl | simp [go_sem]) fun a10 F10 => ?_
  have hv3 : ∃ ao' cap', v3 = .slice ao' (ls.length + 1) cap' := by obtain ⟨x, y, h, _⟩ := own_slice ho3; exact ⟨x, y, h⟩
  have hB3 : Blk W3 hb #[.int .i64 (room : Nat), v] 73 := hC3.1.trans hSW.blk
  have hr4 : (storeVar 22 ⟨hb, 1, none⟩ v3).run Try.prog W3 = .ok () (W3.setCell ⟨hb, 1, none⟩ v3) := by
    obtain ⟨x, y, rfl⟩ := hv3
    have z1 := hB3.frozen 1
    have z2 : W3.cell? ⟨hb, 1, none⟩ = some v := hB3.cell 1
    simp [go_sem, z1, z2]
  refine lst rfl hC3 rfl (wanted_none rfl) (w1 := W3.setCell ⟨hb, 1, none⟩ v3) (by simp only [execOp, (F10.eval 35 (by omega)).trans (show _ = Value.pointer (some ⟨hb, 1, none⟩) from by simp [upd, h0, h5]), (F10.eval 33 (by omega)).trans (show _ = v3 from by simp [upd, h0, h5])]; simp [Instr.storeAt, Instr.sureAddr, hr4]) ?_
  refine ⟨fun h => by omega, ?_⟩
  have hv3' : ∀ j, v3.ownBlock = some j → j ≠ hb := fun j hj e => by
    subst e
    obtain ⟨cur, hc⟩ := ownsRow_type ho3 hj
    rw [hB3] at hc
    cases hc
  have hsz3 : W.heap.size + 1 ≤ W3.heap.size := by have := hG3.g.size; rwa [World.size_alloc] at this
  have hlow : ∀ j, j < W.heap.size → v.ownBlock ≠ some j → W3.heap[j]? = W.heap[j]? := fun j hj hne => (hG3.g.block j (by rw [World.size_alloc]; omega) (fun e => hne e.symm)).trans (Below.heap_alloc _ _ _ hj)
  have hold : ∀ j, j < w.heap.size → v.ownBlock ≠ some j → W3.heap[j]? = w.heap[j]? := fun j hj hne => (hlow j (by omega) hne).trans (hW0.block j hj)
  have hset : ∀ j, j ≠ hb → (W3.setCell ⟨hb, 1, none⟩ v3).heap[j]? = W3.heap[j]? := fun j hj => Below.heap_setCell _ _ _ _ hj
  have hBag : RBag base hb room v3 (ls ++ [⟨l.f, l.t, d, l.bs⟩]) (W3.setCell ⟨hb, 1, none⟩ v3) := by
    refine ⟨Blk.set hB3 1 v3, ?_, fun x hx => ?_⟩
    · rw [List.length_append]
      exact ownsRow_same ho3 fun g hg => hset g (hv3' g hg)
    · rcases List.mem_append.1 hx with h1 | h1
      · refine ownsRow_same (hS.dat x h1) fun g hg => ?_
        obtain ⟨n1, n2⟩ := hS.dne x h1 g hg
        exact (hset g n1).trans (hold g ((hS.dat x h1).lt g hg).2 n2)
      · simp only [List.mem_singleton] at h1
        subst h1
        refine ownsRow_mono (base := w.heap.size) (ownsRow_same hdW fun g hg => ?_) hbase
        have hg2 := World.ownsRow.lt hdW g hg
        exact (hset g (by omega)).trans (hlow g hg2.2 (fun e => by have := hvlt g e; omega))
  have hStp : Stp hb v v3 w (W3.setCell ⟨hb, 1, none⟩ v3) := by
    refine ⟨hG3.g.os.trans hW0.os, hG3.g.tape.trans hW0.tape, hG3.g.output.trans hW0.output, ?_, fun j hj n1 n2 => (hset j n1).trans (hold j hj n2), fun j hj => ?_⟩
    · show w.heap.size ≤ (W3.setCell ⟨hb, 1, none⟩ v3).heap.size
      simp [World.setCell]
      omega
    · rcases hG3.at' j hj with h1 | h1
      · exact Or.inl h1
      · rw [World.size_alloc] at h1
        exact Or.inr (by omega)
  have hfr : ∀ j, d.ownBlock = some j → w.heap.size ≤ j := fun j hj => (World.ownsRow.lt hdW j hj).1
  clear hS hSW hS2 ho3 hG3 hC hC2 hC3 hr3 hr4 hB3 hlow hold hset hW0 hBW hdW
  show K _ _
  apply hK
  revert F10
  generalize (upd _ _ _ : Nat → Value) = f'
  intro F'
  rw [F'.lit, show ((List.range 36).map f').toArray = #[f' 0, f' 1, f' 2, f' 3, f' 4, f' 5, f' 6, f' 7, f' 8, f' 9, f' 10, f' 11, f' 12, f' 13, f' 14, f' 15, f' 16, f' 17, f' 18, f' 19, f' 20, f' 21, f' 22, f' 23, f' 24, f' 25, f' 26, f' 27, f' 28, f' 29, f' 30, f' 31, f' 32, f' 33, f' 34, f' 35] from rfl]
  go_wp2
  go_ret
  exact ⟨rfl, v3, d, hBag, hStp, hfr⟩
end Go.Proofs.Ytehjdkdoalmaeaa
namespace Go.Proofs.Ytehjdkdoalmaeaa
open Go.RowKit Go.PlainAid
set_option linter.unusedVariables false
set_option linter.unusedSimpArgs false
theorem row_at0 {w : World} {base : Nat} {v : Value} {ss : List LetV} (ho : w.ownsRow base 31 3 v ss.length (flat ss)) {i : Nat} {x : LetV} (hi : ss[i]? = some x) : ∃ g cap, v = .slice (some ⟨g, 0, none⟩) ss.length cap ∧ ss.length ≤ cap ∧ base ≤ g ∧ g < w.heap.size ∧ w.cell? ⟨g, i * 3, none⟩ = some (.int .i64 x.f) ∧ w.cell? ⟨g, i * 3 + 1, none⟩ = some (.int .i64 x.t) ∧ w.cell? ⟨g, i * 3 + 2, none⟩ = some x.d := by
  have hlt := (List.getElem?_eq_some_iff.1 hi).1
  rcases ho.2 with ⟨_, h0⟩ | ⟨g, cap, cur, rfl, hg, hh, hc, _⟩
  · omega
  · have hcell := ho.cells (g := g) rfl
    obtain ⟨h0, h1, h2⟩ := flat_get ss i x hi
    refine ⟨g, cap, rfl, hc, hg, (Array.getElem?_eq_some_iff.1 hh).1, ?_, ?_, ?_⟩
    · have := hcell _ _ h0; rwa [addr_add, Nat.zero_add] at this
    · have := hcell _ _ h1; rwa [addr_add, Nat.zero_add] at this
    · have := hcell _ _ h2; rwa [addr_add, Nat.zero_add] at this
/-- What the reference's Move has put together when it has come to k. -/
def mvTake (rest : List LetV) (j : Nat) (l : LetV) (k : Nat) : List LetV := if k ≤ j then rest.take k else (rest.insertIdx j l).take (k + 1)
theorem mv_low {rest : List LetV} {j k : Nat} {l : LetV} (h : k ≤ j) : mvTake rest j l k = rest.take k := by unfold mvTake; rw [if_pos h]
theorem mv_high {rest : List LetV} {j k : Nat} {l : LetV} (h : j < k) : mvTake rest j l k = (rest.insertIdx j l).take (k + 1) := by unfold mvTake; rw [if_neg (by omega)]
theorem mv_at {rest : List LetV} {j : Nat} {l : LetV} (hj : j ≤ rest.length) : mvTake rest j l j ++ [l] = (rest.insertIdx j l).take (j + 1) := by
  rw [mv_low (Nat.le_refl _), List.take_add_one, ins_at _ _ _ hj]
  congr 1
  apply List.ext_getElem?
  intro k
  simp only [List.getElem?_take]
  by_cases h : k < j
  · simp [h, ins_low _ _ _ _ hj h]
  · simp [h]
theorem mv_more {rest : List LetV} {j k : Nat} {l x : LetV} (hj : j ≤ rest.length) (hx : rest[k]? = some x) (h : j < k) : mvTake rest j l k ++ [x] = mvTake rest j l (k + 1) := by
  rw [mv_high h, mv_high (by omega), List.take_add_one (i := k + 1), ins_high _ _ _ _ hj (by omega), show k + 1 - 1 = k from rfl, hx]
  rfl
theorem mv_next {rest : List LetV} {j : Nat} {l x : LetV} (hj : j ≤ rest.length) (hx : rest[j]? = some x) : (rest.insertIdx j l).take (j + 1) ++ [x] = mvTake rest j l (j + 1) := by
  rw [mv_high (by omega), List.take_add_one (i := j + 1), ins_high _ _ _ _ hj (by omega), show j + 1 - 1 = j from rfl, hx]
  rfl
theorem mv_less {rest : List LetV} {j k : Nat} {l x : LetV} (hx : rest[k]? = some x) (h : k < j) : mvTake rest j l k ++ [x] = mvTake rest j l (k + 1) := by
  rw [mv_low (by omega), mv_low (by omega), List.take_add_one, hx]
  rfl
theorem mv_len {rest : List LetV} {j k : Nat} {l : LetV} (hj : j ≤ rest.length) : (mvTake rest j l k).length ≤ rest.length + 1 := by
  unfold mvTake
  split
  · simp; omega
  · have := ins_len rest j l hj
    simp
    omega
theorem mv_all {rest : List LetV} {j k : Nat} {l : LetV} (hj : j ≤ rest.length) (hk : rest.length ≤ k) (h : j < k) : mvTake rest j l k = rest.insertIdx j l := by
  rw [mv_high h]
  exact List.take_of_length_le (by have := ins_len rest j l hj; omega)

set_option maxRecDepth 100000 in
set_option maxHeartbeats 1600000 in
/-- The reference's Move, where there is no such place. -/
theorem rmove_no {base hb room : Nat} {v : Value} {ls : List LetV} (w : World) (hS : RBag base hb room v ls w) (i j : Int) (hij : ¬ ((0 ≤ i ∧ i < ls.length) ∧ (0 ≤ j ∧ j < ls.length))) :
    Calls Try.prog 37 #[.pointer (some ⟨hb, 0, none⟩), .int .i64 i, .int .i64 j] w fun e w' => e = .returned (.int .i64 40) ∧ w' = w := by
  have h1 := rin_any w hS i
  have h2 := rin_any w hS j
  by_cases hi : 0 ≤ i ∧ i < ls.length
  · rw [show (decide (0 ≤ i) && decide (i < ls.length)) = true from by simp; omega] at h1
    rw [show (decide (0 ≤ j) && decide (j < ls.length)) = false from by simp; omega] at h2
    clear hS hij hi
    go_enter Try.func37, Try.ntmps37
    go_wp2_with fail
    refine h1.mono ?_
    rintro e1 w1 ⟨rfl, rfl⟩
    go_wp2_with fail
    refine h2.mono ?_
    rintro e2 w2 ⟨rfl, rfl⟩
    go_wp2
    go_ret
    exact ⟨rfl, rfl⟩
  · rw [show (decide (0 ≤ i) && decide (i < ls.length)) = false from by simp; omega] at h1
    clear hS hij hi
    go_enter Try.func37, Try.ntmps37
    go_wp2_with fail
    refine h1.mono ?_
    rintro e1 w1 ⟨rfl, rfl⟩
    go_wp2
    go_ret
    exact ⟨rfl, rfl⟩

set_option maxRecDepth 100000 in
set_option maxHeartbeats 3200000 in
/-- The reference's Move. -/
theorem rmove_at {base hb room : Nat} {v : Value} {ls : List LetV} (w : World) (hS : RBag base hb room v ls w) (hroom : ls.length ≤ 1024) (hbase : base ≤ w.heap.size) (i j : Nat) (l : LetV) (hi : ls[i]? = some l) (hj : j < ls.length) :
    Calls Try.prog 37 #[.pointer (some ⟨hb, 0, none⟩), .int .i64 (i : Nat), .int .i64 (j : Nat)] w fun e w' => e = .returned (.int .i64 0) ∧ ∃ v', RBag base hb room v' ((ls.eraseIdx i).insertIdx j l) w' ∧ Stp hb v v' w w' := by
  have hil := (List.getElem?_eq_some_iff.1 hi).1
  have h1 := rin_any w hS i
  have h2 := rin_any w hS j
  rw [show (decide ((0 : Int) ≤ i) && decide ((i : Int) < ls.length)) = true from by simp; omega] at h1
  rw [show (decide ((0 : Int) ≤ j) && decide ((j : Int) < ls.length)) = true from by simp; omega] at h2
  have hwo := without_any w hS hroom i hil
  have hel := er_len ls i hil
  have hld : ∀ x ∈ ls, x.d.oneCell' = true := fun x hx => by obtain ⟨_, _, h, _⟩ := own_slice (hS.dat x hx); rw [h]; rfl
  go_enter Try.func37, Try.ntmps37
  go_wp2_with fail
  refine h1.mono ?_
  rintro e1 w1 ⟨rfl, rfl⟩
  go_wp2_with fail
  refine h2.mono ?_
  rintro e2 w2 ⟨rfl, rfl⟩
  go_wp2_with fail
  refine hwo.mono ?_
  rintro e3 w3 ⟨v8, rfl, ho8, hb3⟩
  have hrl : ∀ x ∈ ls.eraseIdx i, x ∈ ls := fun x hx => List.mem_of_mem_eraseIdx hx
  generalize hrest : ls.eraseIdx i = rest at *
  obtain ⟨so, sc, rfl, _⟩ := own_slice ho8
  have HR : Hid _ := hrest
  clear h1 h2 hwo hrest
  go_wp2
  go_loopw [9, 10] (fun s k wr => ∃ k' : Nat, k' ≤ rest.length + 1 ∧ k = .int .i64 k' ∧ wr.ownsRow w3.heap.size 31 3 s (mvTake rest j l k').length (flat (mvTake rest j l k')) ∧ Below w3.heap.size w3 wr) (fun _ k _ => rest.length + 1 - (intOf k).toNat)
  case atStart => exact ⟨0, Nat.zero_le _, rfl, by rw [mv_low (Nat.zero_le _)]; simpa [flat] using World.ownsRow_nil _ _ _ _, Below.refl _ _⟩
  case round =>
    obtain ⟨k, hk, rfl, hown, hbl⟩ := hrel
    have hzr := hbl.size
    by_cases hlt : k ≤ rest.length
    · by_cases hkj : k = j
      · subst hkj
        have hS3 := (hS.below hb3).below hbl
        have hc1 := hS3.c1
        obtain ⟨g, cap, hv, hcap, m0, m1, m2⟩ := hS3.at_ hi
        rw [hv] at hc1
        obtain ⟨s', w', hr, ho', hg⟩ := append3 (w := wr.alloc (.cells #[.int .i64 l.f, .int .i64 l.t, l.d] 31)) (hown.alloc _) wr.heap.size l (heap_alloc_new wr _) (hld l (List.mem_of_getElem? hi)) (by have := mv_len (rest := rest) (j := k) (k := k) (l := l) (by omega); omega) (by simp; omega) 22
        have hb' : Below w3.heap.size w3 w' := hbl.trans (hg.ofAlloc.below (fun q hq => (hown.lt q hq).1) hzr)
        rw [mv_at (by omega)] at ho'
        by_cases hmore : k < rest.length
        · obtain ⟨x, hx⟩ : ∃ x, rest[k]? = some x := ⟨rest[k]'(by omega), List.getElem?_eq_getElem _⟩
          have hlenT : ((rest.insertIdx k l).take (k + 1)).length = (mvTake rest k l k).length + 1 := by rw [← mv_at (by omega)]; simp
          rw [← hlenT] at ho'
          have ho8' : w'.ownsRow w2.heap.size 31 3 (.slice so rest.length sc) rest.length (flat rest) := ownsRow_same ho8 fun q hq => hb'.block q (ho8.lt q hq).2
          obtain ⟨g2, cap2, hv2, _, _, _, n0, n1, n2⟩ := row_at0 ho8' hx
          cases hv2
          obtain ⟨s2, w4, hr2, ho2, hg2⟩ := append3 (w := w'.alloc (.cells #[.int .i64 x.f, .int .i64 x.t, x.d] 31)) (ho'.alloc _) w'.heap.size x (heap_alloc_new w' _) (hld x (hrl x (List.mem_of_getElem? hx))) (by have := mv_len (rest := rest) (j := k) (k := k) (l := l) (by omega); omega) (by simp; have := hb'.size; omega) 22
          have hb2 : Below w3.heap.size w3 w4 := hb'.trans (hg2.ofAlloc.below (fun q hq => (ho'.lt q hq).1) hb'.size)
          have ho3 : w4.ownsRow w3.heap.size 31 3 s2 (mvTake rest k l (k + 1)).length (flat (mvTake rest k l (k + 1))) := by
            rw [← mv_next (by omega) hx, List.length_append]
            exact ho2
          have HO : Hid _ := ho3
          clear hown hS3 ho' hg ho8' ho2 hg2 ho3 hb' hlenT
          go_wp2_with (first | (at_builtin; go_must (first | (refine wpList_append_run rfl _ _ rfl _ _ _ rfl rfl hr ?_) | (refine wpList_append_run rfl _ _ rfl _ _ _ rfl rfl hr2 ?_))) | fail)
          go_roundw
          case rel => exact ⟨k + 1, by omega, by go_num, HO.out, hb2⟩
          case measure => simp [intOf]; omega
        · have hke : rest.length ≤ k := by omega
          have hlenT : ((rest.insertIdx k l).take (k + 1)).length = (mvTake rest k l k).length + 1 := by rw [← mv_at (by omega)]; simp
          have e2 : (rest.insertIdx k l).take (k + 1) = mvTake rest k l (k + 1) := by
            rw [mv_all (by omega) (by omega) (by omega)]
            exact List.take_of_length_le (by have := ins_len rest k l (by omega); omega)
          rw [← hlenT, e2] at ho'
          have HO : Hid _ := ho'
          clear hown hS3 ho' hg hlenT e2
          go_wp2_with (first | (at_builtin; go_must (refine wpList_append_run rfl _ _ rfl _ _ _ rfl rfl hr ?_)) | fail)
          go_roundw
          case rel => exact ⟨k + 1, by omega, by go_num, HO.out, hb'⟩
          case measure => simp [intOf]; omega
      · have hkj' : ¬ ((k : Int) = (j : Int)) := by omega
        by_cases hmore : k < rest.length
        · obtain ⟨x, hx⟩ : ∃ x, rest[k]? = some x := ⟨rest[k]'(by omega), List.getElem?_eq_getElem _⟩
          have ho8' : wr.ownsRow w2.heap.size 31 3 (.slice so rest.length sc) rest.length (flat rest) := ownsRow_same ho8 fun q hq => hbl.block q (ho8.lt q hq).2
          obtain ⟨g2, cap2, hv2, _, _, _, n0, n1, n2⟩ := row_at0 ho8' hx
          cases hv2
          obtain ⟨s', w', hr, ho', hg⟩ := append3 (w := wr.alloc (.cells #[.int .i64 x.f, .int .i64 x.t, x.d] 31)) (hown.alloc _) wr.heap.size x (heap_alloc_new wr _) (hld x (hrl x (List.mem_of_getElem? hx))) (by have := mv_len (rest := rest) (j := j) (k := k) (l := l) (by omega); omega) (by simp; omega) 22
          have hb' : Below w3.heap.size w3 w' := hbl.trans (hg.ofAlloc.below (fun q hq => (hown.lt q hq).1) hzr)
          have ho3 : w'.ownsRow w3.heap.size 31 3 s' (mvTake rest j l (k + 1)).length (flat (mvTake rest j l (k + 1))) := by
            have e : mvTake rest j l k ++ [x] = mvTake rest j l (k + 1) := by
              by_cases h : k < j
              · exact mv_less hx h
              · exact mv_more (by omega) hx (by omega)
            rw [← e, List.length_append]
            exact ho'
          have HO : Hid _ := ho3
          clear hown ho' hg ho8' ho3
          go_wp2_with (first | (at_builtin; go_must (refine wpList_append_run rfl _ _ rfl _ _ _ rfl rfl hr ?_)) | fail)
          go_roundw
          case rel => exact ⟨k + 1, by omega, by go_num, HO.out, hb'⟩
          case measure => simp [intOf]; omega
        · have e : mvTake rest j l (k + 1) = mvTake rest j l k := by rw [mv_all (by omega) (by omega) (by omega), mv_all (by omega) (by omega) (by omega)]
          rw [← e] at hown
          have HO : Hid _ := hown
          clear hown e
          go_wp2
          go_roundw
          case rel => exact ⟨k + 1, by omega, by go_num, HO.out, hbl⟩
          case measure => simp [intOf]; omega
    · rw [mv_all (by omega) (by omega) (by omega)] at hown
      have hbw := hb3.trans (hbl.mono hb3.size)
      have hSr := hS.below hbw
      have hz3 := hb3.size
      have hB := hSr.put (ownsRow_mono hown (by omega)) fun x hx => by
        rw [insert_split _ _ _ (by omega)] at hx
        rcases List.mem_append.1 hx with q | q
        · exact hSr.dat x (hrl x (List.mem_of_mem_take q))
        · rcases List.mem_cons.1 q with rfl | q
          · exact hSr.dat x (List.mem_of_getElem? hi)
          · exact hSr.dat x (hrl x (List.mem_of_mem_drop q))
      have hst := Stp.putB (hb := hb) (v := v) hbw fun q hq => by have := (hown.lt q hq).1; omega
      have z1 := hSr.fz 1
      have z2 := hSr.c1
      obtain ⟨vo, vc, rfl, _⟩ := own_slice hown
      have HB : Hid _ := hB
      have HS : Hid _ := hst
      clear hS hSr hown hbl hB hst hb3 hbw ho8
      go_wp2
      go_ret
      rw [HR.out]
      exact ⟨rfl, _, HB.out, HS.out⟩
end Go.Proofs.Ytehjdkdoalmaeaa
