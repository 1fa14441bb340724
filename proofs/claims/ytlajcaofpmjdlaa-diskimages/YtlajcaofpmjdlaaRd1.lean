import Derived.Test.YtlajcaofpmjdlaaRd0
namespace Go.Proofs.Ytlajcaofpmjdlaa
open Go.RowKit Go.PlainAid
set_option linter.unusedVariables false
set_option linter.unusedSimpArgs false
theorem info92 : (Try.prog.info? 92).map (fun i => (i.zero, i.size, i.bytes)) = some (some (.agg #[.int .i64 0, .int .i64 0, .slice none 0 0]), 3, 40) := by kernel_rfl
section
variable {L rb : Nat} {fv lv : Value} {x : RV}
theorem RM.addLog {w : World} (h : RM L rb fv lv x w) (hL : L ≤ w.heap.size) (g : RE) (hr : w.ownsRow L 5 1 g.v 512 (g.bs.map B)) (hg : g.s < x.n ∧ g.m ≤ 512 ∧ g.bs.length = 512) (hl : x.log.length ≤ 100000) :
    ∃ v' w', (∀ ty, (Builtin.append_ #[84, 84] ty #[lv, .slice (some ⟨w.heap.size, 0, none⟩) 1 1]).run Try.prog (w.alloc (.cells #[.int .i64 (g.s : Int), .int .i64 (g.m : Int), g.v] 92)) = .ok v' w') ∧ Blk w' rb (x.cs fv lv) 86 ∧ RM L rb fv v' { x with log := x.log ++ [g] } (w'.setCell ⟨rb, 2, none⟩ v') ∧ Chg (fun k => lv.ownBlock = some k) w w' ∧ (∀ k, v'.ownBlock = some k → lv.ownBlock = some k ∨ w.heap.size ≤ k) ∧ (∃ ao c, v' = .slice ao (x.log.length + 1) c) := by
  obtain ⟨go, gc, hgv, _⟩ := own_slice hr
  have hone : ∀ u ∈ g.row, u.oneCell' = true := by
    intro u hu
    simp only [RE.row, List.mem_cons, List.not_mem_nil, or_false] at hu
    rcases hu with rfl | rfl | rfl
    · rfl
    · rfl
    · rw [hgv]; rfl
  obtain ⟨v', w', a, b, c, _⟩ := app_any (w := w.alloc (.cells #[.int .i64 (g.s : Int), .int .i64 (g.m : Int), g.v] 92)) 84 92 (.agg #[.int .i64 0, .int .i64 0, .slice none 0 0]) 3 40 Try.underlying84 info92 rfl (by decide) (by decide) (h.l.alloc _) ⟨w.heap.size, 0, none⟩ 1 1 g.row rfl (fun j uu hu => by
    have hB : Blk (w.alloc (.cells #[.int .i64 (g.s : Int), .int .i64 (g.m : Int), g.v] 92)) w.heap.size #[.int .i64 (g.s : Int), .int .i64 (g.m : Int), g.v] 92 := heap_alloc_new w _
    rw [addr_add, Nat.zero_add, hB.cell j]
    simpa [RE.row] using hu) hone (by omega) (by rw [World.size_alloc]; omega) 84
  have hgr := c.ofAlloc
  have hty : ∀ {u : Value} {n : Nat} {xs : List Value}, w.ownsRow L 5 1 u n xs → w'.ownsRow L 5 1 u n xs := fun hu => ownsRow_same hu (fun k e => hgr.chg.block k (ownsRow_lt hu e).2 (fun e2 => by
    obtain ⟨c1, q1⟩ := ownsRow_type hu e
    obtain ⟨c2, q2⟩ := ownsRow_type h.l e2
    exact Blk.ne_t q1 q2 (by decide) rfl))
  have hB' : Blk w' rb (x.cs fv lv) 86 := hgr.chg.blk h.b (fun e => by
    obtain ⟨c2, q2⟩ := ownsRow_type h.l e
    exact Blk.ne_t h.b q2 (by decide) rfl)
  have hch := setCell_chg w' rb 2 v'
  have hty2 : ∀ {u : Value} {n : Nat} {xs : List Value}, w.ownsRow L 5 1 u n xs → (w'.setCell ⟨rb, 2, none⟩ v').ownsRow L 5 1 u n xs := fun hu => ownsRow_same (hty hu) (fun k e => hch.block k (ownsRow_lt (hty hu) e).2 (row_ne0 (hty hu) e hB' (by decide)))
  obtain ⟨va, vc, hvv, _⟩ := own_slice b
  refine ⟨v', w', fun ty => a, hB', ⟨hB'.set 2 v', hty2 h.f, ?_, ?_, h.lo, h.nb, ?_, h.fl⟩, hgr.chg, hgr.at', ⟨va, vc, hvv⟩⟩
  · show (w'.setCell ⟨rb, 2, none⟩ v').ownsRow L 92 3 v' (x.log ++ [g]).length (flatR (x.log ++ [g]))
    have : flatR (x.log ++ [g]) = flatR x.log ++ g.row := by simp [flatR]
    rw [this, List.length_append]
    exact ownsRow_same b (fun k e => hch.block k (b.lt k e).2 (row_ne0 b e hB' (by decide)))
  · intro e he
    rcases List.mem_append.1 he with q | q
    · exact hty2 (h.d e q)
    · rw [List.mem_singleton.1 q]; exact hty2 hr
  · intro e he
    rcases List.mem_append.1 he with q | q
    · exact h.sz e q
    · rw [List.mem_singleton.1 q]; exact hg
def rwE (x : RV) (i : Int) (k : Nat) : Int := if x.on = false then 200 else if i < 0 ∨ (x.n : Int) ≤ i then 201 else if k ≠ 512 then 1 else 0
set_option maxRecDepth 100000 in
set_option maxHeartbeats 800000 in
theorem rwrite_no (i : Int) {ao : Option Addr} {k c : Nat} (w : World) (h : RM L rb fv lv x w) (hne : rwE x i k ≠ 0) : Calls Try.prog 46 #[.pointer (some ⟨rb, 0, none⟩), .int .i64 i, .slice ao k c] w fun e w' => e = .returned (.int .i64 (rwE x i k)) ∧ w' = w := by
  have c0 : w.cell? ⟨rb, 0, none⟩ = some (.int .i64 (x.n : Int)) := h.b.cell 0
  have c3 : w.cell? ⟨rb, 3, none⟩ = some (.bool x.on) := h.b.cell 3
  unfold rwE at hne ⊢
  cases ho : x.on with
  | false =>
    rw [ho] at c3
    clear h hne
    go_enter Try.func46, Try.ntmps46
    go_wp2_with fail
    go_ret
    exact ⟨by simp, rfl⟩
  | true =>
    rw [ho] at c3 hne
    clear h
    by_cases h1 : i < 0
    · clear hne
      go_enter Try.func46, Try.ntmps46
      go_wp2_with fail
      go_ret
      exact ⟨by simp [h1], rfl⟩
    · by_cases h2 : (x.n : Int) ≤ i
      · clear hne
        go_enter Try.func46, Try.ntmps46
        go_wp2_with fail
        go_ret
        exact ⟨by simp [h2], rfl⟩
      · have hk : k ≠ 512 := by
          intro e
          apply hne
          simp [h1, h2, e]
        have hk1 : ((k : Int) == 512) = false := by simp; omega
        have hk2 : ((k : Int) != 512) = true := by simp; omega
        have hk3 : ¬ ((k : Int) = 512) := by omega
        have HR : Hid ((if true = false then (200 : Int) else if i < 0 ∨ (x.n : Int) ≤ i then 201 else if k ≠ 512 then 1 else 0) = 1) := by rw [Hid]; simp [h1, h2, hk]
        clear hne
        go_enter Try.func46, Try.ntmps46
        go_wp2_with fail
        go_ret
        first | exact ⟨rfl, rfl⟩ | exact ⟨by rw [HR.out]; rfl, rfl⟩
def RV.wr (x : RV) (i : Nat) (v : Value) (bs : List UInt8) : RV := if x.left = 0 then { x with log := x.log ++ [⟨i, x.torn, v, bs⟩], on := false, left := -1 } else { x with log := x.log ++ [⟨i, 512, v, bs⟩], left := if 0 < x.left then x.left - 1 else x.left }
set_option maxRecDepth 100000 in
set_option maxHeartbeats 6400000 in
theorem rwrite_yes (i : Nat) {v : Value} {bs : List UInt8} (w : World) (h : RM L rb fv lv x w) (ho : x.on = true) (hi : i < x.n) (hl : bs.length = 512) (hb : By w v bs) (hlog : x.log.length ≤ 10000) (hlb : -1 ≤ x.left ∧ x.left ≤ 9223372036854775807) (htn : x.torn ≤ 512) :
    Calls Try.prog 46 #[.pointer (some ⟨rb, 0, none⟩), .int .i64 (i : Int), v] w fun e w' => ∃ lv' v', e = .returned (.int .i64 (if x.left = 0 then 200 else 0)) ∧ RM L rb fv lv' (x.wr i v' bs) w' ∧ Chg (rown rb fv lv x) w w' ∧ ∀ k, rown rb fv lv' (x.wr i v' bs) k → rown rb fv lv x k ∨ w.heap.size ≤ k := by
  obtain ⟨ao, k, c, hvv, hvl, _⟩ := id hb
  rw [hl] at hvl
  subst hvl
  subst hvv
  have HCP : Hid _ := copied_any w hb (by omega)
  have HM : Hid (RM L rb fv lv x w) := h
  have hLw : L ≤ w.heap.size := Nat.le_trans h.lo (Nat.le_of_lt h.b.lt)
  have HLW : Hid (L ≤ w.heap.size) := hLw
  have c0 : w.cell? ⟨rb, 0, none⟩ = some (.int .i64 (x.n : Int)) := h.b.cell 0
  have c3 : w.cell? ⟨rb, 3, none⟩ = some (.bool true) := by rw [← ho]; exact h.b.cell 3
  have hii : (i : Int) < (x.n : Int) := by omega
  have HHL : Hid (bs.length = 512) := hl
  have HHI : Hid (i < x.n) := hi
  have HHT : Hid (x.torn ≤ 512) := htn
  have HHG : Hid (x.log.length ≤ 10000) := hlog
  clear hb hLw h ho
  go_enter Try.func46, Try.ntmps46
  go_wp2_with fail
  refine Calls.mono HCP.out ?_
  rintro e w1 ⟨v1, rfl, hr1, hb1⟩
  clear HCP c0 c3
  rw [HHL.out] at hr1
  obtain ⟨vo, vc, hv1, _⟩ := own_slice hr1
  have hm1 := HM.out.more hb1
  have c4 : w1.cell? ⟨rb, 4, none⟩ = some (.int .i64 x.left) := hm1.b.cell 4
  have c5 : w1.cell? ⟨rb, 5, none⟩ = some (.int .i64 (x.torn : Int)) := hm1.b.cell 5
  have f4 : w1.frozen? ⟨rb, 4, none⟩ = false := hm1.b.frozen 4
  have hrl : rb < w1.heap.size := hm1.b.lt
  have HM1 : Hid (RM L rb fv lv x w1 ∧ w1.ownsRow w.heap.size 5 1 v1 512 (bs.map B) ∧ Below w.heap.size w w1) := ⟨hm1, hr1, hb1⟩
  have HV1 : Hid (v1 = .slice vo 512 vc) := hv1
  subst hv1
  have HVL : Hid (∀ k, (Value.slice vo 512 vc).ownBlock = some k → w.heap.size ≤ k) := fun k hk => (ownsRow_lt hr1 hk).1
  clear hm1 hr1 hb1
  by_cases hz : x.left = 0
  · rw [hz] at c4
    have HZ : Hid (x.left = 0) := hz
    obtain ⟨y, hy⟩ : ∃ y : RV, y = x := ⟨_, rfl⟩
    obtain ⟨q, hq⟩ : ∃ q, q = w1.heap.size := ⟨_, rfl⟩
    obtain ⟨X, hX⟩ : ∃ X, X = w1.alloc (.cells #[.int .i64 (i : Int), .int .i64 (x.torn : Int), .slice vo 512 vc] 92) := ⟨_, rfl⟩
    have hbX : Below w1.heap.size w1 X := by rw [hX]; exact (Below.refl _ _).alloc (Nat.le_refl _) _
    have hBX : Blk X q #[.int .i64 (i : Int), .int .i64 (x.torn : Int), .slice vo 512 vc] 92 := by rw [hX, hq]; exact heap_alloc_new w1 _
    have HMy : Hid (RM L rb fv lv y X) := by rw [Hid, hy]; exact HM1.out.1.more hbX
    have HRy : Hid (X.ownsRow L 5 1 (.slice vo 512 vc) 512 (bs.map B)) := ownsRow_mono (ownsRow_same HM1.out.2.1 (fun k hk => hbX.block k (ownsRow_lt HM1.out.2.1 hk).2)) HLW.out
    have HCX : Hid (X.cell? ⟨rb, 2, none⟩ = some lv ∧ X.cell? ⟨q, 0, none⟩ = some (.int .i64 (i : Int)) ∧ X.cell? ⟨q, 1, none⟩ = some (.int .i64 (x.torn : Int)) ∧ X.cell? ⟨q, 2, none⟩ = some (.slice vo 512 vc)) := ⟨(HM1.out.1.more hbX).b.cell 2, hBX.cell 0, hBX.cell 1, hBX.cell 2⟩
    have HLX : Hid (L ≤ X.heap.size) := Nat.le_trans HLW.out (Nat.le_trans HM1.out.2.2.size hbX.size)
    have HYN : Hid (i < y.n) := by rw [Hid, hy]; exact HHI.out
    have HYG : Hid (y.log.length ≤ 10000) := by rw [Hid, hy]; exact HHG.out
    have HMM : Hid (x.torn ≤ 512) := HHT.out
    have HQN : Hid (¬ lv.ownBlock = some q) := fun e => by
      have h1 := (HM1.out.1.l.lt q e).2
      omega
    have HWX : Hid (Below w.heap.size w X) := HM1.out.2.2.trans (hbX.mono HM1.out.2.2.size)
    have HYX : Hid (y = x) := hy
    go_wp2_with fail
    rw [← hX, ← hq]
    clear hX hq hbX hBX HM1 hy c4 c5 f4 hrl
    rename_i K hK
    try rw [show ∀ a : Act, a.put none undef = a from fun _ => rfl]
    refine wp_region_mix (fun wz : World => wz.cell? ⟨rb, 2, none⟩ = some lv ∧ wz.cell? ⟨q, 0, none⟩ = some (.int .i64 (i : Int)) ∧ wz.cell? ⟨q, 1, none⟩ = some (.int .i64 (x.torn : Int)) ∧ wz.cell? ⟨q, 2, none⟩ = some (.slice vo 512 vc)) (fun i => i == 6 || i == 7 || i == 10) 10 (by kernel_rfl) rfl (by kernel_rfl) (by kernel_rfl) (by kernel_rfl) ?_
    refine withFrP (N := 74) rfl ?_
    intro f0 F0 hff
    have ee0 : f0 0 = Value.pointer (some ⟨rb, 0, none⟩) := hff 0
    have ee7 : f0 7 = Value.pointer (some ⟨q, 0, none⟩) := hff 7
    clear hff
    have HCC : (fun wz : World => wz.cell? ⟨rb, 2, none⟩ = some lv ∧ wz.cell? ⟨q, 0, none⟩ = some (.int .i64 (i : Int)) ∧ wz.cell? ⟨q, 1, none⟩ = some (.int .i64 (x.torn : Int)) ∧ wz.cell? ⟨q, 2, none⟩ = some (.slice vo 512 vc)) (({ X with drawn := X.drawn + 1 } : World)) := HCX.out
    have HMX : RM L rb fv lv y (({ X with drawn := X.drawn + 1 } : World)) := HMy.out.same (fun _ _ => rfl)
    have HRX : (({ X with drawn := X.drawn + 1 } : World)).ownsRow L 5 1 (.slice vo 512 vc) 512 (bs.map B) := ownsRow_same HRy.out (fun _ _ => rfl)
    refine lyp F0 rfl HCC rfl (by omega) (wanted_none rfl) (v := Value.pointer (some ⟨rb, 0, none⟩)) (fun wr hwr => by simp only [execOp, (F0.eval 0 (by omega)).trans (show _ = Value.pointer (some ⟨rb, 0, none⟩) from by simp [upd, ee0, ee7])]; first | rfl | simp [go_sem]) fun F1 => ?_
    refine lyp F1 rfl HCC rfl (by omega) (wanted_none rfl) (v := Value.pointer (some ⟨rb, 0, none⟩)) (fun wr hwr => by simp only [execOp, (F1.eval 0 (by omega)).trans (show _ = Value.pointer (some ⟨rb, 0, none⟩) from by simp [upd, ee0, ee7])]; first | rfl | simp [go_sem]) fun F2 => ?_
    refine lyp F2 rfl HCC rfl (by omega) (wanted_none rfl) (v := Value.pointer (some ⟨rb, 0, none⟩)) (fun wr hwr => by simp only [execOp, (F2.eval 41 (by omega)).trans (show _ = Value.pointer (some ⟨rb, 0, none⟩) from by simp [upd, ee0, ee7])]; simp [go_sem]) fun F3 => ?_
    refine lyp F3 rfl HCC rfl (by omega) (wanted_none rfl) (v := Value.pointer (some ⟨rb, 2, none⟩)) (fun wr hwr => by simp only [execOp, (F3.eval 42 (by omega)).trans (show _ = Value.pointer (some ⟨rb, 0, none⟩) from by simp [upd, ee0, ee7])]; simp [go_sem]) fun F4 => ?_
    refine lyp F4 rfl HCC rfl (by omega) (wanted_none rfl) (v := lv) (fun wr hwr => by simp only [execOp, (F4.eval 43 (by omega)).trans (show _ = Value.pointer (some ⟨rb, 2, none⟩) from by simp [upd, ee0, ee7])]; simp [go_sem, hwr.1]) fun F5 => ?_
    refine lyp F5 rfl HCC rfl (by omega) (wanted_none rfl) (v := Value.agg #[.int .i64 (i : Int), .int .i64 (x.torn : Int), .slice vo 512 vc]) (fun wr hwr => by simp only [execOp, (F5.eval 7 (by omega)).trans (show _ = Value.pointer (some ⟨q, 0, none⟩) from by simp [upd, ee0, ee7])]; simp [go_sem, hwr.2.1, hwr.2.2.1, hwr.2.2.2]) fun F6 => ?_
    refine lep F6 rfl HCC rfl (by omega) (wanted_none rfl) (v := Value.slice (some ⟨X.heap.size, 0, none⟩) 1 1) (w1 := ((({ X with drawn := X.drawn + 1 } : World)).alloc (.cells #[.int .i64 (i : Int), .int .i64 (x.torn : Int), .slice vo 512 vc] 92))) (by simp only [execOp, List.map_toArray, List.map_cons, List.map_nil, (F6.eval 45 (by omega)).trans (show _ = Value.agg #[.int .i64 (i : Int), .int .i64 (x.torn : Int), .slice vo 512 vc] from by simp [upd, ee0, ee7])]; simp [go_sem]) fun F7 => ?_
    have hbY : Below X.heap.size (({ X with drawn := X.drawn + 1 } : World)) ((({ X with drawn := X.drawn + 1 } : World)).alloc (.cells #[.int .i64 (i : Int), .int .i64 (x.torn : Int), .slice vo 512 vc] 92)) := Below.alloc (Below.refl X.heap.size (({ X with drawn := X.drawn + 1 } : World))) (show X.heap.size ≤ (({ X with drawn := X.drawn + 1 } : World)).heap.size from Nat.le_refl _) _
    have HCY : (fun wz : World => wz.cell? ⟨rb, 2, none⟩ = some lv ∧ wz.cell? ⟨q, 0, none⟩ = some (.int .i64 (i : Int)) ∧ wz.cell? ⟨q, 1, none⟩ = some (.int .i64 (x.torn : Int)) ∧ wz.cell? ⟨q, 2, none⟩ = some (.slice vo 512 vc)) ((({ X with drawn := X.drawn + 1 } : World)).alloc (.cells #[.int .i64 (i : Int), .int .i64 (x.torn : Int), .slice vo 512 vc] 92)) := ⟨(hbY.cell (World.block_lt_of_cell? _ _ HCC.1)).trans HCC.1, (hbY.cell (World.block_lt_of_cell? _ _ HCC.2.1)).trans HCC.2.1, (hbY.cell (World.block_lt_of_cell? _ _ HCC.2.2.1)).trans HCC.2.2.1, (hbY.cell (World.block_lt_of_cell? _ _ HCC.2.2.2)).trans HCC.2.2.2⟩
    obtain ⟨v8, w8, hr8, hB8, hM8, hc8, hat8, ao8, c8, hv8⟩ := HMX.addLog HLX.out ⟨i, x.torn, .slice vo 512 vc, bs⟩ HRX ⟨HYN.out, HMM.out, HHL.out⟩ (by have := HYG.out; omega)
    replace hr8 : ∀ ty, (Builtin.append_ #[84, 84] ty #[lv, .slice (some ⟨X.heap.size, 0, none⟩) 1 1]).run Try.prog ((({ X with drawn := X.drawn + 1 } : World)).alloc (.cells #[.int .i64 (i : Int), .int .i64 (x.torn : Int), .slice vo 512 vc] 92)) = .ok v8 w8 := hr8
    have hq8 : ∀ _ : Nat, w8.heap[q]? = (({ X with drawn := X.drawn + 1 } : World)).heap[q]? := fun _ => hc8.block q (World.block_lt_of_cell? _ _ HCC.2.1) HQN.out
    have HC9 : (fun wz : World => wz.cell? ⟨rb, 2, none⟩ = some lv ∧ wz.cell? ⟨q, 0, none⟩ = some (.int .i64 (i : Int)) ∧ wz.cell? ⟨q, 1, none⟩ = some (.int .i64 (x.torn : Int)) ∧ wz.cell? ⟨q, 2, none⟩ = some (.slice vo 512 vc)) w8 := ⟨hB8.cell 2, (World.cell?_of_block (w := (({ X with drawn := X.drawn + 1 } : World))) (hq8 0)).trans HCC.2.1, (World.cell?_of_block (w := (({ X with drawn := X.drawn + 1 } : World))) (hq8 0)).trans HCC.2.2.1, (World.cell?_of_block (w := (({ X with drawn := X.drawn + 1 } : World))) (hq8 0)).trans HCC.2.2.2⟩
    have HV8 : Hid (v8 = .slice ao8 (y.log.length + 1) c8) := hv8
    subst hv8
    refine lep F7 rfl HCY rfl (by omega) (wanted_none rfl) (v := Value.slice ao8 (y.log.length + 1) c8) (w1 := w8) (by simp only [execOp, resolve, invoke, builtin, List.map_toArray, List.map_cons, List.map_nil, (F7.eval 44 (by omega)).trans (show _ = lv from by simp [upd, ee0, ee7]), (F7.eval 46 (by omega)).trans (show _ = Value.slice (some ⟨X.heap.size, 0, none⟩) 1 1 from by simp [upd, ee0, ee7])]; simp only [Sem.run_bind, Sem.run_pure, Result.andThen_ok, hr8]; try rfl) fun F8 => ?_
    refine lyp F8 rfl HC9 rfl (by omega) (wanted_none rfl) (v := Value.pointer (some ⟨rb, 0, none⟩)) (fun wr hwr => by simp only [execOp, (F8.eval 40 (by omega)).trans (show _ = Value.pointer (some ⟨rb, 0, none⟩) from by simp [upd, ee0, ee7])]; simp [go_sem]) fun F9 => ?_
    refine lyp F9 rfl HC9 rfl (by omega) (wanted_none rfl) (v := Value.pointer (some ⟨rb, 2, none⟩)) (fun wr hwr => by simp only [execOp, (F9.eval 48 (by omega)).trans (show _ = Value.pointer (some ⟨rb, 0, none⟩) from by simp [upd, ee0, ee7])]; simp [go_sem]) fun F10 => ?_
    refine lst rfl HC9 rfl (wanted_none rfl) (w1 := w8.setCell ⟨rb, 2, none⟩ (.slice ao8 (y.log.length + 1) c8)) (by simp only [execOp, (F10.eval 49 (by omega)).trans (show _ = Value.pointer (some ⟨rb, 2, none⟩) from by simp [upd, ee0, ee7]), (F10.eval 47 (by omega)).trans (show _ = Value.slice ao8 (y.log.length + 1) c8 from by simp [upd, ee0, ee7])]; simp [go_sem, hB8.frozen 2, show w8.cell? ⟨rb, 2, none⟩ = some lv from HC9.1]) ?_
    refine ⟨fun h => by omega, ?_⟩
    refine hK _ _ ?_
    clear F0 F1 F2 F3 F4 F5 F6 F7 F8 F9 F10 ee0 ee7 HCC HCY HC9
    simp only [Act.put, List.setIfInBounds_toArray, List.set_cons_succ, List.set_cons_zero]
    have HOF : Hid _ := roff_any _ hM8
    have hw8 : Chg (rown rb fv lv x) w (w8.setCell ⟨rb, 2, none⟩ (.slice ao8 (y.log.length + 1) c8)) := ((Chg.ofBelow _ HWX.out).drewN 1 |>.trans (hc8.mono (B := rown rb fv lv x) (fun k _ e => .inr (.inr (.inl e)))) (fun _ _ e => e)).trans (setCell_chg _ _ _ _) (fun k _ e => .inl e)
    have HW8 : Hid _ := hw8
    have HAT : Hid _ := hat8
    have HSX : Hid (w.heap.size ≤ X.heap.size) := HWX.out.size
    have HR0 : Hid (∀ k, (Value.slice vo 512 vc).ownBlock = some k → w.heap.size ≤ k) := HVL.out
    clear hr8 hB8 hM8 hc8 hat8 hw8 hbY hq8 HMX HRX
    go_wp2_with fail
    refine Calls.mono HOF.out ?_
    rintro e w9 ⟨rfl, hM9, hc9⟩
    have HF : Hid (RM L rb fv (.slice ao8 (y.log.length + 1) c8) (x.wr i (.slice vo 512 vc) bs) w9 ∧ Chg (rown rb fv lv x) w w9 ∧ ∀ k, rown rb fv (.slice ao8 (y.log.length + 1) c8) (x.wr i (.slice vo 512 vc) bs) k → rown rb fv lv x k ∨ w.heap.size ≤ k) := by
      have hyx := HYX.out
      have hwr : x.wr i (.slice vo 512 vc) bs = { y with log := y.log ++ [⟨i, x.torn, .slice vo 512 vc, bs⟩], on := false, left := -1 } := by unfold RV.wr; rw [if_pos HZ.out, hyx]
      refine ⟨by rw [hwr]; exact hM9, HW8.out.trans hc9 (fun k _ e => .inl e), fun k hk => ?_⟩
      rw [hwr] at hk
      rcases hk with e | e | e | ⟨g, hg, e⟩
      · exact .inl (.inl e)
      · exact .inl (.inr (.inl e))
      · rcases HAT.out k e with h1 | h1
        · exact .inl (.inr (.inr (.inl h1)))
        · exact .inr (Nat.le_trans HSX.out h1)
      · rcases List.mem_append.1 hg with h1 | h1
        · exact .inl (.inr (.inr (.inr ⟨g, by rw [← hyx]; exact h1, e⟩)))
        · rw [List.mem_singleton.1 h1] at e
          exact .inr (HR0.out k e)
    clear HOF hM9 hc9
    go_wp2_with fail
    go_ret
    refine ⟨?_, .slice ao8 (y.log.length + 1) c8, .slice vo 512 vc, HF.out.1, HF.out.2.1, HF.out.2.2⟩
    first | rfl | (rw [if_pos HZ.out]; rfl)
  · have hzb : (x.left == 0) = false := by simpa using hz
    by_cases hneg : x.left < 0
    · have hlt0 : ¬ (0 : Int) < x.left := by omega
      obtain ⟨y, hy⟩ : ∃ y : RV, y = x := ⟨_, rfl⟩
      obtain ⟨q, hq⟩ : ∃ q, q = w1.heap.size := ⟨_, rfl⟩
      obtain ⟨X, hX⟩ : ∃ X, X = w1.alloc (.cells #[.int .i64 (i : Int), .int .i64 512, .slice vo 512 vc] 92) := ⟨_, rfl⟩
      have hbX : Below w1.heap.size w1 X := by rw [hX]; exact (Below.refl _ _).alloc (Nat.le_refl _) _
      have hBX : Blk X q #[.int .i64 (i : Int), .int .i64 512, .slice vo 512 vc] 92 := by rw [hX, hq]; exact heap_alloc_new w1 _
      have hmX : RM L rb fv lv y X := by rw [hy]; exact HM1.out.1.more hbX
      have hcX : Chg (fun k => k = rb) w1 X := Chg.ofBelow _ hbX
      have HYX : Hid (y = { x with left := if 0 < x.left then x.left - 1 else x.left }) := by rw [Hid, hy, if_neg hlt0]
      have hyn : y.n = x.n ∧ y.log = x.log := by rw [hy]; exact ⟨rfl, rfl⟩
      have HRy : Hid (X.ownsRow L 5 1 (.slice vo 512 vc) 512 (bs.map B)) := ownsRow_mono (ownsRow_same HM1.out.2.1 (fun k hk => hcX.block k (ownsRow_lt HM1.out.2.1 hk).2 (row_ne0 HM1.out.2.1 hk HM1.out.1.b (by decide)))) HLW.out
      have HCX : Hid (X.cell? ⟨rb, 2, none⟩ = some lv ∧ X.cell? ⟨q, 0, none⟩ = some (.int .i64 (i : Int)) ∧ X.cell? ⟨q, 1, none⟩ = some (.int .i64 512) ∧ X.cell? ⟨q, 2, none⟩ = some (.slice vo 512 vc)) := ⟨hmX.b.cell 2, hBX.cell 0, hBX.cell 1, hBX.cell 2⟩
      have HMy : Hid (RM L rb fv lv y X) := hmX
      have HLX : Hid (L ≤ X.heap.size) := Nat.le_trans HLW.out (Nat.le_trans HM1.out.2.2.size hcX.size)
      have HYN : Hid (i < y.n) := by rw [Hid, hyn.1]; exact HHI.out
      have HYG : Hid (y.log.length ≤ 10000) := by rw [Hid, hyn.2]; exact HHG.out
      have HMM : Hid (512 ≤ 512) := Nat.le_refl _
      have HQN : Hid (¬ lv.ownBlock = some q) := fun e => by
        have h1 := (HM1.out.1.l.lt q e).2
        omega
      have HWX : Hid (Chg (rown rb fv lv x) w X) := (Chg.ofBelow _ HM1.out.2.2).trans hcX (fun k _ e => .inl e)
      have HYL : Hid (y.log = x.log) := hyn.2
      go_wp2_with fail
      first | rw [← hX] | skip
      rw [← hq]
      clear hX hq hBX HM1 hy c4 c5 f4 hrl hmX hcX hyn hbX
      rename_i K hK
      try rw [show ∀ a : Act, a.put none undef = a from fun _ => rfl]
      refine wp_region_mix (fun wz : World => wz.cell? ⟨rb, 2, none⟩ = some lv ∧ wz.cell? ⟨q, 0, none⟩ = some (.int .i64 (i : Int)) ∧ wz.cell? ⟨q, 1, none⟩ = some (.int .i64 512) ∧ wz.cell? ⟨q, 2, none⟩ = some (.slice vo 512 vc)) (fun i => i == 6 || i == 7 || i == 10) 10 (by kernel_rfl) rfl (by kernel_rfl) (by kernel_rfl) (by kernel_rfl) ?_
      refine withFrP (N := 74) rfl ?_
      intro f0 F0 hff
      have ee0 : f0 0 = Value.pointer (some ⟨rb, 0, none⟩) := hff 0
      have ee7 : f0 7 = Value.pointer (some ⟨q, 0, none⟩) := hff 7
      clear hff
      have HCC : (fun wz : World => wz.cell? ⟨rb, 2, none⟩ = some lv ∧ wz.cell? ⟨q, 0, none⟩ = some (.int .i64 (i : Int)) ∧ wz.cell? ⟨q, 1, none⟩ = some (.int .i64 512) ∧ wz.cell? ⟨q, 2, none⟩ = some (.slice vo 512 vc)) (({ X with drawn := X.drawn + 1 } : World)) := HCX.out
      have HMX : RM L rb fv lv y (({ X with drawn := X.drawn + 1 } : World)) := HMy.out.same (fun _ _ => rfl)
      have HRX : (({ X with drawn := X.drawn + 1 } : World)).ownsRow L 5 1 (.slice vo 512 vc) 512 (bs.map B) := ownsRow_same HRy.out (fun _ _ => rfl)
      refine lyp F0 rfl HCC rfl (by omega) (wanted_none rfl) (v := Value.pointer (some ⟨rb, 0, none⟩)) (fun wr hwr => by simp only [execOp, (F0.eval 0 (by omega)).trans (show _ = Value.pointer (some ⟨rb, 0, none⟩) from by simp [upd, ee0, ee7])]; first | rfl | simp [go_sem]) fun F1 => ?_
      refine lyp F1 rfl HCC rfl (by omega) (wanted_none rfl) (v := Value.pointer (some ⟨rb, 0, none⟩)) (fun wr hwr => by simp only [execOp, (F1.eval 0 (by omega)).trans (show _ = Value.pointer (some ⟨rb, 0, none⟩) from by simp [upd, ee0, ee7])]; first | rfl | simp [go_sem]) fun F2 => ?_
      refine lyp F2 rfl HCC rfl (by omega) (wanted_none rfl) (v := Value.pointer (some ⟨rb, 0, none⟩)) (fun wr hwr => by simp only [execOp, (F2.eval 65 (by omega)).trans (show _ = Value.pointer (some ⟨rb, 0, none⟩) from by simp [upd, ee0, ee7])]; simp [go_sem]) fun F3 => ?_
      refine lyp F3 rfl HCC rfl (by omega) (wanted_none rfl) (v := Value.pointer (some ⟨rb, 2, none⟩)) (fun wr hwr => by simp only [execOp, (F3.eval 66 (by omega)).trans (show _ = Value.pointer (some ⟨rb, 0, none⟩) from by simp [upd, ee0, ee7])]; simp [go_sem]) fun F4 => ?_
      refine lyp F4 rfl HCC rfl (by omega) (wanted_none rfl) (v := lv) (fun wr hwr => by simp only [execOp, (F4.eval 67 (by omega)).trans (show _ = Value.pointer (some ⟨rb, 2, none⟩) from by simp [upd, ee0, ee7])]; simp [go_sem, hwr.1]) fun F5 => ?_
      refine lyp F5 rfl HCC rfl (by omega) (wanted_none rfl) (v := Value.agg #[.int .i64 (i : Int), .int .i64 512, .slice vo 512 vc]) (fun wr hwr => by simp only [execOp, (F5.eval 7 (by omega)).trans (show _ = Value.pointer (some ⟨q, 0, none⟩) from by simp [upd, ee0, ee7])]; simp [go_sem, hwr.2.1, hwr.2.2.1, hwr.2.2.2]) fun F6 => ?_
      refine lep F6 rfl HCC rfl (by omega) (wanted_none rfl) (v := Value.slice (some ⟨X.heap.size, 0, none⟩) 1 1) (w1 := ((({ X with drawn := X.drawn + 1 } : World)).alloc (.cells #[.int .i64 (i : Int), .int .i64 512, .slice vo 512 vc] 92))) (by simp only [execOp, List.map_toArray, List.map_cons, List.map_nil, (F6.eval 69 (by omega)).trans (show _ = Value.agg #[.int .i64 (i : Int), .int .i64 512, .slice vo 512 vc] from by simp [upd, ee0, ee7])]; simp [go_sem]) fun F7 => ?_
      have hbY : Below X.heap.size (({ X with drawn := X.drawn + 1 } : World)) ((({ X with drawn := X.drawn + 1 } : World)).alloc (.cells #[.int .i64 (i : Int), .int .i64 512, .slice vo 512 vc] 92)) := Below.alloc (Below.refl X.heap.size (({ X with drawn := X.drawn + 1 } : World))) (show X.heap.size ≤ (({ X with drawn := X.drawn + 1 } : World)).heap.size from Nat.le_refl _) _
      have HCY : (fun wz : World => wz.cell? ⟨rb, 2, none⟩ = some lv ∧ wz.cell? ⟨q, 0, none⟩ = some (.int .i64 (i : Int)) ∧ wz.cell? ⟨q, 1, none⟩ = some (.int .i64 512) ∧ wz.cell? ⟨q, 2, none⟩ = some (.slice vo 512 vc)) ((({ X with drawn := X.drawn + 1 } : World)).alloc (.cells #[.int .i64 (i : Int), .int .i64 512, .slice vo 512 vc] 92)) := ⟨(hbY.cell (World.block_lt_of_cell? _ _ HCC.1)).trans HCC.1, (hbY.cell (World.block_lt_of_cell? _ _ HCC.2.1)).trans HCC.2.1, (hbY.cell (World.block_lt_of_cell? _ _ HCC.2.2.1)).trans HCC.2.2.1, (hbY.cell (World.block_lt_of_cell? _ _ HCC.2.2.2)).trans HCC.2.2.2⟩
      obtain ⟨v8, w8, hr8, hB8, hM8, hc8, hat8, ao8, c8, hv8⟩ := HMX.addLog HLX.out ⟨i, 512, .slice vo 512 vc, bs⟩ HRX ⟨HYN.out, HMM.out, HHL.out⟩ (by have := HYG.out; omega)
      replace hr8 : ∀ ty, (Builtin.append_ #[84, 84] ty #[lv, .slice (some ⟨X.heap.size, 0, none⟩) 1 1]).run Try.prog ((({ X with drawn := X.drawn + 1 } : World)).alloc (.cells #[.int .i64 (i : Int), .int .i64 512, .slice vo 512 vc] 92)) = .ok v8 w8 := hr8
      have hq8 : ∀ _ : Nat, w8.heap[q]? = (({ X with drawn := X.drawn + 1 } : World)).heap[q]? := fun _ => hc8.block q (World.block_lt_of_cell? _ _ HCC.2.1) HQN.out
      have HC9 : (fun wz : World => wz.cell? ⟨rb, 2, none⟩ = some lv ∧ wz.cell? ⟨q, 0, none⟩ = some (.int .i64 (i : Int)) ∧ wz.cell? ⟨q, 1, none⟩ = some (.int .i64 512) ∧ wz.cell? ⟨q, 2, none⟩ = some (.slice vo 512 vc)) w8 := ⟨hB8.cell 2, (World.cell?_of_block (w := (({ X with drawn := X.drawn + 1 } : World))) (hq8 0)).trans HCC.2.1, (World.cell?_of_block (w := (({ X with drawn := X.drawn + 1 } : World))) (hq8 0)).trans HCC.2.2.1, (World.cell?_of_block (w := (({ X with drawn := X.drawn + 1 } : World))) (hq8 0)).trans HCC.2.2.2⟩
      have HV8 : Hid (v8 = .slice ao8 (y.log.length + 1) c8) := hv8
      subst hv8
      refine lep F7 rfl HCY rfl (by omega) (wanted_none rfl) (v := Value.slice ao8 (y.log.length + 1) c8) (w1 := w8) (by simp only [execOp, resolve, invoke, builtin, List.map_toArray, List.map_cons, List.map_nil, (F7.eval 68 (by omega)).trans (show _ = lv from by simp [upd, ee0, ee7]), (F7.eval 70 (by omega)).trans (show _ = Value.slice (some ⟨X.heap.size, 0, none⟩) 1 1 from by simp [upd, ee0, ee7])]; simp only [Sem.run_bind, Sem.run_pure, Result.andThen_ok, hr8]; try rfl) fun F8 => ?_
      refine lyp F8 rfl HC9 rfl (by omega) (wanted_none rfl) (v := Value.pointer (some ⟨rb, 0, none⟩)) (fun wr hwr => by simp only [execOp, (F8.eval 64 (by omega)).trans (show _ = Value.pointer (some ⟨rb, 0, none⟩) from by simp [upd, ee0, ee7])]; simp [go_sem]) fun F9 => ?_
      refine lyp F9 rfl HC9 rfl (by omega) (wanted_none rfl) (v := Value.pointer (some ⟨rb, 2, none⟩)) (fun wr hwr => by simp only [execOp, (F9.eval 72 (by omega)).trans (show _ = Value.pointer (some ⟨rb, 0, none⟩) from by simp [upd, ee0, ee7])]; simp [go_sem]) fun F10 => ?_
      refine lst rfl HC9 rfl (wanted_none rfl) (w1 := w8.setCell ⟨rb, 2, none⟩ (.slice ao8 (y.log.length + 1) c8)) (by simp only [execOp, (F10.eval 73 (by omega)).trans (show _ = Value.pointer (some ⟨rb, 2, none⟩) from by simp [upd, ee0, ee7]), (F10.eval 71 (by omega)).trans (show _ = Value.slice ao8 (y.log.length + 1) c8 from by simp [upd, ee0, ee7])]; simp [go_sem, hB8.frozen 2, show w8.cell? ⟨rb, 2, none⟩ = some lv from HC9.1]) ?_
      refine ⟨fun h => by omega, ?_⟩
      refine hK _ _ ?_
      clear F0 F1 F2 F3 F4 F5 F6 F7 F8 F9 F10 ee0 ee7 HCC HCY HC9
      simp only [Act.put, List.setIfInBounds_toArray, List.set_cons_succ, List.set_cons_zero]
      have HM8 : Hid _ := hM8
      have hw8 : Chg (rown rb fv lv x) w (w8.setCell ⟨rb, 2, none⟩ (.slice ao8 (y.log.length + 1) c8)) := (HWX.out.drewN 1 |>.trans (hc8.mono (B := rown rb fv lv x) (fun k _ e => .inr (.inr (.inl e)))) (fun _ _ e => e)).trans (setCell_chg _ _ _ _) (fun k _ e => .inl e)
      have HF : Hid (RM L rb fv (.slice ao8 (y.log.length + 1) c8) (x.wr i (.slice vo 512 vc) bs) (w8.setCell ⟨rb, 2, none⟩ (.slice ao8 (y.log.length + 1) c8)) ∧ Chg (rown rb fv lv x) w (w8.setCell ⟨rb, 2, none⟩ (.slice ao8 (y.log.length + 1) c8)) ∧ ∀ k, rown rb fv (.slice ao8 (y.log.length + 1) c8) (x.wr i (.slice vo 512 vc) bs) k → rown rb fv lv x k ∨ w.heap.size ≤ k) := by
        have hyx := HYX.out
        have hwr : x.wr i (.slice vo 512 vc) bs = { y with log := y.log ++ [⟨i, 512, .slice vo 512 vc, bs⟩] } := by unfold RV.wr; rw [if_neg hz, hyx]
        refine ⟨by rw [hwr]; exact HM8.out, hw8, fun k hk => ?_⟩
        rw [hwr] at hk
        rcases hk with e | e | e | ⟨g, hg, e⟩
        · exact .inl (.inl e)
        · exact .inl (.inr (.inl e))
        · rcases hat8 k e with h1 | h1
          · exact .inl (.inr (.inr (.inl h1)))
          · exact .inr (Nat.le_trans HWX.out.size h1)
        · rcases List.mem_append.1 hg with h1 | h1
          · exact .inl (.inr (.inr (.inr ⟨g, by rw [← HYL.out]; exact h1, e⟩)))
          · rw [List.mem_singleton.1 h1] at e
            exact .inr (HVL.out k e)
      have HZ : Hid (¬ x.left = 0) := hz
      clear hr8 hB8 hM8 hc8 hat8 hw8 hbY hq8 HMX HRX
      go_wp2_with fail
      go_ret
      refine ⟨?_, .slice ao8 (y.log.length + 1) c8, .slice vo 512 vc, HF.out.1, HF.out.2.1, HF.out.2.2⟩
      first | rfl | (rw [if_neg HZ.out]; rfl)
    · have hlt0 : (0 : Int) < x.left := by omega
      obtain ⟨y, hy⟩ : ∃ y : RV, y = { x with left := x.left - 1 } := ⟨_, rfl⟩
      obtain ⟨q, hq⟩ : ∃ q, q = w1.heap.size := ⟨_, rfl⟩
      obtain ⟨Z, hZ⟩ : ∃ Z, Z = w1.setCell ⟨rb, 4, none⟩ (.int .i64 (x.left - 1)) := ⟨_, rfl⟩
      have hcZ : Chg (fun k => k = rb) w1 Z := by rw [hZ]; exact setCell_chg _ _ _ _
      have hmZ : RM L rb fv lv y Z := by rw [hy, hZ]; exact HM1.out.1.setBox 4 _ rfl rfl rfl rfl
      have hsZ : Z.heap.size = w1.heap.size := by rw [hZ]; simp [World.setCell]
      obtain ⟨X, hX⟩ : ∃ X, X = Z.alloc (.cells #[.int .i64 (i : Int), .int .i64 512, .slice vo 512 vc] 92) := ⟨_, rfl⟩
      have hbX : Below Z.heap.size Z X := by rw [hX]; exact (Below.refl _ _).alloc (Nat.le_refl _) _
      have hBX : Blk X q #[.int .i64 (i : Int), .int .i64 512, .slice vo 512 vc] 92 := by rw [hX, hq, ← hsZ]; exact heap_alloc_new Z _
      have hmX : RM L rb fv lv y X := hmZ.more hbX
      have hcX : Chg (fun k => k = rb) w1 X := hcZ.trans (Chg.ofBelow (fun k => k = rb) hbX) (fun _ _ e => e)
      have HYX : Hid (y = { x with left := if 0 < x.left then x.left - 1 else x.left }) := by rw [Hid, hy, if_pos hlt0]
      have hyn : y.n = x.n ∧ y.log = x.log := by rw [hy]; exact ⟨rfl, rfl⟩
      rw [hZ] at hX
      clear hsZ hcZ hmZ
      have HRy : Hid (X.ownsRow L 5 1 (.slice vo 512 vc) 512 (bs.map B)) := ownsRow_mono (ownsRow_same HM1.out.2.1 (fun k hk => hcX.block k (ownsRow_lt HM1.out.2.1 hk).2 (row_ne0 HM1.out.2.1 hk HM1.out.1.b (by decide)))) HLW.out
      have HCX : Hid (X.cell? ⟨rb, 2, none⟩ = some lv ∧ X.cell? ⟨q, 0, none⟩ = some (.int .i64 (i : Int)) ∧ X.cell? ⟨q, 1, none⟩ = some (.int .i64 512) ∧ X.cell? ⟨q, 2, none⟩ = some (.slice vo 512 vc)) := ⟨hmX.b.cell 2, hBX.cell 0, hBX.cell 1, hBX.cell 2⟩
      have HMy : Hid (RM L rb fv lv y X) := hmX
      have HLX : Hid (L ≤ X.heap.size) := Nat.le_trans HLW.out (Nat.le_trans HM1.out.2.2.size hcX.size)
      have HYN : Hid (i < y.n) := by rw [Hid, hyn.1]; exact HHI.out
      have HYG : Hid (y.log.length ≤ 10000) := by rw [Hid, hyn.2]; exact HHG.out
      have HMM : Hid (512 ≤ 512) := Nat.le_refl _
      have HQN : Hid (¬ lv.ownBlock = some q) := fun e => by
        have h1 := (HM1.out.1.l.lt q e).2
        omega
      have HWX : Hid (Chg (rown rb fv lv x) w X) := (Chg.ofBelow _ HM1.out.2.2).trans hcX (fun k _ e => .inl e)
      have HYL : Hid (y.log = x.log) := hyn.2
      go_wp2_with fail
      first | rw [← hX] | skip
      rw [← hq]
      clear hX hq hBX HM1 hy c4 c5 f4 hrl hmX hcX hyn hbX
      rename_i K hK
      try rw [show ∀ a : Act, a.put none undef = a from fun _ => rfl]
      refine wp_region_mix (fun wz : World => wz.cell? ⟨rb, 2, none⟩ = some lv ∧ wz.cell? ⟨q, 0, none⟩ = some (.int .i64 (i : Int)) ∧ wz.cell? ⟨q, 1, none⟩ = some (.int .i64 512) ∧ wz.cell? ⟨q, 2, none⟩ = some (.slice vo 512 vc)) (fun i => i == 6 || i == 7 || i == 10) 10 (by kernel_rfl) rfl (by kernel_rfl) (by kernel_rfl) (by kernel_rfl) ?_
      refine withFrP (N := 74) rfl ?_
      intro f0 F0 hff
      have ee0 : f0 0 = Value.pointer (some ⟨rb, 0, none⟩) := hff 0
      have ee7 : f0 7 = Value.pointer (some ⟨q, 0, none⟩) := hff 7
      clear hff
      have HCC : (fun wz : World => wz.cell? ⟨rb, 2, none⟩ = some lv ∧ wz.cell? ⟨q, 0, none⟩ = some (.int .i64 (i : Int)) ∧ wz.cell? ⟨q, 1, none⟩ = some (.int .i64 512) ∧ wz.cell? ⟨q, 2, none⟩ = some (.slice vo 512 vc)) (({ X with drawn := X.drawn + 1 } : World)) := HCX.out
      have HMX : RM L rb fv lv y (({ X with drawn := X.drawn + 1 } : World)) := HMy.out.same (fun _ _ => rfl)
      have HRX : (({ X with drawn := X.drawn + 1 } : World)).ownsRow L 5 1 (.slice vo 512 vc) 512 (bs.map B) := ownsRow_same HRy.out (fun _ _ => rfl)
      refine lyp F0 rfl HCC rfl (by omega) (wanted_none rfl) (v := Value.pointer (some ⟨rb, 0, none⟩)) (fun wr hwr => by simp only [execOp, (F0.eval 0 (by omega)).trans (show _ = Value.pointer (some ⟨rb, 0, none⟩) from by simp [upd, ee0, ee7])]; first | rfl | simp [go_sem]) fun F1 => ?_
      refine lyp F1 rfl HCC rfl (by omega) (wanted_none rfl) (v := Value.pointer (some ⟨rb, 0, none⟩)) (fun wr hwr => by simp only [execOp, (F1.eval 0 (by omega)).trans (show _ = Value.pointer (some ⟨rb, 0, none⟩) from by simp [upd, ee0, ee7])]; first | rfl | simp [go_sem]) fun F2 => ?_
      refine lyp F2 rfl HCC rfl (by omega) (wanted_none rfl) (v := Value.pointer (some ⟨rb, 0, none⟩)) (fun wr hwr => by simp only [execOp, (F2.eval 65 (by omega)).trans (show _ = Value.pointer (some ⟨rb, 0, none⟩) from by simp [upd, ee0, ee7])]; simp [go_sem]) fun F3 => ?_
      refine lyp F3 rfl HCC rfl (by omega) (wanted_none rfl) (v := Value.pointer (some ⟨rb, 2, none⟩)) (fun wr hwr => by simp only [execOp, (F3.eval 66 (by omega)).trans (show _ = Value.pointer (some ⟨rb, 0, none⟩) from by simp [upd, ee0, ee7])]; simp [go_sem]) fun F4 => ?_
      refine lyp F4 rfl HCC rfl (by omega) (wanted_none rfl) (v := lv) (fun wr hwr => by simp only [execOp, (F4.eval 67 (by omega)).trans (show _ = Value.pointer (some ⟨rb, 2, none⟩) from by simp [upd, ee0, ee7])]; simp [go_sem, hwr.1]) fun F5 => ?_
      refine lyp F5 rfl HCC rfl (by omega) (wanted_none rfl) (v := Value.agg #[.int .i64 (i : Int), .int .i64 512, .slice vo 512 vc]) (fun wr hwr => by simp only [execOp, (F5.eval 7 (by omega)).trans (show _ = Value.pointer (some ⟨q, 0, none⟩) from by simp [upd, ee0, ee7])]; simp [go_sem, hwr.2.1, hwr.2.2.1, hwr.2.2.2]) fun F6 => ?_
      refine lep F6 rfl HCC rfl (by omega) (wanted_none rfl) (v := Value.slice (some ⟨X.heap.size, 0, none⟩) 1 1) (w1 := ((({ X with drawn := X.drawn + 1 } : World)).alloc (.cells #[.int .i64 (i : Int), .int .i64 512, .slice vo 512 vc] 92))) (by simp only [execOp, List.map_toArray, List.map_cons, List.map_nil, (F6.eval 69 (by omega)).trans (show _ = Value.agg #[.int .i64 (i : Int), .int .i64 512, .slice vo 512 vc] from by simp [upd, ee0, ee7])]; simp [go_sem]) fun F7 => ?_
      have hbY : Below X.heap.size (({ X with drawn := X.drawn + 1 } : World)) ((({ X with drawn := X.drawn + 1 } : World)).alloc (.cells #[.int .i64 (i : Int), .int .i64 512, .slice vo 512 vc] 92)) := Below.alloc (Below.refl X.heap.size (({ X with drawn := X.drawn + 1 } : World))) (show X.heap.size ≤ (({ X with drawn := X.drawn + 1 } : World)).heap.size from Nat.le_refl _) _
      have HCY : (fun wz : World => wz.cell? ⟨rb, 2, none⟩ = some lv ∧ wz.cell? ⟨q, 0, none⟩ = some (.int .i64 (i : Int)) ∧ wz.cell? ⟨q, 1, none⟩ = some (.int .i64 512) ∧ wz.cell? ⟨q, 2, none⟩ = some (.slice vo 512 vc)) ((({ X with drawn := X.drawn + 1 } : World)).alloc (.cells #[.int .i64 (i : Int), .int .i64 512, .slice vo 512 vc] 92)) := ⟨(hbY.cell (World.block_lt_of_cell? _ _ HCC.1)).trans HCC.1, (hbY.cell (World.block_lt_of_cell? _ _ HCC.2.1)).trans HCC.2.1, (hbY.cell (World.block_lt_of_cell? _ _ HCC.2.2.1)).trans HCC.2.2.1, (hbY.cell (World.block_lt_of_cell? _ _ HCC.2.2.2)).trans HCC.2.2.2⟩
      obtain ⟨v8, w8, hr8, hB8, hM8, hc8, hat8, ao8, c8, hv8⟩ := HMX.addLog HLX.out ⟨i, 512, .slice vo 512 vc, bs⟩ HRX ⟨HYN.out, HMM.out, HHL.out⟩ (by have := HYG.out; omega)
      replace hr8 : ∀ ty, (Builtin.append_ #[84, 84] ty #[lv, .slice (some ⟨X.heap.size, 0, none⟩) 1 1]).run Try.prog ((({ X with drawn := X.drawn + 1 } : World)).alloc (.cells #[.int .i64 (i : Int), .int .i64 512, .slice vo 512 vc] 92)) = .ok v8 w8 := hr8
      have hq8 : ∀ _ : Nat, w8.heap[q]? = (({ X with drawn := X.drawn + 1 } : World)).heap[q]? := fun _ => hc8.block q (World.block_lt_of_cell? _ _ HCC.2.1) HQN.out
      have HC9 : (fun wz : World => wz.cell? ⟨rb, 2, none⟩ = some lv ∧ wz.cell? ⟨q, 0, none⟩ = some (.int .i64 (i : Int)) ∧ wz.cell? ⟨q, 1, none⟩ = some (.int .i64 512) ∧ wz.cell? ⟨q, 2, none⟩ = some (.slice vo 512 vc)) w8 := ⟨hB8.cell 2, (World.cell?_of_block (w := (({ X with drawn := X.drawn + 1 } : World))) (hq8 0)).trans HCC.2.1, (World.cell?_of_block (w := (({ X with drawn := X.drawn + 1 } : World))) (hq8 0)).trans HCC.2.2.1, (World.cell?_of_block (w := (({ X with drawn := X.drawn + 1 } : World))) (hq8 0)).trans HCC.2.2.2⟩
      have HV8 : Hid (v8 = .slice ao8 (y.log.length + 1) c8) := hv8
      subst hv8
      refine lep F7 rfl HCY rfl (by omega) (wanted_none rfl) (v := Value.slice ao8 (y.log.length + 1) c8) (w1 := w8) (by simp only [execOp, resolve, invoke, builtin, List.map_toArray, List.map_cons, List.map_nil, (F7.eval 68 (by omega)).trans (show _ = lv from by simp [upd, ee0, ee7]), (F7.eval 70 (by omega)).trans (show _ = Value.slice (some ⟨X.heap.size, 0, none⟩) 1 1 from by simp [upd, ee0, ee7])]; simp only [Sem.run_bind, Sem.run_pure, Result.andThen_ok, hr8]; try rfl) fun F8 => ?_
      refine lyp F8 rfl HC9 rfl (by omega) (wanted_none rfl) (v := Value.pointer (some ⟨rb, 0, none⟩)) (fun wr hwr => by simp only [execOp, (F8.eval 64 (by omega)).trans (show _ = Value.pointer (some ⟨rb, 0, none⟩) from by simp [upd, ee0, ee7])]; simp [go_sem]) fun F9 => ?_
      refine lyp F9 rfl HC9 rfl (by omega) (wanted_none rfl) (v := Value.pointer (some ⟨rb, 2, none⟩)) (fun wr hwr => by simp only [execOp, (F9.eval 72 (by omega)).trans (show _ = Value.pointer (some ⟨rb, 0, none⟩) from by simp [upd, ee0, ee7])]; simp [go_sem]) fun F10 => ?_
      refine lst rfl HC9 rfl (wanted_none rfl) (w1 := w8.setCell ⟨rb, 2, none⟩ (.slice ao8 (y.log.length + 1) c8)) (by simp only [execOp, (F10.eval 73 (by omega)).trans (show _ = Value.pointer (some ⟨rb, 2, none⟩) from by simp [upd, ee0, ee7]), (F10.eval 71 (by omega)).trans (show _ = Value.slice ao8 (y.log.length + 1) c8 from by simp [upd, ee0, ee7])]; simp [go_sem, hB8.frozen 2, show w8.cell? ⟨rb, 2, none⟩ = some lv from HC9.1]) ?_
      refine ⟨fun h => by omega, ?_⟩
      refine hK _ _ ?_
      clear F0 F1 F2 F3 F4 F5 F6 F7 F8 F9 F10 ee0 ee7 HCC HCY HC9
      simp only [Act.put, List.setIfInBounds_toArray, List.set_cons_succ, List.set_cons_zero]
      have HM8 : Hid _ := hM8
      have hw8 : Chg (rown rb fv lv x) w (w8.setCell ⟨rb, 2, none⟩ (.slice ao8 (y.log.length + 1) c8)) := (HWX.out.drewN 1 |>.trans (hc8.mono (B := rown rb fv lv x) (fun k _ e => .inr (.inr (.inl e)))) (fun _ _ e => e)).trans (setCell_chg _ _ _ _) (fun k _ e => .inl e)
      have HF : Hid (RM L rb fv (.slice ao8 (y.log.length + 1) c8) (x.wr i (.slice vo 512 vc) bs) (w8.setCell ⟨rb, 2, none⟩ (.slice ao8 (y.log.length + 1) c8)) ∧ Chg (rown rb fv lv x) w (w8.setCell ⟨rb, 2, none⟩ (.slice ao8 (y.log.length + 1) c8)) ∧ ∀ k, rown rb fv (.slice ao8 (y.log.length + 1) c8) (x.wr i (.slice vo 512 vc) bs) k → rown rb fv lv x k ∨ w.heap.size ≤ k) := by
        have hyx := HYX.out
        have hwr : x.wr i (.slice vo 512 vc) bs = { y with log := y.log ++ [⟨i, 512, .slice vo 512 vc, bs⟩] } := by unfold RV.wr; rw [if_neg hz, hyx]
        refine ⟨by rw [hwr]; exact HM8.out, hw8, fun k hk => ?_⟩
        rw [hwr] at hk
        rcases hk with e | e | e | ⟨g, hg, e⟩
        · exact .inl (.inl e)
        · exact .inl (.inr (.inl e))
        · rcases hat8 k e with h1 | h1
          · exact .inl (.inr (.inr (.inl h1)))
          · exact .inr (Nat.le_trans HWX.out.size h1)
        · rcases List.mem_append.1 hg with h1 | h1
          · exact .inl (.inr (.inr (.inr ⟨g, by rw [← HYL.out]; exact h1, e⟩)))
          · rw [List.mem_singleton.1 h1] at e
            exact .inr (HVL.out k e)
      have HZ : Hid (¬ x.left = 0) := hz
      clear hr8 hB8 hM8 hc8 hat8 hw8 hbY hq8 HMX HRX
      go_wp2_with fail
      go_ret
      refine ⟨?_, .slice ao8 (y.log.length + 1) c8, .slice vo 512 vc, HF.out.1, HF.out.2.1, HF.out.2.2⟩
      first | rfl | (rw [if_neg HZ.out]; rfl)
end
end Go.Proofs.Ytlajcaofpmjdlaa
