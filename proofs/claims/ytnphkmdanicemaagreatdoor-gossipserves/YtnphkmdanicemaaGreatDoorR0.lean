import Derived.Test.YtnphkmdanicemaaGreatDoorG1
import Derived.Test.YtnphkmdanicemaaGreatDoorVApp
import Derived.Test.YtnphkmdanicemaaGreatDoorVRe
namespace Go.Proofs.YtnphkmdanicemaaGreatDoor
open Go.RowKit Go.PlainAid Go.MapKept
set_option linter.unusedVariables false
set_option linter.unusedSimpArgs false
abbrev RE := List UInt8 × Int × Int × Bool
def reC (e : RE) : List Value := [.string ⟨e.1.toArray⟩, .int .i64 e.2.1, .int .i64 e.2.2.1, .bool e.2.2.2]
def flatG (A : List RE) : List Value := A.flatMap reC
theorem flatG_app (A : List RE) (e : RE) : flatG (A ++ [e]) = flatG A ++ reC e := by simp [flatG]
theorem info99 : (Tryz.prog.info? 127).map (fun i => (i.zero, i.size, i.bytes)) = some (some (.agg #[.string ⟨#[]⟩, .int .i64 0, .int .i64 0, .bool false]), 4, 40) := by kernel_rfl
/-- The document's gossip in memory. -/
structure RGs (L rb : Nat) (me n : Int) (v : Value) (A : List RE) (w : World) : Prop where
  blk : Blk w rb #[.int .i64 me, .int .i64 n, v] 119
  row : w.ownsRow L 127 4 v A.length (flatG A)
  lo : L ≤ rb
section
variable {L rb : Nat} {me n : Int} {v : Value} {A : List RE} {w w' Y : World}
theorem RGs.keep (h : RGs L rb me n v A w) (h1 : w'.heap[rb]? = w.heap[rb]?) (h2 : ∀ g, v.ownBlock = some g → w'.heap[g]? = w.heap[g]?) : RGs L rb me n v A w' := ⟨h1.trans h.blk, ownsRow_same h.row h2, h.lo⟩
theorem RGs.more (h : RGs L rb me n v A w) (hb : Below w.heap.size w w') : RGs L rb me n v A w' := h.keep (hb.block _ h.blk.lt) (fun g hg => hb.block _ (ownsRow_lt h.row hg).2)
theorem RGs.own_ne {b : Nat} {D : Array Value} {T : TypeId} (h : RGs L rb me n v A w) (hB : Blk w b D T) (hT : T ≠ 127) : v.ownBlock ≠ some b := fun hh => by
  obtain ⟨cu, hcu⟩ := ownsRow_type h.row hh
  exact hB.ne_t (show Blk w b cu 127 from hcu) hT rfl
theorem RGs.push (h : RGs L rb me n v A Y) (hA : A.length ≤ 200000) (e : RE) :
    ∃ ao5 cap5 w5, (∀ ty, (Builtin.append_ #[117, 117] ty #[v, .slice (some ⟨Y.heap.size, 0, none⟩) 1 1]).run Tryz.prog (Y.alloc (.cells #[.string ⟨e.1.toArray⟩, .int .i64 e.2.1, .int .i64 e.2.2.1, .bool e.2.2.2] 127)) = .ok (.slice ao5 (A.length + 1) cap5) w5) ∧
      Chg (fun k => v.ownBlock = some k) Y w5 ∧ w5.cell? ⟨rb, 2, none⟩ = some v ∧ w5.frozen? ⟨rb, 2, none⟩ = false ∧
      RGs L rb me n (.slice ao5 (A.length + 1) cap5) (A ++ [e]) (w5.setCell ⟨rb, 2, none⟩ (.slice ao5 (A.length + 1) cap5)) ∧
      Chg (fun k => k = rb ∨ v.ownBlock = some k) Y (w5.setCell ⟨rb, 2, none⟩ (.slice ao5 (A.length + 1) cap5)) ∧
      ∀ g, (Value.slice ao5 (A.length + 1) cap5).ownBlock = some g → v.ownBlock = some g ∨ Y.heap.size ≤ g := by
  have hLY : L ≤ Y.heap.size := Nat.le_trans h.lo (Nat.le_of_lt h.blk.lt)
  obtain ⟨v', w5, h1, h2, h3⟩ := app_one 117 127 (.agg #[.string ⟨#[]⟩, .int .i64 0, .int .i64 0, .bool false]) 4 40 Tryz.underlying117 info99 rfl (by decide) (by decide) h.row #[.string ⟨e.1.toArray⟩, .int .i64 e.2.1, .int .i64 e.2.2.1, .bool e.2.2.2] rfl (fun u hu => by simp at hu; rcases hu with rfl | rfl | rfl | rfl <;> rfl) (by omega) hLY
  obtain ⟨ao5, cap5, hv, hc⟩ := own_slice h2
  subst hv
  have n1 : ¬ v.ownBlock = some rb := h.own_ne h.blk (by decide)
  have hB5 : Blk w5 rb #[.int .i64 me, .int .i64 n, v] 119 := h3.chg.blk h.blk n1
  have hs := setCell_chg w5 rb 2 (.slice ao5 (A.length + 1) cap5)
  have h2' : w5.ownsRow L 127 4 (.slice ao5 (A.length + 1) cap5) (A.length + 1) (flatG A ++ reC e) := h2
  refine ⟨ao5, cap5, w5, h1, h3.chg, hB5.cell 2, hB5.frozen 2, ⟨hB5.set 2 _, ?_, h.lo⟩, (h3.chg.mono (fun _ _ e => Or.inr e)).trans hs (fun _ _ e => Or.inl e), h3.at'⟩
  rw [flatG_app, List.length_append]
  refine ownsRow_same h2' (fun g hg => hs.block g (ownsRow_lt h2' hg).2 (fun e => ?_))
  obtain ⟨cu, hcu⟩ := ownsRow_type h2' hg
  exact Blk.ne_t (show Blk w5 g cu 127 from hcu) hB5 (by decide) e
end
set_option maxRecDepth 100000 in
set_option maxHeartbeats 1600000 in
theorem rgnew_ok (me n : Int) (w : World) (h : newCode me n = 0) :
    Calls Tryz.prog 27 #[.int .i64 me, .int .i64 n] w fun e w' => e = .returned (.tuple #[.pointer (some ⟨w.heap.size, 0, none⟩), .int .i64 0]) ∧ RGs w.heap.size w.heap.size me n (.slice none 0 0) [] w' ∧ Below w.heap.size w w' ∧ w'.heap.size = w.heap.size + 1 := by
  have h2 : ¬ n < 2 ∧ ¬ 16 < n ∧ ¬ me < 0 ∧ ¬ n ≤ me := by
    unfold newCode at h
    split at h
    · cases h
    · split at h
      · cases h
      · omega
  obtain ⟨a1, a2, a3, a4⟩ := h2
  clear h
  go_enter Tryz.func27, Tryz.ntmps27
  go_wp2_with fail
  go_ret2
  exact ⟨rfl, ⟨heap_alloc_new w _, World.ownsRow_nil _ _ _ _, Nat.le_refl _⟩, by go_grown, by simp⟩
set_option maxRecDepth 100000 in
set_option maxHeartbeats 1600000 in
theorem rgnew_no (me n : Int) (w : World) (h : newCode me n ≠ 0) :
    Calls Tryz.prog 27 #[.int .i64 me, .int .i64 n] w fun e w' => e = .returned (.tuple #[.pointer none, .int .i64 (newCode me n)]) ∧ w' = w := by
  by_cases h1 : n < 2
  · have hc : newCode me n = 1 := by unfold newCode; rw [if_pos (Or.inl h1)]
    rw [hc]
    clear h hc
    go_enter Tryz.func27, Tryz.ntmps27
    go_wp2_with fail
    go_ret2
    exact ⟨rfl, rfl⟩
  by_cases h2 : 16 < n
  · have hc : newCode me n = 1 := by unfold newCode; rw [if_pos (Or.inr h2)]
    rw [hc]
    clear h hc
    go_enter Tryz.func27, Tryz.ntmps27
    go_wp2_with fail
    go_ret2
    exact ⟨rfl, rfl⟩
  by_cases h3 : me < 0
  · have hc : newCode me n = 3 := by unfold newCode; rw [if_neg (by omega), if_pos (Or.inl h3)]
    rw [hc]
    clear h hc
    go_enter Tryz.func27, Tryz.ntmps27
    go_wp2_with fail
    go_ret2
    exact ⟨rfl, rfl⟩
  by_cases h4 : n ≤ me
  · have hc : newCode me n = 3 := by unfold newCode; rw [if_neg (by omega), if_pos (Or.inr h4)]
    rw [hc]
    clear h hc
    go_enter Tryz.func27, Tryz.ntmps27
    go_wp2_with fail
    go_ret2
    exact ⟨rfl, rfl⟩
  · exact absurd (by unfold newCode; rw [if_neg (by omega), if_neg (by omega)]) h
def rneedN (k : List UInt8) (d u : Int) (A : List RE) : List RE := if okC d = true ∧ okC u = true then A ++ [(k, d, u, false)] else A
structure RGPost (L rb : Nat) (me n : Int) (v : Value) (A' : List RE) (w w' : World) : Prop where
  out : ∃ v', RGs L rb me n v' A' w' ∧ (∀ g, v'.ownBlock = some g → v.ownBlock = some g ∨ w.heap.size ≤ g)
  chg : Chg (fun k => k = rb ∨ v.ownBlock = some k) w w'
set_option maxRecDepth 100000 in
set_option maxHeartbeats 3200000 in
theorem rneed_any {L rb : Nat} {me n : Int} {v : Value} {A : List RE} (k : List UInt8) (d u : Int) (w : World) (h : RGs L rb me n v A w) (hA : A.length ≤ 200000) :
    Calls Tryz.prog 30 #[.pointer (some ⟨rb, 0, none⟩), .string ⟨k.toArray⟩, .agg #[.int .i64 d, .int .i64 u]] w fun e w' => e = .returned (.tuple #[]) ∧ RGPost L rb me n v (rneedN k d u A) w w' := by
  obtain ⟨ob, hob⟩ : ∃ ob, ob = w.heap.size := ⟨_, rfl⟩
  obtain ⟨X, hX⟩ : ∃ X, X = w.alloc (.cells #[.int .i64 d, .int .i64 u] 37) := ⟨_, rfl⟩
  have hbX : Below w.heap.size w X := by rw [hX]; exact (Below.refl _ _).alloc (Nat.le_refl _) _
  have HBO : Hid (Blk X ob #[.int .i64 d, .int .i64 u] 37) := show Blk X ob #[.int .i64 d, .int .i64 u] 37 from by rw [hX, hob]; exact heap_alloc_new w _
  have HBX : Hid (Below w.heap.size w X) := hbX
  obtain ⟨ao, cap, hv, _⟩ := own_slice h.row
  subst hv
  have HRX : Hid (RGs L rb me n (.slice ao A.length cap) A X) := h.more hbX
  have HAL : Hid (A.length ≤ 200000) := hA
  have x0 : X.cell? ⟨ob, 0, none⟩ = some (.int .i64 d) := HBO.out.cell 0
  have x1 : X.cell? ⟨ob, 1, none⟩ = some (.int .i64 u) := HBO.out.cell 1
  obtain ⟨AN, hAN⟩ : ∃ AN, AN = rneedN k d u A := ⟨_, rfl⟩
  rw [← hAN]
  have HAN : Hid (AN = rneedN k d u A) := hAN
  have HST : Hid (RGPost L rb me n (.slice ao A.length cap) A w X) := ⟨⟨_, h.more hbX, fun g hg => Or.inl hg⟩, Chg.ofBelow _ hbX⟩
  clear h hbX hAN hA
  by_cases c1 : 0 ≤ d
  · by_cases c2 : 0 ≤ u
    · by_cases c3 : d ≤ 1099511627776
      · by_cases c4 : u ≤ 1099511627776
        · have HE : Hid (AN = A ++ [(k, d, u, false)]) := show AN = A ++ [(k, d, u, false)] from by rw [HAN.out]; unfold rneedN; rw [if_pos ⟨by simp [okC, c1, c3], by simp [okC, c2, c4]⟩]
          go_enter Tryz.func30, Tryz.ntmps30
          go_upto_region 1 with fail
          rw [← hX, ← hob]
          clear hX hob
          go_wp2_with fail
          try rw [show ∀ a : Act, a.put none undef = a from fun _ => rfl]
          refine wp_region_mix (fun wq => wq.cell? ⟨rb, 2, none⟩ = some (.slice ao A.length cap) ∧ Blk wq ob #[.int .i64 d, .int .i64 u] 37) (fun i => i == 8 || i == 9 || i == 12) 12 (by kernel_rfl) rfl (by kernel_rfl) (by kernel_rfl) (by kernel_rfl) ?_
          refine withFrP (N := 36) rfl ?_
          intro f0 F0 hff
          have ee0 : f0 0 = Value.pointer (some ⟨rb, 0, none⟩) := hff 0
          have ee1 : f0 1 = Value.string ⟨k.toArray⟩ := hff 1
          have ee5 : f0 5 = Value.pointer (some ⟨ob, 0, none⟩) := hff 5
          clear hff
          have HCC : (fun wq => wq.cell? ⟨rb, 2, none⟩ = some (.slice ao A.length cap) ∧ Blk wq ob #[.int .i64 d, .int .i64 u] 37) (({ X with drawn := X.drawn + 1 } : World)) := ⟨HRX.out.blk.cell 2, HBO.out⟩
          have HC1 : (fun wq => wq.cell? ⟨rb, 2, none⟩ = some (.slice ao A.length cap) ∧ Blk wq ob #[.int .i64 d, .int .i64 u] 37) ((({ X with drawn := X.drawn + 1 } : World)).alloc (.cells #[.string ⟨k.toArray⟩, .int .i64 d, .int .i64 u, .bool false] 127)) := ⟨cell_below ((Below.refl _ _).alloc (Nat.le_refl _) _) HCC.1, Blk.below HCC.2 ((Below.refl _ _).alloc (Nat.le_refl _) _) (Blk.lt HCC.2)⟩
          refine lyp F0 rfl HCC rfl (by omega) (wanted_none rfl) (v := Value.pointer (some ⟨rb, 0, none⟩)) (fun wr hwr => by simp only [execOp, (F0.eval 0 (by omega)).trans (show _ = Value.pointer (some ⟨rb, 0, none⟩) from by simp [upd, ee0, ee1, ee5])]; first | rfl | simp [go_sem]) fun F1 => ?_
          refine lyp F1 rfl HCC rfl (by omega) (wanted_none rfl) (v := Value.pointer (some ⟨rb, 0, none⟩)) (fun wr hwr => by simp only [execOp, (F1.eval 0 (by omega)).trans (show _ = Value.pointer (some ⟨rb, 0, none⟩) from by simp [upd, ee0, ee1, ee5])]; first | rfl | simp [go_sem]) fun F2 => ?_
          refine lyp F2 rfl HCC rfl (by omega) (wanted_none rfl) (v := Value.pointer (some ⟨rb, 0, none⟩)) (fun wr hwr => by simp only [execOp, (F2.eval 25 (by omega)).trans (show _ = Value.pointer (some ⟨rb, 0, none⟩) from by simp [upd, ee0, ee1, ee5])]; simp [go_sem]) fun F3 => ?_
          refine lyp F3 rfl HCC rfl (by omega) (wanted_none rfl) (v := Value.pointer (some ⟨rb, 2, none⟩)) (fun wr hwr => by simp only [execOp, (F3.eval 26 (by omega)).trans (show _ = Value.pointer (some ⟨rb, 0, none⟩) from by simp [upd, ee0, ee1, ee5])]; simp [go_sem]) fun F4 => ?_
          refine lyp F4 rfl HCC rfl (by omega) (wanted_none rfl) (v := Value.slice ao A.length cap) (fun wr hwr => by simp only [execOp, (F4.eval 27 (by omega)).trans (show _ = Value.pointer (some ⟨rb, 2, none⟩) from by simp [upd, ee0, ee1, ee5])]; simp [go_sem, hwr.1]) fun F5 => ?_
          refine lyp F5 rfl HCC rfl (by omega) (wanted_none rfl) (v := Value.string ⟨k.toArray⟩) (fun wr hwr => by simp only [execOp, (F5.eval 1 (by omega)).trans (show _ = Value.string ⟨k.toArray⟩ from by simp [upd, ee0, ee1, ee5])]; first | rfl | simp [go_sem]) fun F6 => ?_
          refine lyp F6 rfl HCC rfl (by omega) (wanted_none rfl) (v := Value.agg #[.int .i64 d, .int .i64 u]) (fun wr hwr => by simp only [execOp, (F6.eval 5 (by omega)).trans (show _ = Value.pointer (some ⟨ob, 0, none⟩) from by simp [upd, ee0, ee1, ee5])]; simp [go_sem, show wr.cell? ⟨ob, 0, none⟩ = some (.int .i64 d) from hwr.2.cell 0, show wr.cell? ⟨ob, 1, none⟩ = some (.int .i64 u) from hwr.2.cell 1]) fun F7 => ?_
          refine lyp F7 rfl HCC rfl (by omega) (wanted_none rfl) (v := Value.agg #[.string ⟨k.toArray⟩, .int .i64 d, .int .i64 u, .bool false]) (fun wr hwr => by simp only [execOp, List.map_toArray, List.map_cons, List.map_nil, (F7.eval 29 (by omega)).trans (show _ = Value.string ⟨k.toArray⟩ from by simp [upd, ee0, ee1, ee5]), (F7.eval 30 (by omega)).trans (show _ = Value.agg #[.int .i64 d, .int .i64 u] from by simp [upd, ee0, ee1, ee5])]; simp [go_sem]; try rfl) fun F8 => ?_
          refine lep F8 rfl HCC rfl (by omega) (wanted_none rfl) (v := Value.slice (some ⟨X.heap.size, 0, none⟩) 1 1) (w1 := (({ X with drawn := X.drawn + 1 } : World)).alloc (.cells #[.string ⟨k.toArray⟩, .int .i64 d, .int .i64 u, .bool false] 127)) (by simp only [execOp, List.map_toArray, List.map_cons, List.map_nil, (F8.eval 31 (by omega)).trans (show _ = Value.agg #[.string ⟨k.toArray⟩, .int .i64 d, .int .i64 u, .bool false] from by simp [upd, ee0, ee1, ee5])]; simp [go_sem]) fun F9 => ?_
          obtain ⟨ao5, cap5, w5, hrun, hc5, hz5, hf5, hV5, hch5, hat5⟩ := (show RGs L rb me n (.slice ao A.length cap) A (({ X with drawn := X.drawn + 1 } : World)) from HRX.out.keep rfl (fun _ _ => rfl)).push HAL.out (k, d, u, false)
          have HC5 : (fun wq => wq.cell? ⟨rb, 2, none⟩ = some (.slice ao A.length cap) ∧ Blk wq ob #[.int .i64 d, .int .i64 u] 37) w5 := ⟨hz5, hc5.blk (show Blk (({ X with drawn := X.drawn + 1 } : World)) ob #[.int .i64 d, .int .i64 u] 37 from HBO.out) (HRX.out.own_ne HBO.out (by decide))⟩
          refine lep F9 rfl HC1 rfl (by omega) (wanted_none rfl) (v := Value.slice ao5 (A.length + 1) cap5) (w1 := w5) (by simp only [execOp, resolve, invoke, builtin, List.map_toArray, List.map_cons, List.map_nil, (F9.eval 28 (by omega)).trans (show _ = Value.slice ao A.length cap from by simp [upd, ee0, ee1, ee5]), (F9.eval 32 (by omega)).trans (show _ = Value.slice (some ⟨X.heap.size, 0, none⟩) 1 1 from by simp [upd, ee0, ee1, ee5])]; simp only [Sem.run_bind, Sem.run_pure, Result.andThen_ok, show _ = _ from hrun _]; try rfl) fun F10 => ?_
          refine lyp F10 rfl HC5 rfl (by omega) (wanted_none rfl) (v := Value.pointer (some ⟨rb, 0, none⟩)) (fun wr hwr => by simp only [execOp, (F10.eval 24 (by omega)).trans (show _ = Value.pointer (some ⟨rb, 0, none⟩) from by simp [upd, ee0, ee1, ee5])]; simp [go_sem]) fun F11 => ?_
          refine lyp F11 rfl HC5 rfl (by omega) (wanted_none rfl) (v := Value.pointer (some ⟨rb, 2, none⟩)) (fun wr hwr => by simp only [execOp, (F11.eval 34 (by omega)).trans (show _ = Value.pointer (some ⟨rb, 0, none⟩) from by simp [upd, ee0, ee1, ee5])]; simp [go_sem]) fun F12 => ?_
          refine lst rfl HC5 rfl (wanted_none rfl) (w1 := w5.setCell ⟨rb, 2, none⟩ (.slice ao5 (A.length + 1) cap5)) (by simp only [execOp, (F12.eval 35 (by omega)).trans (show _ = Value.pointer (some ⟨rb, 2, none⟩) from by simp [upd, ee0, ee1, ee5]), (F12.eval 33 (by omega)).trans (show _ = Value.slice ao5 (A.length + 1) cap5 from by simp [upd, ee0, ee1, ee5])]; simp [go_sem, hf5, hz5]) ?_
          refine ⟨fun h => by simp at h, ?_⟩
          clear F0 F1 F2 F3 F4 F5 F6 F7 F8 F9 F10 F11 F12 ee0 ee1 ee5 HCC HC1 HC5 hz5 hf5 hrun hc5
          simp only [Act.put, List.setIfInBounds_toArray, List.set_cons_succ, List.set_cons_zero]
          have HFI : Hid (RGPost L rb me n (.slice ao A.length cap) (A ++ [(k, d, u, false)]) w (w5.setCell ⟨rb, 2, none⟩ (.slice ao5 (A.length + 1) cap5))) := ⟨⟨_, hV5, fun g hg => (hat5 g hg).imp id (fun h => Nat.le_trans HBX.out.size h)⟩, (Chg.ofBelow _ HBX.out).trans (show Chg _ X _ from ((Chg.refl (fun k => k = rb ∨ (Value.slice ao A.length cap).ownBlock = some k) X).drewN 1).trans hch5 (fun _ _ e => e)) (fun _ _ e => e)⟩
          clear hV5 hch5 hat5
          go_wp2_with fail
          first | go_end0 | go_ret
          exact ⟨rfl, HE.out ▸ HFI.out⟩
        · have HE : Hid (AN = A) := show AN = A from by rw [HAN.out]; unfold rneedN; rw [if_neg (fun e => by simp [okC] at e; omega)]
          go_enter Tryz.func30, Tryz.ntmps30
          go_upto_region 1 with fail
          rw [← hX, ← hob]
          clear hX hob
          go_wp2_with fail
          first | go_end0 | go_ret
          exact ⟨rfl, HE.out ▸ HST.out⟩
      · have HE : Hid (AN = A) := show AN = A from by rw [HAN.out]; unfold rneedN; rw [if_neg (fun e => by simp [okC] at e; omega)]
        go_enter Tryz.func30, Tryz.ntmps30
        go_upto_region 1 with fail
        rw [← hX, ← hob]
        clear hX hob
        go_wp2_with fail
        first | go_end0 | go_ret
        exact ⟨rfl, HE.out ▸ HST.out⟩
    · have HE : Hid (AN = A) := show AN = A from by rw [HAN.out]; unfold rneedN; rw [if_neg (fun e => by simp [okC] at e; omega)]
      go_enter Tryz.func30, Tryz.ntmps30
      go_upto_region 1 with fail
      rw [← hX, ← hob]
      clear hX hob
      go_wp2_with fail
      first | go_end0 | go_ret
      exact ⟨rfl, HE.out ▸ HST.out⟩
  · have HE : Hid (AN = A) := show AN = A from by rw [HAN.out]; unfold rneedN; rw [if_neg (fun e => by simp [okC] at e; omega)]
    go_enter Tryz.func30, Tryz.ntmps30
    go_upto_region 1 with fail
    rw [← hX, ← hob]
    clear hX hob
    go_wp2_with fail
    first | go_end0 | go_ret
    exact ⟨rfl, HE.out ▸ HST.out⟩
end Go.Proofs.YtnphkmdanicemaaGreatDoor
