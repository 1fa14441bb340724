import Derived.Test.YtehjdkdoalmaeaaAt
namespace Go.Proofs.Ytehjdkdoalmaeaa
open Go.RowKit Go.PlainAid
set_option linter.unusedVariables false
set_option linter.unusedSimpArgs false
def CMove (Y : World) (hb bx : Nat) (D : Array Value) (wr : World) : Prop := wr.heap[hb]? = Y.heap[hb]? ∧ Blk wr bx D 31

set_option maxRecDepth 100000 in
set_option maxHeartbeats 1600000 in
/-- Move, where there is no such place. -/
theorem move_no {base hb room : Nat} {v : Value} {ls : List LetV} (w : World) (hS : Bag base hb room v ls w) (i j : Int) (hij : ¬ ((0 ≤ i ∧ i < ls.length) ∧ (0 ≤ j ∧ j < ls.length))) :
    Calls Try.prog 15 #[.pointer (some ⟨hb, 0, none⟩), .int .i64 i, .int .i64 j] w fun e w' => e = .returned (.int .i64 40) ∧ w' = w := by
  have h1 := has_any w hS i
  have h2 := has_any w hS j
  by_cases hi : 0 ≤ i ∧ i < ls.length
  · rw [show (decide (0 ≤ i) && decide (i < ls.length)) = true from by simp; omega] at h1
    rw [show (decide (0 ≤ j) && decide (j < ls.length)) = false from by simp; omega] at h2
    clear hS hij hi
    go_enter Try.func15, Try.ntmps15
    go_wp2_with fail
    refine h1.mono ?_
    rintro e1 w1 ⟨rfl, rfl⟩
    go_wp2_with fail
    refine h2.mono ?_
    rintro e2 w2 ⟨rfl, rfl⟩
    go_wp2
    go_ret
    exact ⟨rfl, rfl⟩
  · rw [show (decide (0 ≤ i) && decide (i < ls.length)) = false from by simp; omega] at h1
    clear hS hij hi
    go_enter Try.func15, Try.ntmps15
    go_wp2_with fail
    refine h1.mono ?_
    rintro e1 w1 ⟨rfl, rfl⟩
    go_wp2
    go_ret
    exact ⟨rfl, rfl⟩

set_option maxRecDepth 100000 in
set_option maxHeartbeats 3200000 in
/-- Move. -/
theorem move_at {base hb room : Nat} {v : Value} {ls : List LetV} (w : World) (hS : Bag base hb room v ls w) (hroom : ls.length ≤ 1024) (i j : Nat) (l : LetV) (hi : ls[i]? = some l) (hj : j < ls.length) :
    Calls Try.prog 15 #[.pointer (some ⟨hb, 0, none⟩), .int .i64 (i : Nat), .int .i64 (j : Nat)] w fun e w' => e = .returned (.int .i64 0) ∧ ∃ v', Bag base hb room v' ((ls.eraseIdx i).insertIdx j l) w' ∧ Stp hb v v' w w' := by
  have hil := (List.getElem?_eq_some_iff.1 hi).1
  have h1 := has_any w hS i
  have h2 := has_any w hS j
  rw [show (decide ((0 : Int) ≤ i) && decide ((i : Int) < ls.length)) = true from by simp; omega] at h1
  rw [show (decide ((0 : Int) ≤ j) && decide ((j : Int) < ls.length)) = true from by simp; omega] at h2
  have ht := take_any w hS hroom i l hi
  have hdat := hS.dat l (List.mem_of_getElem? hi)
  have hdne := hS.dne l (List.mem_of_getElem? hi)
  have hblt := hS.lt
  have hall : l.c.all (·.oneCell') = true := by
    obtain ⟨x, y, h, _⟩ := own_slice hdat
    simp [LetV.c, letC, h, Value.oneCell']
  have hd1 : l.d.oneCell' = true := by
    obtain ⟨x, y, h, _⟩ := own_slice hdat
    rw [h]
    rfl
  clear hS
  go_enter Try.func15, Try.ntmps15
  go_wp2_with fail
  refine h1.mono ?_
  rintro e1 w1 ⟨rfl, rfl⟩
  go_wp2_with fail
  refine h2.mono ?_
  rintro e2 w2 ⟨rfl, rfl⟩
  go_wp2_with fail
  refine ht.mono ?_
  rintro e3 X ⟨rfl, v', hX, hst, g, cap, rfl, hcap⟩
  have hBz : (X.alloc (.cells #[.int .i64 0, .int .i64 0, .slice none 0 0] 31)).heap[X.heap.size]? = some (.cells #[.int .i64 0, .int .i64 0, .slice none 0 0] 31 (0, 0)) := heap_alloc_new X _
  clear h1 h2 ht
  go_wp2_with (first | (refine wpList_store_row rfl 31 (.tmp 7) (.tmp 20) rfl X.heap.size l.c rfl rfl 31 _ hBz (by kernel_rfl) rfl hall ?_) | fail)
  rename_i K hK
  try rw [show ∀ a : Act, a.put none undef = a from fun _ => rfl]
  refine wp_region_mix (CMove ({ ((X.alloc (.cells #[.int .i64 0, .int .i64 0, .slice none 0 0] 31)).setRow X.heap.size l.c) with drawn := ((X.alloc (.cells #[.int .i64 0, .int .i64 0, .slice none 0 0] 31)).setRow X.heap.size l.c).drawn + 1 } : World) hb X.heap.size l.c) (fun i => i == 7 || i == 8 || i == 11) 11 (by kernel_rfl) rfl (by kernel_rfl) (by kernel_rfl) (by kernel_rfl) ?_
  have hlow : ∀ k, k < X.heap.size → ({ ((X.alloc (.cells #[.int .i64 0, .int .i64 0, .slice none 0 0] 31)).setRow X.heap.size l.c) with drawn := ((X.alloc (.cells #[.int .i64 0, .int .i64 0, .slice none 0 0] 31)).setRow X.heap.size l.c).drawn + 1 } : World).heap[k]? = X.heap[k]? := fun k hk => (heap_setRow_other _ _ _ (by omega)).trans (Below.heap_alloc _ _ _ hk)
  have hbxY : Blk ({ ((X.alloc (.cells #[.int .i64 0, .int .i64 0, .slice none 0 0] 31)).setRow X.heap.size l.c) with drawn := ((X.alloc (.cells #[.int .i64 0, .int .i64 0, .slice none 0 0] 31)).setRow X.heap.size l.c).drawn + 1 } : World) X.heap.size l.c 31 := setRow_heap _ _ _ _ 31 _ hBz
  have hYo : ({ ((X.alloc (.cells #[.int .i64 0, .int .i64 0, .slice none 0 0] 31)).setRow X.heap.size l.c) with drawn := ((X.alloc (.cells #[.int .i64 0, .int .i64 0, .slice none 0 0] 31)).setRow X.heap.size l.c).drawn + 1 } : World).os = X.os ∧ ({ ((X.alloc (.cells #[.int .i64 0, .int .i64 0, .slice none 0 0] 31)).setRow X.heap.size l.c) with drawn := ((X.alloc (.cells #[.int .i64 0, .int .i64 0, .slice none 0 0] 31)).setRow X.heap.size l.c).drawn + 1 } : World).tape = X.tape ∧ ({ ((X.alloc (.cells #[.int .i64 0, .int .i64 0, .slice none 0 0] 31)).setRow X.heap.size l.c) with drawn := ((X.alloc (.cells #[.int .i64 0, .int .i64 0, .slice none 0 0] 31)).setRow X.heap.size l.c).drawn + 1 } : World).output = X.output := ⟨rfl, rfl, rfl⟩
  clear hBz
  generalize ({ ((X.alloc (.cells #[.int .i64 0, .int .i64 0, .slice none 0 0] 31)).setRow X.heap.size l.c) with drawn := ((X.alloc (.cells #[.int .i64 0, .int .i64 0, .slice none 0 0] 31)).setRow X.heap.size l.c).drawn + 1 } : World) = Y at *
  have hY := hX.keep hlow
  have hC : CMove Y hb X.heap.size l.c Y := ⟨rfl, hbxY⟩
  have hXlt := hX.lt
  have hglt : g < X.heap.size := (hX.own.lt g rfl).2
  have hghb : g ≠ hb := fun e => hX.ne (by rw [e]; rfl)
  generalize hbx : X.heap.size = bx at *
  have hgbx : g ≠ bx := by omega
  have hYs := hbxY.lt
  have hlen : (ls.eraseIdx i).length + 1 = ls.length := by rw [List.length_eraseIdx, if_pos hil]; omega
  obtain ⟨cur, hgb, hgr, hcm, hcs, htk⟩ : ∃ cur, base ≤ g ∧ Y.heap[g]? = some (.cells cur 31 (0, 0)) ∧ cap ≤ maxLen ∧ cur.size = cap * 3 ∧ cur.toList.take ((ls.eraseIdx i).length * 3) = flat (ls.eraseIdx i) := by
    rcases hY.own.2 with ⟨h, _⟩ | ⟨g', cap', cur, h, q1, q2, q3, q4, q5, q6⟩
    · cases h
    · cases h
      exact ⟨cur, q1, q2, q4, q5, q6⟩
  have hgr1 : Blk (Y.alloc (.cells l.c 31)) g cur 31 := (Below.heap_alloc _ _ _ (by omega)).trans hgr
  have hvb : Blk (Y.alloc (.cells l.c 31)) Y.heap.size l.c 31 := heap_alloc_new Y _
  have hld : ∀ x ∈ ls.eraseIdx i, x.d.oneCell' = true := fun x hx => by obtain ⟨_, _, h, _⟩ := own_slice (hX.dat x hx); rw [h]; rfl
  have hins : Calls Try.prog 30 #[Value.slice (some ⟨g, 0, none⟩) (ls.eraseIdx i).length cap, .int .i64 (j : Nat), Value.slice (some ⟨Y.heap.size, 0, none⟩) 1 1] (Y.alloc (.cells l.c 31)) fun e w' => e = .returned (.slice (some ⟨g, 0, none⟩) ((ls.eraseIdx i).length + 1) cap) ∧ InsPost g cap ((ls.eraseIdx i).insertIdx j l) (Y.alloc (.cells l.c 31)) w' := by
    by_cases hje : j = (ls.eraseIdx i).length
    · rw [hje]
      exact insert_end _ g cap cur (ls.eraseIdx i) hgr1 hcs htk hcap hcm Y.heap.size l hvb hd1
    · exact insert_mid _ g cap cur (ls.eraseIdx i) hgr1 hcs htk hcap hcm hld j (by omega) Y.heap.size l hvb (by omega) hd1
  refine withFrL (N := 32) rfl ?_
  intro a0 f0 F0 hff
  have h0 : f0 0 = .pointer (some ⟨hb, 0, none⟩) := hff 0
  have h2 : f0 2 = .int .i64 (j : Nat) := hff 2
  have h7 : f0 7 = .pointer (some ⟨bx, 0, none⟩) := hff 7
  clear hff
  refine ly F0 rfl hC rfl (by omega) (wanted_none rfl) (v := Value.pointer (some ⟨hb, 0, none⟩)) (fun wr hwr => by simp only [execOp, (F0.eval 0 (by omega)).trans (show _ = Value.pointer (some ⟨hb, 0, none⟩) from by simp [upd, h0, h2, h7])]; first | rfl | simp [go_sem]) fun a1 F1 => ?_
  refine ly F1 rfl hC rfl (by omega) (wanted_none rfl) (v := Value.pointer (some ⟨hb, 0, none⟩)) (fun wr hwr => by simp only [execOp, (F1.eval 0 (by omega)).trans (show _ = Value.pointer (some ⟨hb, 0, none⟩) from by simp [upd, h0, h2, h7])]; first | rfl | simp [go_sem]) fun a2 F2 => ?_
  refine ly F2 rfl hC rfl (by omega) (wanted_none rfl) (v := Value.pointer (some ⟨hb, 0, none⟩)) (fun wr hwr => by simp only [execOp, (F2.eval 22 (by omega)).trans (show _ = Value.pointer (some ⟨hb, 0, none⟩) from by simp [upd, h0, h2, h7])]; first | rfl | simp [go_sem]) fun a3 F3 => ?_
  refine ly F3 rfl hC rfl (by omega) (wanted_none rfl) (v := Value.pointer (some ⟨hb, 1, none⟩)) (fun wr hwr => by simp only [execOp, (F3.eval 23 (by omega)).trans (show _ = Value.pointer (some ⟨hb, 0, none⟩) from by simp [upd, h0, h2, h7])]; first | rfl | simp [go_sem]) fun a4 F4 => ?_
  refine ly F4 rfl hC rfl (by omega) (wanted_none rfl) (v := Value.slice (some ⟨g, 0, none⟩) (ls.eraseIdx i).length cap) (fun wr hwr => by simp only [execOp, (F4.eval 24 (by omega)).trans (show _ = Value.pointer (some ⟨hb, 1, none⟩) from by simp [upd, h0, h2, h7])]; simp [go_sem, (show wr.cell? ⟨hb, 1, none⟩ = some (Value.slice (some ⟨g, 0, none⟩) (ls.eraseIdx i).length cap) from (World.cell?_of_block (w := Y) hwr.1).trans hY.c1)]) fun a5 F5 => ?_
  refine ly F5 rfl hC rfl (by omega) (wanted_none rfl) (v := Value.int .i64 (j : Nat)) (fun wr hwr => by simp only [execOp, (F5.eval 2 (by omega)).trans (show _ = Value.int .i64 (j : Nat) from by simp [upd, h0, h2, h7])]; first | rfl | simp [go_sem]) fun a6 F6 => ?_
  refine ly F6 rfl hC rfl (by omega) (wanted_none rfl) (v := Value.agg l.c) (fun wr hwr => by simp only [execOp, (F6.eval 7 (by omega)).trans (show _ = Value.pointer (some ⟨bx, 0, none⟩) from by simp [upd, h0, h2, h7]), Instr.loadAt, Instr.sureAddr, Sem.run_bind, Sem.run_pure, Result.andThen_ok, run_loadVar_row (P := Try.prog) wr bx 31 31 l.c (0, 0) _ hwr.2 Try.underlying31 rfl (by kernel_rfl)]) fun a7 F7 => ?_
  refine le F7 rfl hC rfl (by omega) (wanted_none rfl) (v := Value.slice (some ⟨Y.heap.size, 0, none⟩) 1 1) (w1 := Y.alloc (.cells l.c 31)) (by simp only [execOp, List.map_toArray, List.map_cons, List.map_nil, (F7.eval 27 (by omega)).trans (show _ = Value.agg l.c from by simp [upd, h0, h2, h7])]; simp [go_sem, LetV.c, letC]) fun a8 F8 => ?_
  have hC1 : CMove Y hb bx l.c (Y.alloc (.cells l.c 31)) := ⟨Below.heap_alloc _ _ _ hY.lt, (Below.heap_alloc _ _ _ hC.2.lt).trans hC.2⟩
  refine lc F8 rfl hC1 rfl (by omega) (wanted_none rfl) (g := 30) (args := #[Value.slice (some ⟨g, 0, none⟩) (ls.eraseIdx i).length cap, .int .i64 (j : Nat), Value.slice (some ⟨Y.heap.size, 0, none⟩) 1 1]) (by simp only [execOp, resolve, invoke, List.map_toArray, List.map_cons, List.map_nil, (F8.eval 25 (by omega)).trans (show _ = Value.slice (some ⟨g, 0, none⟩) (ls.eraseIdx i).length cap from by simp [upd, h0, h2, h7]), (F8.eval 26 (by omega)).trans (show _ = Value.int .i64 (j : Nat) from by simp [upd, h0, h2, h7]), (F8.eval 28 (by omega)).trans (show _ = Value.slice (some ⟨Y.heap.size, 0, none⟩) 1 1 from by simp [upd, h0, h2, h7])]; simp [go_sem, Act.eval]) hins ?_
  rintro e5 Z ⟨rfl, hpost⟩
  refine ⟨_, rfl, fun a9 F9 => ?_⟩
  have hC2 : CMove Y hb bx l.c Z := ⟨(hpost.other hb hghb.symm).trans hC1.1, (hpost.other bx hgbx.symm).trans hC1.2⟩
  refine ly F9 rfl hC2 rfl (by omega) (wanted_none rfl) (v := Value.pointer (some ⟨hb, 0, none⟩)) (fun wr hwr => by simp only [execOp, (F9.eval 21 (by omega)).trans (show _ = Value.pointer (some ⟨hb, 0, none⟩) from by simp [upd, h0, h2, h7])]; first | rfl | simp [go_sem]) fun a10 F10 => ?_
  refine ly F10 rfl hC2 rfl (by omega) (wanted_none rfl) (v := Value.pointer (some ⟨hb, 1, none⟩)) (fun wr hwr => by simp only [execOp, (F10.eval 30 (by omega)).trans (show _ = Value.pointer (some ⟨hb, 0, none⟩) from by simp [upd, h0, h2, h7])]; first | rfl | simp [go_sem]) fun a11 F11 => ?_
  have hBZ : Blk Z hb #[.int .i64 (room : Nat), Value.slice (some ⟨g, 0, none⟩) (ls.eraseIdx i).length cap] 54 := hC2.1.trans hY.blk
  have hr4 : (storeVar 22 ⟨hb, 1, none⟩ (Value.slice (some ⟨g, 0, none⟩) ((ls.eraseIdx i).length + 1) cap)).run Try.prog Z = .ok () (Z.setCell ⟨hb, 1, none⟩ (Value.slice (some ⟨g, 0, none⟩) ((ls.eraseIdx i).length + 1) cap)) := by
    have z1 := hBZ.frozen 1
    have z2 : Z.cell? ⟨hb, 1, none⟩ = some (Value.slice (some ⟨g, 0, none⟩) (ls.eraseIdx i).length cap) := hBZ.cell 1
    simp [go_sem, z1, z2]
  refine lst rfl hC2 rfl (wanted_none rfl) (w1 := Z.setCell ⟨hb, 1, none⟩ (Value.slice (some ⟨g, 0, none⟩) ((ls.eraseIdx i).length + 1) cap)) (by simp only [execOp, (F11.eval 31 (by omega)).trans (show _ = Value.pointer (some ⟨hb, 1, none⟩) from by simp [upd, h0, h2, h7]), (F11.eval 29 (by omega)).trans (show _ = Value.slice (some ⟨g, 0, none⟩) ((ls.eraseIdx i).length + 1) cap from by simp [upd, h0, h2, h7])]; simp [Instr.storeAt, Instr.sureAddr, hr4]) ?_

  refine ⟨fun h => by omega, ?_⟩
  obtain ⟨cur', hR', hsz', htk'⟩ := hpost.row
  have hxl : ((ls.eraseIdx i).insertIdx j l).length = (ls.eraseIdx i).length + 1 := by rw [insert_split _ _ _ (by omega)]; simp; omega
  have hlowZ : ∀ k, k < bx → k ≠ hb → k ≠ g → (Z.setCell ⟨hb, 1, none⟩ (Value.slice (some ⟨g, 0, none⟩) ((ls.eraseIdx i).length + 1) cap)).heap[k]? = X.heap[k]? := fun k h1 h2 h3 => (Below.heap_setCell _ _ _ _ h2).trans ((hpost.other k h3).trans ((Below.heap_alloc _ _ _ (by omega)).trans (hlow k h1)))
  have hXd : ∀ x ∈ ls.eraseIdx i, (Z.setCell ⟨hb, 1, none⟩ (Value.slice (some ⟨g, 0, none⟩) ((ls.eraseIdx i).length + 1) cap)).ownsRow base 5 1 x.d x.bs.length (x.bs.map B) := fun x hx => by
    refine ownsRow_same (hX.dat x hx) fun k hk => ?_
    obtain ⟨n1, n2⟩ := hX.dne x hx k hk
    exact hlowZ k (by have := ((hX.dat x hx).lt k hk).2; omega) n1 (fun e => n2 (by rw [e]; rfl))
  have hdX : X.ownsRow base 5 1 l.d l.bs.length (l.bs.map B) := ownsRow_same hdat fun k hk => hst.block k (hdat.lt k hk).2 (hdne k hk).1 (hdne k hk).2
  have hld2 : (Z.setCell ⟨hb, 1, none⟩ (Value.slice (some ⟨g, 0, none⟩) ((ls.eraseIdx i).length + 1) cap)).ownsRow base 5 1 l.d l.bs.length (l.bs.map B) := by
    refine ownsRow_same hdX fun k hk => ?_
    obtain ⟨c1, q1⟩ := ownsRow_type hdX hk
    obtain ⟨c2, q2⟩ := ownsRow_type hX.own (g := g) rfl
    exact hlowZ k (by have := (hdX.lt k hk).2; omega) (hdne k hk).1 (fun e => by rw [e, q2] at q1; cases q1)
  have hBag : Bag base hb room (Value.slice (some ⟨g, 0, none⟩) ((ls.eraseIdx i).length + 1) cap) ((ls.eraseIdx i).insertIdx j l) (Z.setCell ⟨hb, 1, none⟩ (Value.slice (some ⟨g, 0, none⟩) ((ls.eraseIdx i).length + 1) cap)) := by
    refine ⟨Blk.set hBZ 1 _, ⟨flat_len _, Or.inr ⟨g, cap, cur', by rw [hxl], hgb, (Below.heap_setCell _ _ _ _ hghb).trans hR', by rw [hxl]; omega, hcm, hsz', htk'⟩⟩, fun x hx => ?_⟩
    rw [insert_split _ _ _ (by omega)] at hx
    rcases List.mem_append.1 hx with h1 | h1
    · exact hXd x (List.mem_of_mem_take h1)
    · rcases List.mem_cons.1 h1 with rfl | h1
      · exact hld2
      · exact hXd x (List.mem_of_mem_drop h1)
  have hZs : bx ≤ (Z.setCell ⟨hb, 1, none⟩ (Value.slice (some ⟨g, 0, none⟩) ((ls.eraseIdx i).length + 1) cap)).heap.size := by
    have := hpost.size
    rw [World.size_alloc] at this
    simp [World.setCell]
    omega
  have hst2 : Stp hb (.slice (some ⟨g, 0, none⟩) (ls.eraseIdx i).length cap) (Value.slice (some ⟨g, 0, none⟩) ((ls.eraseIdx i).length + 1) cap) X (Z.setCell ⟨hb, 1, none⟩ (Value.slice (some ⟨g, 0, none⟩) ((ls.eraseIdx i).length + 1) cap)) :=
    ⟨hpost.os.trans hYo.1, hpost.tape.trans hYo.2.1, hpost.output.trans hYo.2.2, by rw [hbx]; exact hZs, fun k h1 h2 h3 => hlowZ k (by omega) h2 (fun e => h3 (by rw [e]; rfl)), fun k hk => Or.inl hk⟩
  have hst3 := hst.trans hst2
  clear hst hst2 hX hY hXd hdX hld2 hR' htk' hsz' hBZ hr4 hpost hins hC hC1 hC2 hgr hgr1 hvb htk hcs hlowZ hlow hbxY F0 F1 F2 F3 F4 F5 F6 F7 F8 F9 F10 h0 h2 h7
  show K _ _
  apply hK
  revert F11
  generalize (upd _ _ _ : Nat → Value) = f'
  intro F'
  rw [F'.lit, show ((List.range 32).map f').toArray = #[f' 0, f' 1, f' 2, f' 3, f' 4, f' 5, f' 6, f' 7, f' 8, f' 9, f' 10, f' 11, f' 12, f' 13, f' 14, f' 15, f' 16, f' 17, f' 18, f' 19, f' 20, f' 21, f' 22, f' 23, f' 24, f' 25, f' 26, f' 27, f' 28, f' 29, f' 30, f' 31] from rfl]
  go_wp2
  go_ret
  exact ⟨rfl, _, hBag, hst3⟩
end Go.Proofs.Ytehjdkdoalmaeaa
