import Derived.Test.YtehjdkdoalmaeaaRow3
import Derived.Test.YtehjdkdoalmaeaaSend
namespace Go.Proofs.Ytehjdkdoalmaeaa
open Go.RowKit Go.PlainAid
set_option linter.unusedVariables false
set_option linter.unusedSimpArgs false
theorem done4 {G : Prop} {N : Nat} {a : Act} {f : Nat → Value} {p q r s : Nat} {vp vq vr vs : Value} (hF : Fr N a f) (k1 : f p = vp) (k2 : f q = vq) (k3 : f r = vr) (k4 : f s = vs) (h : ∀ f', Fr N a f' → f' p = vp → f' q = vq → f' r = vr → f' s = vs → G) : G := h f hF k1 k2 k3 k4
set_option maxRecDepth 100000 in
set_option maxHeartbeats 3200000 in
/-- A letter is taken out. -/
theorem take_any {base hb room : Nat} {v : Value} {ls : List LetV} (w : World) (hS : Bag base hb room v ls w) (hroom : ls.length ≤ 1024) (i : Nat) (l : LetV) (hi : ls[i]? = some l) :
    Calls Try.prog 29 #[.pointer (some ⟨hb, 0, none⟩), .int .i64 (i : Nat)] w fun e w' => e = .returned (.agg l.c) ∧ ∃ v', Bag base hb room v' (ls.eraseIdx i) w' ∧ Stp hb v v' w w' ∧ ∃ g cap, v' = .slice (some ⟨g, 0, none⟩) (ls.eraseIdx i).length cap ∧ (ls.eraseIdx i).length + 1 ≤ cap := by
  have hil := (List.getElem?_eq_some_iff.1 hi).1
  obtain ⟨N, hN⟩ : ∃ N, ls.length = N + 1 := ⟨ls.length - 1, by omega⟩
  have hown := hS.own
  rw [hN] at hown hil hroom
  have hld : ∀ x ∈ ls, x.d.oneCell' = true := fun x hx => by obtain ⟨_, _, h, _⟩ := own_slice (hS.dat x hx); rw [h]; rfl
  obtain ⟨g, cap, cur, rfl, hgb, hgr, hcap, hcm, hcs, htk⟩ : ∃ g cap cur, v = .slice (some ⟨g, 0, none⟩) (N + 1) cap ∧ base ≤ g ∧ w.heap[g]? = some (.cells cur 31 (0, 0)) ∧ N + 1 ≤ cap ∧ cap ≤ maxLen ∧ cur.size = cap * 3 ∧ cur.toList.take ((N + 1) * 3) = flat ls := by
    rcases hown.2 with ⟨_, h⟩ | h
    · omega
    · exact h
  have hcm' : cap ≤ 9223372036854775807 := by simpa [maxLen] using hcm
  have hc1 := hS.c1
  have hglt : g < w.heap.size := (Array.getElem?_eq_some_iff.1 hgr).1
  have hblt := hS.lt
  have hghb : g ≠ hb := fun e => hS.ne (by rw [e]; rfl)
  have hcell : ∀ j u, (flat ls)[j]? = some u → w.cell? ⟨g, j, none⟩ = some u := fun j u hj => by
    rw [cell_of_row w g j cur 31 (0, 0) hgr, ← Array.getElem?_toList]
    have h1 := (List.getElem?_eq_some_iff.1 hj).1
    rw [flat_len, hN] at h1
    rw [← htk, List.getElem?_take, if_pos h1] at hj
    exact hj
  obtain ⟨l0, l1, l2⟩ := flat_get ls i l hi
  have m0 := hcell _ _ l0
  have m1 := hcell _ _ l1
  have m2 := hcell _ _ l2
  obtain ⟨lf, lt, ld, lbs⟩ := l
  simp only [LetV.c] at *
  -- the world behind the first box
  have hk1 : ∀ j, j < w.heap.size → (w.alloc (.cells #[.int .i64 0, .int .i64 0, .slice none 0 0] 31)).heap[j]? = w.heap[j]? := fun j hj => Below.heap_alloc _ _ _ hj
  have n0 : (w.alloc (.cells #[.int .i64 0, .int .i64 0, .slice none 0 0] 31)).cell? ⟨g, i * 3, none⟩ = some (.int .i64 lf) := (World.cell?_of_block (w := w) (hk1 g hglt)).trans m0
  have n1 : (w.alloc (.cells #[.int .i64 0, .int .i64 0, .slice none 0 0] 31)).cell? ⟨g, i * 3 + 1, none⟩ = some (.int .i64 lt) := (World.cell?_of_block (w := w) (hk1 g hglt)).trans m1
  have n2 : (w.alloc (.cells #[.int .i64 0, .int .i64 0, .slice none 0 0] 31)).cell? ⟨g, i * 3 + 2, none⟩ = some ld := (World.cell?_of_block (w := w) (hk1 g hglt)).trans m2
  have n3 : (w.alloc (.cells #[.int .i64 0, .int .i64 0, .slice none 0 0] 31)).cell? ⟨hb, 1, none⟩ = some (.slice (some ⟨g, 0, none⟩) (N + 1) cap) := (World.cell?_of_block (w := w) (hk1 hb hblt)).trans hc1
  have hB5 : ((w.alloc (.cells #[.int .i64 0, .int .i64 0, .slice none 0 0] 31)).alloc (.cells #[.int .i64 0, .int .i64 0, .slice none 0 0] 31)).heap[w.heap.size + 1]? = some (.cells #[.int .i64 0, .int .i64 0, .slice none 0 0] 31 (0, 0)) := by
    have := heap_alloc_new (w.alloc (.cells #[.int .i64 0, .int .i64 0, .slice none 0 0] 31)) (.cells #[.int .i64 0, .int .i64 0, .slice none 0 0] 31)
    rwa [World.size_alloc] at this
  have hldc : ld.oneCell' = true := hld _ (List.mem_of_getElem? hi)
  have hall : (letC lf lt ld).all (·.oneCell') = true := by
    obtain ⟨x, y, h, _⟩ := own_slice (hS.dat _ (List.mem_of_getElem? hi))
    simp only at h
    rw [h]
    simp [letC, Value.oneCell']
  have HC : Hid _ := hcell
  have HK : Hid _ := hk1
  clear hcell hk1 m0 m1 m2 l0 l1 l2
  go_enter Try.func29, Try.ntmps29
  go_wp2_with (first | (refine wpList_store_row rfl 31 (.tmp 5) (.tmp 13) rfl (w.heap.size + 1) (letC lf lt ld) rfl rfl 31 _ hB5 (by kernel_rfl) rfl hall ?_) | fail)
  rename_i K hK
  rw [show ∀ a : Act, a.put none undef = a from fun _ => rfl]
  refine wp_region_mix (fun wr => wr.heap[hb]? = w.heap[hb]?) (fun i => i == 13) 13 (by kernel_rfl) rfl (by kernel_rfl) (by kernel_rfl) (by kernel_rfl) ?_
  have hWlow : ∀ j, j < w.heap.size → ({ (((w.alloc (.cells #[.int .i64 0, .int .i64 0, .slice none 0 0] 31)).alloc (.cells #[.int .i64 0, .int .i64 0, .slice none 0 0] 31)).setRow (w.heap.size + 1) (letC lf lt ld)) with drawn := (((w.alloc (.cells #[.int .i64 0, .int .i64 0, .slice none 0 0] 31)).alloc (.cells #[.int .i64 0, .int .i64 0, .slice none 0 0] 31)).setRow (w.heap.size + 1) (letC lf lt ld)).drawn + 1 } : World).heap[j]? = w.heap[j]? := fun j hj => (heap_setRow_other _ _ _ (by omega)).trans ((Below.heap_alloc _ _ _ (by simp; omega)).trans (HK.out j hj))
  have hW5 : Blk ({ (((w.alloc (.cells #[.int .i64 0, .int .i64 0, .slice none 0 0] 31)).alloc (.cells #[.int .i64 0, .int .i64 0, .slice none 0 0] 31)).setRow (w.heap.size + 1) (letC lf lt ld)) with drawn := (((w.alloc (.cells #[.int .i64 0, .int .i64 0, .slice none 0 0] 31)).alloc (.cells #[.int .i64 0, .int .i64 0, .slice none 0 0] 31)).setRow (w.heap.size + 1) (letC lf lt ld)).drawn + 1 } : World) (w.heap.size + 1) (letC lf lt ld) 31 := setRow_heap _ _ _ _ 31 _ hB5
  have hW4 : Blk ({ (((w.alloc (.cells #[.int .i64 0, .int .i64 0, .slice none 0 0] 31)).alloc (.cells #[.int .i64 0, .int .i64 0, .slice none 0 0] 31)).setRow (w.heap.size + 1) (letC lf lt ld)) with drawn := (((w.alloc (.cells #[.int .i64 0, .int .i64 0, .slice none 0 0] 31)).alloc (.cells #[.int .i64 0, .int .i64 0, .slice none 0 0] 31)).setRow (w.heap.size + 1) (letC lf lt ld)).drawn + 1 } : World) w.heap.size #[.int .i64 0, .int .i64 0, .slice none 0 0] 31 := (heap_setRow_other _ _ _ (by omega)).trans ((Below.heap_alloc _ _ _ (by simp)).trans (heap_alloc_new w _))
  have hWo : ({ (((w.alloc (.cells #[.int .i64 0, .int .i64 0, .slice none 0 0] 31)).alloc (.cells #[.int .i64 0, .int .i64 0, .slice none 0 0] 31)).setRow (w.heap.size + 1) (letC lf lt ld)) with drawn := (((w.alloc (.cells #[.int .i64 0, .int .i64 0, .slice none 0 0] 31)).alloc (.cells #[.int .i64 0, .int .i64 0, .slice none 0 0] 31)).setRow (w.heap.size + 1) (letC lf lt ld)).drawn + 1 } : World).os = w.os ∧ ({ (((w.alloc (.cells #[.int .i64 0, .int .i64 0, .slice none 0 0] 31)).alloc (.cells #[.int .i64 0, .int .i64 0, .slice none 0 0] 31)).setRow (w.heap.size + 1) (letC lf lt ld)) with drawn := (((w.alloc (.cells #[.int .i64 0, .int .i64 0, .slice none 0 0] 31)).alloc (.cells #[.int .i64 0, .int .i64 0, .slice none 0 0] 31)).setRow (w.heap.size + 1) (letC lf lt ld)).drawn + 1 } : World).tape = w.tape ∧ ({ (((w.alloc (.cells #[.int .i64 0, .int .i64 0, .slice none 0 0] 31)).alloc (.cells #[.int .i64 0, .int .i64 0, .slice none 0 0] 31)).setRow (w.heap.size + 1) (letC lf lt ld)) with drawn := (((w.alloc (.cells #[.int .i64 0, .int .i64 0, .slice none 0 0] 31)).alloc (.cells #[.int .i64 0, .int .i64 0, .slice none 0 0] 31)).setRow (w.heap.size + 1) (letC lf lt ld)).drawn + 1 } : World).output = w.output := ⟨rfl, rfl, rfl⟩
  clear n0 n1 n2 n3 HK hB5
  generalize ({ (((w.alloc (.cells #[.int .i64 0, .int .i64 0, .slice none 0 0] 31)).alloc (.cells #[.int .i64 0, .int .i64 0, .slice none 0 0] 31)).setRow (w.heap.size + 1) (letC lf lt ld)) with drawn := (((w.alloc (.cells #[.int .i64 0, .int .i64 0, .slice none 0 0] 31)).alloc (.cells #[.int .i64 0, .int .i64 0, .slice none 0 0] 31)).setRow (w.heap.size + 1) (letC lf lt ld)).drawn + 1 } : World) = W at *
  have hC : W.heap[hb]? = w.heap[hb]? := hWlow hb hblt
  have hWs : w.heap.size + 1 < W.heap.size := hW5.lt
  have hRW : Blk W g cur 31 := (hWlow g hglt).trans hgr
  have hcopy : (Builtin.copy_ #[22, 22] 3 #[from_ g (N + 1) cap i, from_ g (N + 1) cap (i + 1)]).run Try.prog W = .ok (.int .i64 ((N - i : Nat) : Int)) (W.setRow g (over cur (i * 3) (flat (ls.drop (i + 1))))) := by
    have e1 : from_ g (N + 1) cap i = .slice (some ⟨g, i * 3, none⟩) (N + 1 - i) (cap - i) := by rw [from_, if_neg (by omega)]
    have e2 : from_ g (N + 1) cap (i + 1) = .slice (if cap = i + 1 then some ⟨g, 0, none⟩ else some ⟨g, (i + 1) * 3, none⟩) (N + 1 - (i + 1)) (cap - (i + 1)) := rfl
    rw [e1, e2]
    refine copy3 hRW (i * 3) (N + 1 - i) (cap - i) (N + 1 - (i + 1)) (cap - (i + 1)) (N - i) _ (ls.drop (i + 1)) (by simp only [Nat.min_def]; split <;> omega) (by rw [List.length_drop, hN]; omega) (by omega) (fun h0 => ?_) (fun x hx => hld x (List.mem_of_mem_drop hx)) 3
    refine ⟨⟨g, (i + 1) * 3, none⟩, by rw [if_neg (by omega)], fun j u hu => ?_⟩
    rw [addr_add]
    rw [← flat_drop, List.getElem?_drop] at hu
    exact (World.cell?_of_block (w := w) (hWlow g hglt)).trans (HC.out _ _ hu)
  refine withFrL (N := 50) rfl ?_
  intro a0 f0 F0 hff
  have h0 : f0 0 = .pointer (some ⟨hb, 0, none⟩) := hff 0
  have h1 : f0 1 = .int .i64 (i : Nat) := hff 1
  have h4 : f0 4 = .pointer (some ⟨w.heap.size, 0, none⟩) := hff 4
  have h5 : f0 5 = .pointer (some ⟨w.heap.size + 1, 0, none⟩) := hff 5
  clear hff
  refine ly F0 rfl hC rfl (by omega) (wanted_none rfl) (v := Value.pointer (some ⟨hb, 0, none⟩)) (fun wr hwr => by simp only [execOp, (F0.eval 0 (by omega)).trans (show _ = Value.pointer (some ⟨hb, 0, none⟩) from by simp [upd, h0, h1])]; first | rfl | simp [go_sem]) fun a1 F1 => ?_
  refine ly F1 rfl hC rfl (by omega) (wanted_none rfl) (v := Value.pointer (some ⟨hb, 0, none⟩)) (fun wr hwr => by simp only [execOp, (F1.eval 14 (by omega)).trans (show _ = Value.pointer (some ⟨hb, 0, none⟩) from by simp [upd, h0, h1])]; first | rfl | simp [go_sem]) fun a2 F2 => ?_
  refine ly F2 rfl hC rfl (by omega) (wanted_none rfl) (v := Value.pointer (some ⟨hb, 1, none⟩)) (fun wr hwr => by simp only [execOp, (F2.eval 15 (by omega)).trans (show _ = Value.pointer (some ⟨hb, 0, none⟩) from by simp [upd, h0, h1])]; first | rfl | simp [go_sem]) fun a3 F3 => ?_
  refine ly F3 rfl hC rfl (by omega) (wanted_none rfl) (v := Value.slice (some ⟨g, 0, none⟩) (N + 1) cap) (fun wr hwr => by simp only [execOp, (F3.eval 16 (by omega)).trans (show _ = Value.pointer (some ⟨hb, 1, none⟩) from by simp [upd, h0, h1])]; simp [go_sem, (show wr.cell? ⟨hb, 1, none⟩ = some (Value.slice (some ⟨g, 0, none⟩) (N + 1) cap) from (World.cell?_of_block (w := w) hwr).trans hc1)]) fun a4 F4 => ?_
  refine ly F4 rfl hC rfl (by omega) (wanted_none rfl) (v := Value.int .i64 (i : Nat)) (fun wr hwr => by simp only [execOp, (F4.eval 1 (by omega)).trans (show _ = Value.int .i64 (i : Nat) from by simp [upd, h0, h1])]; first | rfl | simp [go_sem]) fun a5 F5 => ?_
  refine ly F5 rfl hC rfl (by omega) (wanted_none rfl) (v := from_ g (N + 1) cap i) (fun wr hwr => by simp only [execOp, Option.map_some, Option.map_none, (F5.eval 17 (by omega)).trans (show _ = Value.slice (some ⟨g, 0, none⟩) (N + 1) cap from by simp [upd, h0, h1]), (F5.eval 18 (by omega)).trans (show _ = Value.int .i64 (i : Nat) from by simp [upd, h0, h1]), Sem.run_bind, slice_from g (N + 1) cap i (by omega) hcap wr, Result.andThen_ok, Sem.run_pure]) fun a6 F6 => ?_
  refine ly F6 rfl hC rfl (by omega) (wanted_none rfl) (v := Value.pointer (some ⟨hb, 0, none⟩)) (fun wr hwr => by simp only [execOp, (F6.eval 0 (by omega)).trans (show _ = Value.pointer (some ⟨hb, 0, none⟩) from by simp [upd, h0, h1])]; first | rfl | simp [go_sem]) fun a7 F7 => ?_
  refine ly F7 rfl hC rfl (by omega) (wanted_none rfl) (v := Value.pointer (some ⟨hb, 0, none⟩)) (fun wr hwr => by simp only [execOp, (F7.eval 20 (by omega)).trans (show _ = Value.pointer (some ⟨hb, 0, none⟩) from by simp [upd, h0, h1])]; first | rfl | simp [go_sem]) fun a8 F8 => ?_
  refine ly F8 rfl hC rfl (by omega) (wanted_none rfl) (v := Value.pointer (some ⟨hb, 1, none⟩)) (fun wr hwr => by simp only [execOp, (F8.eval 21 (by omega)).trans (show _ = Value.pointer (some ⟨hb, 0, none⟩) from by simp [upd, h0, h1])]; first | rfl | simp [go_sem]) fun a9 F9 => ?_
  refine ly F9 rfl hC rfl (by omega) (wanted_none rfl) (v := Value.slice (some ⟨g, 0, none⟩) (N + 1) cap) (fun wr hwr => by simp only [execOp, (F9.eval 22 (by omega)).trans (show _ = Value.pointer (some ⟨hb, 1, none⟩) from by simp [upd, h0, h1])]; simp [go_sem, (show wr.cell? ⟨hb, 1, none⟩ = some (Value.slice (some ⟨g, 0, none⟩) (N + 1) cap) from (World.cell?_of_block (w := w) hwr).trans hc1)]) fun a10 F10 => ?_
  refine ly F10 rfl hC rfl (by omega) (wanted_none rfl) (v := Value.int .i64 (i : Nat)) (fun wr hwr => by simp only [execOp, (F10.eval 1 (by omega)).trans (show _ = Value.int .i64 (i : Nat) from by simp [upd, h0, h1])]; first | rfl | simp [go_sem]) fun a11 F11 => ?_
  refine ly F11 rfl hC rfl (by omega) (wanted_none rfl) (v := Value.int .i64 ((i + 1 : Nat) : Int)) (fun wr hwr => by simp only [execOp, (F11.eval 24 (by omega)).trans (show _ = Value.int .i64 (i : Nat) from by simp [upd, h0, h1])]; simp [go_sem, Act.eval]; rw [IntKind.wrap_i64]; omega) fun a12 F12 => ?_
  refine ly F12 rfl hC rfl (by omega) (wanted_none rfl) (v := from_ g (N + 1) cap (i + 1)) (fun wr hwr => by simp only [execOp, Option.map_some, Option.map_none, (F12.eval 23 (by omega)).trans (show _ = Value.slice (some ⟨g, 0, none⟩) (N + 1) cap from by simp [upd, h0, h1]), (F12.eval 25 (by omega)).trans (show _ = Value.int .i64 ((i + 1 : Nat) : Int) from by simp [upd, h0, h1]), Sem.run_bind, slice_from g (N + 1) cap (i + 1) (by omega) hcap wr, Result.andThen_ok, Sem.run_pure]) fun a13 F13 => ?_
  refine le F13 rfl hC rfl (by omega) (wanted_none rfl) (v := Value.int .i64 ((N - i : Nat) : Int)) (w1 := W.setRow g (over cur (i * 3) (flat (ls.drop (i + 1))))) (by simp only [execOp, resolve, invoke, builtin, Sem.run_bind, Sem.run_pure, Result.andThen_ok, List.map_toArray, List.map_cons, List.map_nil, (F13.eval 19 (by omega)).trans (show _ = from_ g (N + 1) cap i from by simp [upd, h0, h1]), (F13.eval 26 (by omega)).trans (show _ = from_ g (N + 1) cap (i + 1) from by simp [upd, h0, h1]), hcopy]) fun a14 F14 => ?_

  refine ⟨fun h => by omega, ?_⟩
  refine done4 F14 (p := 0) (q := 1) (r := 4) (s := 5) (show _ = Value.pointer (some ⟨hb, 0, none⟩) from by simp [upd, h0]) (show _ = Value.int .i64 (i : Nat) from by simp [upd, h1]) (show _ = Value.pointer (some ⟨w.heap.size, 0, none⟩) from by simp [upd, h4]) (show _ = Value.pointer (some ⟨w.heap.size + 1, 0, none⟩) from by simp [upd, h5]) fun f' F' k0 k1 k4 k5 => ?_
  clear F0 F1 F2 F3 F4 F5 F6 F7 F8 F9 F10 F11 F12 F13 F14 h0 h1 h4 h5 hcopy
  show K _ _
  apply hK
  rw [F'.lit, show ((List.range 50).map f').toArray = #[f' 0, f' 1, f' 2, f' 3, f' 4, f' 5, f' 6, f' 7, f' 8, f' 9, f' 10, f' 11, f' 12, f' 13, f' 14, f' 15, f' 16, f' 17, f' 18, f' 19, f' 20, f' 21, f' 22, f' 23, f' 24, f' 25, f' 26, f' 27, f' 28, f' 29, f' 30, f' 31, f' 32, f' 33, f' 34, f' 35, f' 36, f' 37, f' 38, f' 39, f' 40, f' 41, f' 42, f' 43, f' 44, f' 45, f' 46, f' 47, f' 48, f' 49] from rfl, k0, k1, k4, k5]
  have hX : Blk (W.setRow g (over cur (i * 3) (flat (ls.drop (i + 1))))) g (over cur (i * 3) (flat (ls.drop (i + 1)))) 31 := setRow_heap _ _ _ _ 31 _ hRW
  have hfd : (flat (ls.drop (i + 1))).length = (N - i) * 3 := by rw [flat_len, List.length_drop, hN]; omega
  have hsz1 : (over cur (i * 3) (flat (ls.drop (i + 1)))).size = cap * 3 := by rw [over_size _ _ _ (by omega), hcs]
  have htk1 : (over cur (i * 3) (flat (ls.drop (i + 1)))).toList.take (N * 3) = flat (ls.eraseIdx i) := by
    rw [over_take _ _ _ _ (by omega) (by omega) (by omega), List.take_of_length_le (l := flat _) (by omega), erase_split, flat_append, ← flat_take ls i, ← htk, List.take_take, Nat.min_eq_left (by omega)]
  have hXo : ∀ j, j ≠ g → (W.setRow g (over cur (i * 3) (flat (ls.drop (i + 1))))).heap[j]? = W.heap[j]? := fun j hj => heap_setRow_other _ _ _ hj
  have hXs : (W.setRow g (over cur (i * 3) (flat (ls.drop (i + 1))))).heap.size = W.heap.size ∧ (W.setRow g (over cur (i * 3) (flat (ls.drop (i + 1))))).os = W.os ∧ (W.setRow g (over cur (i * 3) (flat (ls.drop (i + 1))))).tape = W.tape ∧ (W.setRow g (over cur (i * 3) (flat (ls.drop (i + 1))))).output = W.output := ⟨by simp [World.setRow], rfl, rfl, rfl⟩
  generalize W.setRow g (over cur (i * 3) (flat (ls.drop (i + 1)))) = X at *
  generalize over cur (i * 3) (flat (ls.drop (i + 1))) = cur1 at *
  have hclear : ∀ ty c, (Builtin.clear_ #[22] ty #[.slice (some ⟨g, N * 3, none⟩) 1 c]).run Try.prog X = .ok (.tuple #[]) (X.setRow g (over cur1 (N * 3) [.int .i64 0, .int .i64 0, .slice none 0 0])) := fun ty c => clear3 hX (N * 3) c (by omega) ty
  have hY : Blk (X.setRow g (over cur1 (N * 3) [.int .i64 0, .int .i64 0, .slice none 0 0])) g (over cur1 (N * 3) [.int .i64 0, .int .i64 0, .slice none 0 0]) 31 := setRow_heap _ _ _ _ 31 _ hX
  have hsz2 : (over cur1 (N * 3) [.int .i64 0, .int .i64 0, .slice none 0 0]).size = cap * 3 := by rw [over_size _ _ _ (by simp; omega), hsz1]
  have htk2 : (over cur1 (N * 3) [.int .i64 0, .int .i64 0, .slice none 0 0]).toList.take (N * 3) = flat (ls.eraseIdx i) := by rw [over_take_low _ _ _ _ (by omega) (Nat.le_refl _), htk1]
  have hYo : ∀ j, j ≠ g → (X.setRow g (over cur1 (N * 3) [.int .i64 0, .int .i64 0, .slice none 0 0])).heap[j]? = X.heap[j]? := fun j hj => heap_setRow_other _ _ _ hj
  have hYs : (X.setRow g (over cur1 (N * 3) [.int .i64 0, .int .i64 0, .slice none 0 0])).heap.size = X.heap.size ∧ (X.setRow g (over cur1 (N * 3) [.int .i64 0, .int .i64 0, .slice none 0 0])).os = X.os ∧ (X.setRow g (over cur1 (N * 3) [.int .i64 0, .int .i64 0, .slice none 0 0])).tape = X.tape ∧ (X.setRow g (over cur1 (N * 3) [.int .i64 0, .int .i64 0, .slice none 0 0])).output = X.output := ⟨by simp [World.setRow], rfl, rfl, rfl⟩
  generalize X.setRow g (over cur1 (N * 3) [.int .i64 0, .int .i64 0, .slice none 0 0]) = Y at *
  generalize over cur1 (N * 3) [.int .i64 0, .int .i64 0, .slice none 0 0] = cur2 at *
  have hlowY : ∀ j, j ≠ g → Y.heap[j]? = W.heap[j]? := fun j hj => (hYo j hj).trans (hXo j hj)
  have x1 : X.cell? ⟨hb, 1, none⟩ = some (.slice (some ⟨g, 0, none⟩) (N + 1) cap) := (World.cell?_of_block (w := w) ((hXo hb (Ne.symm hghb)).trans hC)).trans hc1
  have y1 : Y.cell? ⟨hb, 1, none⟩ = some (.slice (some ⟨g, 0, none⟩) (N + 1) cap) := (World.cell?_of_block (w := w) ((hlowY hb (Ne.symm hghb)).trans hC)).trans hc1
  have hBY : Blk Y hb #[.int .i64 (room : Nat), .slice (some ⟨g, 0, none⟩) (N + 1) cap] 54 := (hlowY hb (Ne.symm hghb)).trans (hC.trans hS.blk)
  have y2 : Y.frozen? ⟨hb, 1, none⟩ = false := hBY.frozen 1
  have hB6 : Blk (Y.setCell ⟨hb, 1, none⟩ (.slice (some ⟨g, 0, none⟩) N cap)) (w.heap.size + 1) (letC lf lt ld) 31 := (Below.heap_setCell _ _ _ _ (by show _ ≠ hb; omega)).trans ((hlowY _ (by omega)).trans hW5)
  have hB7 : Blk (Y.setCell ⟨hb, 1, none⟩ (.slice (some ⟨g, 0, none⟩) N cap)) w.heap.size #[.int .i64 0, .int .i64 0, .slice none 0 0] 31 := (Below.heap_setCell _ _ _ _ (by show _ ≠ hb; omega)).trans ((hlowY _ (by omega)).trans hW4)
  have hB8 : Blk ((Y.setCell ⟨hb, 1, none⟩ (.slice (some ⟨g, 0, none⟩) N cap)).setRow w.heap.size (letC lf lt ld)) w.heap.size (letC lf lt ld) 31 := setRow_heap _ _ _ _ 31 _ hB7
  have hcN : ¬ (cap = N) := by omega
  have hNc : N ≤ cap := by omega
  have HX : Hid _ := hX
  have HY : Hid _ := hY
  have H1 : Hid _ := hsz1
  have H2 : Hid _ := hsz2
  have H3 : Hid _ := htk2
  have H4 : Hid _ := hXs
  have H5 : Hid _ := hYs
  have H6 : Hid _ := hlowY
  have H7 : Hid _ := hWlow
  have H8 : Hid _ := hBY
  have H9 : Hid _ := hN
  have H10 : Hid _ := hWo
  have H11 : Hid _ := htk
  have H12 : Hid _ := hcs
  clear hX hY hsz1 hsz2 htk2 htk1 hXs hYs hlowY hWlow hBY hN hWo htk hcs hXo hYo hfd hc1 hC hRW hW5 hW4 hgr F' k0 k1 k4 k5 hown
  go_wp2_with (first | (refine wpList_load_row rfl 31 (.tmp 5) rfl (w.heap.size + 1) rfl 31 _ (0, 0) _ hB6 Try.underlying31 rfl (by kernel_rfl) ?_) | (refine wpList_store_row rfl 31 (.tmp 4) (.tmp 49) rfl w.heap.size (letC lf lt ld) rfl rfl 31 _ hB7 (by kernel_rfl) rfl hall ?_) | fail)
  have hZ : ∀ j, j ≠ hb → j ≠ w.heap.size → ((Y.setCell ⟨hb, 1, none⟩ (.slice (some ⟨g, 0, none⟩) N cap)).setRow w.heap.size (letC lf lt ld)).heap[j]? = Y.heap[j]? := fun j h1 h2 => (heap_setRow_other _ _ _ h2).trans (Below.heap_setCell _ _ _ _ h1)
  have hZl : ∀ j, j < w.heap.size → j ≠ hb → j ≠ g → ((Y.setCell ⟨hb, 1, none⟩ (.slice (some ⟨g, 0, none⟩) N cap)).setRow w.heap.size (letC lf lt ld)).heap[j]? = w.heap[j]? := fun j h0 h1 h2 => (hZ j h1 (by omega)).trans ((H6.out j h2).trans (H7.out j h0))
  have hlenE : (ls.eraseIdx i).length = N := by rw [List.length_eraseIdx, if_pos (by rw [H9.out]; exact hil), H9.out]; rfl
  have hBag : Bag base hb room (.slice (some ⟨g, 0, none⟩) N cap) (ls.eraseIdx i) ((Y.setCell ⟨hb, 1, none⟩ (.slice (some ⟨g, 0, none⟩) N cap)).setRow w.heap.size (letC lf lt ld)) := by
    refine ⟨(heap_setRow_other _ _ _ (by omega)).trans (Blk.set H8.out 1 _), ⟨flat_len _, Or.inr ⟨g, cap, cur2, by rw [hlenE], hgb, (hZ g hghb (by omega)).trans HY.out, by rw [hlenE]; exact hNc, hcm, H2.out, by rw [hlenE]; exact H3.out⟩⟩, fun x hx => ?_⟩
    have hx' : x ∈ ls := List.mem_of_mem_eraseIdx hx
    refine ownsRow_same (hS.dat x hx') fun j hj => ?_
    obtain ⟨q1, q2⟩ := hS.dne x hx' j hj
    exact hZl j ((hS.dat x hx').lt j hj).2 q1 (fun e => q2 (by rw [e]; rfl))
  have hStp : Stp hb (.slice (some ⟨g, 0, none⟩) (N + 1) cap) (.slice (some ⟨g, 0, none⟩) N cap) w ((Y.setCell ⟨hb, 1, none⟩ (.slice (some ⟨g, 0, none⟩) N cap)).setRow w.heap.size (letC lf lt ld)) := by
    obtain ⟨p1, p2, p3, p4⟩ := H4.out
    obtain ⟨q1, q2, q3, q4⟩ := H5.out
    obtain ⟨r1, r2, r3⟩ := H10.out
    refine ⟨q2.trans (p2.trans r1), q3.trans (p3.trans r2), q4.trans (p4.trans r3), ?_, fun j h0 h1 h2 => hZl j h0 h1 (fun e => h2 (by rw [e]; rfl)), fun j hj => Or.inl hj⟩
    simp [World.setRow, World.setCell]
    omega
  exact bodyPost_ret (results_cell_row Try.results29 _ _ w.heap.size 31 _ (0, 0) _ rfl hB8 Try.underlying31 rfl (by kernel_rfl)) rfl ⟨rfl, _, hBag, hStp, g, cap, by rw [hlenE], by rw [hlenE]; exact hcap⟩
end Go.Proofs.Ytehjdkdoalmaeaa
