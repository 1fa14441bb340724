import Derived.Test.YtehjdkdoalmaeaaRow3
import Derived.Test.YtehjdkdoalmaeaaMix2
import Derived.Lib.Overlaps
namespace Go.Proofs.Ytehjdkdoalmaeaa
open Go.RowKit Go.PlainAid
set_option linter.unusedVariables false
set_option linter.unusedSimpArgs false
theorem wpList_append_run {w w' : World} {ops : Array Oper} {rest : List Oper} {o : Oper} {a : Act} {Q : Exit → Act → World → Prop} (hgd : o.guard = none) (s x : Operand)
    (ho : o.op = .call { callee := .builtin .append, args := #[s, x], argTypes := #[22, 22] }) (v u v' : Value) (hs : a.eval s = v) (hx : a.eval x = u) (hr : (Builtin.append_ #[22, 22] o.type #[v, u]).run Try.prog w = .ok v' w')
    (h : wpList Try.prog ops Q rest (a.put o.dst v') w') : wpList Try.prog ops Q (o :: rest) a w := by
  refine wpList_plain hgd fun K hK => ?_
  unfold Oper.wp execOp
  simp only [ho, resolve, invoke, builtin, Sem.run_bind, Sem.run_pure, Result.andThen_ok, List.map_toArray, List.map_cons, List.map_nil, hs, hx, hr]
  exact hK _ _ h
/-- What an insertion leaves. -/
structure InsPost (g cap : Nat) (xs : List LetV) (w w' : World) : Prop where
  row : ∃ cur', Blk w' g cur' 31 ∧ cur'.size = cap * 3 ∧ cur'.toList.take (xs.length * 3) = flat xs
  other : ∀ k, k ≠ g → w'.heap[k]? = w.heap[k]?
  os : w'.os = w.os
  tape : w'.tape = w.tape
  output : w'.output = w.output
  size : w'.heap.size = w.heap.size
theorem over_take_high (cur : Array Value) (o n : Nat) (cs : List Value) (h1 : o ≤ cur.size) (h3 : o + cs.length ≤ n) : (over cur o cs).toList.take n = cur.toList.take o ++ cs ++ (cur.toList.drop (o + cs.length)).take (n - (o + cs.length)) := by
  have hl : (cur.toList.take o ++ cs).length = o + cs.length := by simp; omega
  show ((cur.toList.take o ++ cs) ++ cur.toList.drop (o + cs.length)).take n = _
  rw [List.take_append, hl, List.take_of_length_le (by rw [hl]; exact h3)]
theorem over_drop (cur : Array Value) (o : Nat) (cs : List Value) (h1 : o ≤ cur.size) : (over cur o cs).toList.drop o = cs ++ cur.toList.drop (o + cs.length) := by
  have hl : (cur.toList.take o).length = o := by simp; omega
  simp only [over, List.append_assoc]
  exact List.drop_left' hl
theorem done3 {G : Prop} {N : Nat} {a : Act} {f : Nat → Value} {p q r : Nat} {vp vq vr : Value} (hF : Fr N a f) (k1 : f p = vp) (k2 : f q = vq) (k3 : f r = vr) (h : ∀ f', Fr N a f' → f' p = vp → f' q = vq → f' r = vr → G) : G := h f hF k1 k2 k3
theorem insert_split {α : Type} (l : List α) (i : Nat) (a : α) (h : i ≤ l.length) : l.insertIdx i a = l.take i ++ a :: l.drop i := by
  induction l generalizing i with
  | nil => obtain rfl : i = 0 := by simpa using h
           rfl
  | cons x l ih =>
    cases i with
    | zero => rfl
    | succ i => rw [List.insertIdx_succ_cons, ih i (by simpa using h)]; rfl

set_option maxRecDepth 100000 in
set_option maxHeartbeats 3200000 in
/-- slices.Insert of one letter, at the end, there is room. -/
theorem insert_end (w : World) (g cap : Nat) (cur : Array Value) (ls : List LetV) (hR : Blk w g cur 31) (hcs : cur.size = cap * 3) (htk : cur.toList.take (ls.length * 3) = flat ls) (hcap : ls.length + 1 ≤ cap) (hcm : cap ≤ maxLen)
    (vb : Nat) (l : LetV) (hV : Blk w vb l.c 31) (hd : l.d.oneCell' = true) :
    Calls Try.prog 30 #[.slice (some ⟨g, 0, none⟩) ls.length cap, .int .i64 (ls.length : Nat), .slice (some ⟨vb, 0, none⟩) 1 1] w fun e w' => e = .returned (.slice (some ⟨g, 0, none⟩) (ls.length + 1) cap) ∧ InsPost g cap (ls.insertIdx ls.length l) w w' := by
  have hcm' : cap ≤ 9223372036854775807 := by simpa [maxLen] using hcm
  have hfl : (flat ls).length = ls.length * 3 := flat_len ls
  have hrun : ∀ ty, (Builtin.append_ #[22, 22] ty #[.slice (some ⟨g, 0, none⟩) ls.length cap, .slice (some ⟨vb, 0, none⟩) 1 1]).run Try.prog w = .ok (.slice (some ⟨g, 0, none⟩) (ls.length + 1) cap) (w.setRow g (over cur (ls.length * 3) (flat [l]))) := fun ty => by
    obtain ⟨i0, hi, hz0, hz1, hz2⟩ := info_parts Try.info31
    have := run_append_room (P := Try.prog) w 22 ty 31 i0 Try.underlying22 hi g ls.length cap cur hR ⟨vb, 0, none⟩ 1 1 (flat [l]) (by rw [hz1]; rfl) (fun j u hu => by
      rw [addr_add, Nat.zero_add, hV.cell]
      rw [flat_one] at hu
      simpa using hu) (flat_ones [l] (by intro x hx; simp at hx; subst hx; exact hd)) hcap (by rw [hz1, hcs]; simp [flat]; omega)
    rw [hz1] at this
    exact this
  have hpost : InsPost g cap (ls.insertIdx ls.length l) w (w.setRow g (over cur (ls.length * 3) (flat [l]))) := by
    refine ⟨⟨_, setRow_heap _ _ _ _ 31 _ hR, by rw [over_size _ _ _ (by simp [flat]; omega), hcs], ?_⟩, fun k hk => heap_setRow_other _ _ _ hk, rfl, rfl, rfl, by simp [World.setRow]⟩
    rw [insert_split _ _ _ (Nat.le_refl _), List.take_length, List.drop_length, List.length_append, flat_append, over_take _ _ _ _ (by omega) (by simp; omega) (by simp [flat]; omega), htk]
    congr 1
    exact List.take_of_length_le (by simp [flat]; omega)
  generalize w.setRow g (over cur (ls.length * 3) (flat [l])) = w1 at *
  have hcne : ¬ (cap = ls.length) := by omega
  clear hR hV htk hcs
  go_enter Try.func30, Try.ntmps30
  go_wp2_with (first | (at_builtin; go_must (refine wpList_append_run rfl _ _ rfl _ _ _ rfl rfl (hrun _) ?_)) | fail)
  go_ret
  exact ⟨rfl, hpost⟩

set_option maxRecDepth 100000 in
set_option maxHeartbeats 3200000 in
/-- slices.Insert of one letter, ahead of others, there is room. -/
theorem insert_mid (w : World) (g cap : Nat) (cur : Array Value) (ls : List LetV) (hR : Blk w g cur 31) (hcs : cur.size = cap * 3) (htk : cur.toList.take (ls.length * 3) = flat ls) (hcap : ls.length + 1 ≤ cap) (hcm : cap ≤ maxLen)
    (hld : ∀ x ∈ ls, x.d.oneCell' = true) (i : Nat) (hi : i < ls.length) (vb : Nat) (l : LetV) (hV : Blk w vb l.c 31) (hne : vb ≠ g) (hd : l.d.oneCell' = true) :
    Calls Try.prog 30 #[.slice (some ⟨g, 0, none⟩) ls.length cap, .int .i64 (i : Nat), .slice (some ⟨vb, 0, none⟩) 1 1] w fun e w' => e = .returned (.slice (some ⟨g, 0, none⟩) (ls.length + 1) cap) ∧ InsPost g cap (ls.insertIdx i l) w w' := by
  have hcm' : cap ≤ 9223372036854775807 := by simpa [maxLen] using hcm
  have hcne : ¬ (cap = i) := by omega
  have hcne1 : ¬ (cap = i + 1) := by omega
  have hin : ¬ ((i : Int) = (ls.length : Int)) := by omega
  have hlt : ¬ ((cap : Int) < (ls.length : Int) + 1) := by omega
  have hov : ∀ a lb cb, a.block = g → (callFunc 41 #[.slice (some ⟨vb, 0, none⟩) 1 1, .slice (some a) lb cb]).run Try.prog w = .ok (.value (.bool false)) w := fun a lb cb ha => by
    rw [run_callFunc_extern Try.func41 (by kernel_rfl) (by kernel_rfl) (by kernel_rfl) (e := Extern.SlicesOverlaps.overlaps #[22, 22] #[4]) (by kernel_rfl),
      Lib.run_overlaps_apart w 22 4 31 Try.underlying22 3 run_size31 ⟨vb, 0, none⟩ a 1 1 lb cb (by rw [ha]; exact hne) 31 31 l.c.size cur.size (by unfold Blk at hV; simp [World.shape?, hV]) (by rw [ha]; unfold Blk at hR; simp [World.shape?, hR]) (by omega) (hV.frozen 0) (hV.frozen _)]
    rfl
  have hov1 := fun lb cb => hov ⟨g, (i + 1) * 3, none⟩ lb cb rfl
  clear hov
  go_enter Try.func30, Try.ntmps30
  go_wp2_with (simp only [hov1])
  rename_i K hK
  refine wp_region_mix (fun _ => True) (fun i => i == 8) 8 (by kernel_rfl) rfl (by kernel_rfl) (by kernel_rfl) (by kernel_rfl) ?_
  have hRW : Blk ({ w with drawn := w.drawn + 1 } : World) g cur 31 := hR
  have hVW : Blk ({ w with drawn := w.drawn + 1 } : World) vb l.c 31 := hV
  have hWo : (∀ k : Nat, ({ w with drawn := w.drawn + 1 } : World).heap[k]? = w.heap[k]?) ∧ ({ w with drawn := w.drawn + 1 } : World).os = w.os ∧ ({ w with drawn := w.drawn + 1 } : World).tape = w.tape ∧ ({ w with drawn := w.drawn + 1 } : World).output = w.output ∧ ({ w with drawn := w.drawn + 1 } : World).heap.size = w.heap.size := ⟨fun _ => rfl, rfl, rfl, rfl, rfl⟩
  generalize ({ w with drawn := w.drawn + 1 } : World) = W at *
  have hdl : (ls.drop i).length = ls.length - i := by rw [List.length_drop]
  have hcp1 : (Builtin.copy_ #[22, 22] 3 #[from_ g (ls.length + 1) cap (i + 1), from_ g (ls.length + 1) cap i]).run Try.prog W = .ok (.int .i64 ((ls.length - i : Nat) : Int)) (W.setRow g (over cur ((i + 1) * 3) (flat (ls.drop i)))) := by
    rw [from_, if_neg hcne1, from_, if_neg hcne]
    refine copy3 hRW ((i + 1) * 3) _ _ _ _ (ls.length - i) _ (ls.drop i) (by simp only [Nat.min_def]; split <;> omega) hdl (by omega) (fun h0 => ?_) (fun x hx => hld x (List.mem_of_mem_drop hx)) 3
    refine ⟨_, rfl, fun j u hu => ?_⟩
    rw [addr_add, hRW.cell, ← Array.getElem?_toList]
    rw [← flat_drop, List.getElem?_drop, ← htk, List.getElem?_take] at hu
    split at hu
    · exact hu
    · cases hu
  have hC : True := trivial
  refine withFrL (N := 95) rfl ?_
  intro a0 f0 F0 hff
  have h0 : f0 0 = .slice (some ⟨g, 0, none⟩) (ls.length + 1) cap := hff 0
  have h1 : f0 1 = .int .i64 (i : Nat) := hff 1
  have h2 : f0 2 = .slice (some ⟨vb, 0, none⟩) 1 1 := hff 2
  have h7 : f0 7 = .int .i64 1 := hff 7
  clear hff
  refine ly F0 rfl hC rfl (by omega) (wanted_none rfl) (v := Value.slice (some ⟨g, 0, none⟩) (ls.length + 1) cap) (fun wr hwr => by simp only [execOp, (F0.eval 0 (by omega)).trans (show _ = Value.slice (some ⟨g, 0, none⟩) (ls.length + 1) cap from by simp [upd, h0, h1, h7])]; first | rfl | simp [go_sem]) fun a1 F1 => ?_
  refine ly F1 rfl hC rfl (by omega) (wanted_none rfl) (v := Value.int .i64 (i : Nat)) (fun wr hwr => by simp only [execOp, (F1.eval 1 (by omega)).trans (show _ = Value.int .i64 (i : Nat) from by simp [upd, h0, h1, h7])]; first | rfl | simp [go_sem]) fun a2 F2 => ?_
  refine ly F2 rfl hC rfl (by omega) (wanted_none rfl) (v := Value.int .i64 1) (fun wr hwr => by simp only [execOp, (F2.eval 7 (by omega)).trans (show _ = Value.int .i64 1 from by simp [upd, h0, h1, h7])]; first | rfl | simp [go_sem]) fun a3 F3 => ?_
  refine ly F3 rfl hC rfl (by omega) (wanted_none rfl) (v := Value.int .i64 ((i + 1 : Nat) : Int)) (fun wr hwr => by simp only [execOp, (F3.eval 70 (by omega)).trans (show _ = Value.int .i64 (i : Nat) from by simp [upd, h0, h1, h7]), (F3.eval 71 (by omega)).trans (show _ = Value.int .i64 1 from by simp [upd, h0, h1, h7])]; simp [go_sem]; rw [IntKind.wrap_i64]; omega) fun a4 F4 => ?_
  refine ly F4 rfl hC rfl (by omega) (wanted_none rfl) (v := from_ g (ls.length + 1) cap (i + 1)) (fun wr hwr => by simp only [execOp, Option.map_some, Option.map_none, (F4.eval 69 (by omega)).trans (show _ = Value.slice (some ⟨g, 0, none⟩) (ls.length + 1) cap from by simp [upd, h0, h1, h7]), (F4.eval 72 (by omega)).trans (show _ = Value.int .i64 ((i + 1 : Nat) : Int) from by simp [upd, h0, h1, h7]), Sem.run_bind, slice_from g (ls.length + 1) cap (i + 1) (by omega) hcap wr, Result.andThen_ok, Sem.run_pure]) fun a5 F5 => ?_
  refine ly F5 rfl hC rfl (by omega) (wanted_none rfl) (v := Value.slice (some ⟨g, 0, none⟩) (ls.length + 1) cap) (fun wr hwr => by simp only [execOp, (F5.eval 0 (by omega)).trans (show _ = Value.slice (some ⟨g, 0, none⟩) (ls.length + 1) cap from by simp [upd, h0, h1, h7])]; first | rfl | simp [go_sem]) fun a6 F6 => ?_
  refine ly F6 rfl hC rfl (by omega) (wanted_none rfl) (v := Value.int .i64 (i : Nat)) (fun wr hwr => by simp only [execOp, (F6.eval 1 (by omega)).trans (show _ = Value.int .i64 (i : Nat) from by simp [upd, h0, h1, h7])]; first | rfl | simp [go_sem]) fun a7 F7 => ?_
  refine ly F7 rfl hC rfl (by omega) (wanted_none rfl) (v := from_ g (ls.length + 1) cap i) (fun wr hwr => by simp only [execOp, Option.map_some, Option.map_none, (F7.eval 74 (by omega)).trans (show _ = Value.slice (some ⟨g, 0, none⟩) (ls.length + 1) cap from by simp [upd, h0, h1, h7]), (F7.eval 75 (by omega)).trans (show _ = Value.int .i64 (i : Nat) from by simp [upd, h0, h1, h7]), Sem.run_bind, slice_from g (ls.length + 1) cap i (by omega) hcap wr, Result.andThen_ok, Sem.run_pure]) fun a8 F8 => ?_
  refine le F8 rfl hC rfl (by omega) (wanted_none rfl) (v := Value.int .i64 ((ls.length - i : Nat) : Int)) (w1 := W.setRow g (over cur ((i + 1) * 3) (flat (ls.drop i)))) (by simp only [execOp, resolve, invoke, builtin, Sem.run_bind, Sem.run_pure, Result.andThen_ok, List.map_toArray, List.map_cons, List.map_nil, (F8.eval 73 (by omega)).trans (show _ = from_ g (ls.length + 1) cap (i + 1) from by simp [upd, h0, h1, h7]), (F8.eval 76 (by omega)).trans (show _ = from_ g (ls.length + 1) cap i from by simp [upd, h0, h1, h7]), hcp1]) fun a9 F9 => ?_

  refine ⟨fun h => by omega, ?_⟩
  refine done3 F9 (p := 0) (q := 1) (r := 2) (show _ = Value.slice (some ⟨g, 0, none⟩) (ls.length + 1) cap from by simp [upd, h0]) (show _ = Value.int .i64 (i : Nat) from by simp [upd, h1]) (show _ = Value.slice (some ⟨vb, 0, none⟩) 1 1 from by simp [upd, h2]) fun f' F' k0 k1 k2 => ?_
  clear F0 F1 F2 F3 F4 F5 F6 F7 F8 F9 h0 h1 h2 h7 hcp1
  have hfd : (flat (ls.drop i)).length = (ls.length - i) * 3 := by rw [flat_len, hdl]
  have hX : Blk (W.setRow g (over cur ((i + 1) * 3) (flat (ls.drop i)))) g (over cur ((i + 1) * 3) (flat (ls.drop i))) 31 := setRow_heap _ _ _ _ 31 _ hRW
  have hXV : Blk (W.setRow g (over cur ((i + 1) * 3) (flat (ls.drop i)))) vb l.c 31 := (heap_setRow_other _ _ _ hne).trans hVW
  have hsz1 : (over cur ((i + 1) * 3) (flat (ls.drop i))).size = cap * 3 := by rw [over_size _ _ _ (by omega), hcs]
  have htk1 : (over cur ((i + 1) * 3) (flat (ls.drop i))).toList.take (i * 3) = flat (ls.take i) := by
    rw [over_take_low _ _ _ _ (by omega) (by omega), ← flat_take, ← htk, List.take_take, Nat.min_eq_left (by omega)]
  have hdr1 : ((over cur ((i + 1) * 3) (flat (ls.drop i))).toList.drop ((i + 1) * 3)).take ((ls.length - i) * 3) = flat (ls.drop i) := by
    rw [over_drop _ _ _ (by omega), List.take_append_of_le_length (by omega), List.take_of_length_le (by omega)]
  have hXo : ∀ k, k ≠ g → (W.setRow g (over cur ((i + 1) * 3) (flat (ls.drop i)))).heap[k]? = w.heap[k]? := fun k hk => (heap_setRow_other _ _ _ hk).trans (hWo.1 k)
  have hXs : (W.setRow g (over cur ((i + 1) * 3) (flat (ls.drop i)))).os = w.os ∧ (W.setRow g (over cur ((i + 1) * 3) (flat (ls.drop i)))).tape = w.tape ∧ (W.setRow g (over cur ((i + 1) * 3) (flat (ls.drop i)))).output = w.output ∧ (W.setRow g (over cur ((i + 1) * 3) (flat (ls.drop i)))).heap.size = w.heap.size := ⟨hWo.2.1, hWo.2.2.1, hWo.2.2.2.1, by simp [World.setRow]; exact hWo.2.2.2.2⟩
  generalize W.setRow g (over cur ((i + 1) * 3) (flat (ls.drop i))) = X at *
  generalize over cur ((i + 1) * 3) (flat (ls.drop i)) = cur1 at *
  have hcp2 : ∀ dl dc ty, 1 ≤ dl → (Builtin.copy_ #[22, 22] ty #[.slice (some ⟨g, i * 3, none⟩) dl dc, .slice (some ⟨vb, 0, none⟩) 1 1]).run Try.prog X = .ok (.int .i64 1) (X.setRow g (over cur1 (i * 3) (flat [l]))) := fun dl dc ty hdl1 => by
    refine copy3 hX (i * 3) dl dc 1 1 1 _ [l] (by simp only [Nat.min_def]; split <;> omega) rfl (by omega) (fun _ => ⟨_, rfl, fun j u hu => ?_⟩) (by intro x hx; simp at hx; subst hx; exact hd) ty
    rw [addr_add, Nat.zero_add, hXV.cell]
    rw [flat_one] at hu
    simpa using hu
  have hcp3 := fun ty => hcp2 (ls.length + 1 - i) (cap - i) ty (by omega)
  have hpost : InsPost g cap (ls.insertIdx i l) w (X.setRow g (over cur1 (i * 3) (flat [l]))) := by
    refine ⟨⟨_, setRow_heap _ _ _ _ 31 _ hX, by rw [over_size _ _ _ (by simp [flat]; omega), hsz1], ?_⟩, fun k hk => (heap_setRow_other _ _ _ hk).trans (hXo k hk), hXs.1, hXs.2.1, hXs.2.2.1, by simp [World.setRow]; exact hXs.2.2.2⟩
    have hlI : (ls.insertIdx i l).length = ls.length + 1 := by rw [insert_split _ _ _ (by omega)]; simp; omega
    rw [hlI, over_take_high _ _ _ _ (by omega) (by simp [flat]; omega), htk1, insert_split _ _ _ (by omega), flat_append, show l :: ls.drop i = [l] ++ ls.drop i from rfl, flat_append, ← List.append_assoc]
    congr 1
    rw [show (flat [l]).length = 3 from rfl, show i * 3 + 3 = (i + 1) * 3 from by omega, show (ls.length + 1) * 3 - (i + 1) * 3 = (ls.length - i) * 3 from by omega]
    exact hdr1
  generalize X.setRow g (over cur1 (i * 3) (flat [l])) = Y at *
  have HP : Hid _ := hpost
  clear hpost hcp2 hX hXV hsz1 htk1 hdr1 hXo hXs hfd hdl hRW hVW hWo hR hV htk hcs hld hov1
  show K _ _
  apply hK
  rw [F'.lit, show ((List.range 95).map f').toArray = #[f' 0, f' 1, f' 2, f' 3, f' 4, f' 5, f' 6, f' 7, f' 8, f' 9, f' 10, f' 11, f' 12, f' 13, f' 14, f' 15, f' 16, f' 17, f' 18, f' 19, f' 20, f' 21, f' 22, f' 23, f' 24, f' 25, f' 26, f' 27, f' 28, f' 29, f' 30, f' 31, f' 32, f' 33, f' 34, f' 35, f' 36, f' 37, f' 38, f' 39, f' 40, f' 41, f' 42, f' 43, f' 44, f' 45, f' 46, f' 47, f' 48, f' 49, f' 50, f' 51, f' 52, f' 53, f' 54, f' 55, f' 56, f' 57, f' 58, f' 59, f' 60, f' 61, f' 62, f' 63, f' 64, f' 65, f' 66, f' 67, f' 68, f' 69, f' 70, f' 71, f' 72, f' 73, f' 74, f' 75, f' 76, f' 77, f' 78, f' 79, f' 80, f' 81, f' 82, f' 83, f' 84, f' 85, f' 86, f' 87, f' 88, f' 89, f' 90, f' 91, f' 92, f' 93, f' 94] from rfl, k0, k1, k2]
  go_wp2
  go_ret
  exact ⟨rfl, HP.out⟩
end Go.Proofs.Ytehjdkdoalmaeaa
