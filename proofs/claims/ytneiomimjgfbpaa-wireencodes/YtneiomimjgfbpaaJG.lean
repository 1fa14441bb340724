import Derived.Test.YtneiomimjgfbpaaJE
import Derived.Test.YtneiomimjgfbpaaJF
import Derived.Test.YtneiomimjgfbpaaJP
namespace Go.Proofs.Ytneiomimjgfbpaa
open Go.RowKit Go.PlainAid
set_option linter.unusedSimpArgs false
set_option linter.unusedVariables false
theorem plain_cellsJ (W : World) (cs : Array Value) (xs : List Nat) (h : cs.toList = xs.map fun x => Value.int .i64 ((x : Nat) : Int)) : ∀ i x, xs[i]? = some x → (W.alloc (.cells cs 3)).cell? ⟨W.heap.size, 0 + i, none⟩ = some (.int .i64 ((x : Nat) : Int)) := by
  intro i x hx
  rw [Nat.zero_add, cell_of_row _ _ _ _ _ _ (heap_alloc_new W _), ← Array.getElem?_toList, h, List.getElem?_map, hx]
  rfl
theorem str_where {w : World} {base k : Nat} {v : Value} {xs : List UInt8} (hown : w.ownsRow base 5 1 v k (xs.map B)) (t : ByteArray) (hlen : k + t.size ≤ 140737488355328) (ty : TypeId)
    {v' : Value} {w' : World} (hr : (Builtin.append_ #[22, 9] ty #[v, .string t]).run Try.prog w = .ok v' w') : ∀ j, v'.ownBlock = some j → v.ownBlock = some j ∨ w.heap.size ≤ j := by
  obtain ⟨i0, hi, hz0, hz1, hz2⟩ := info_parts Try.info5
  rcases hown.2 with ⟨rfl, rfl⟩ | ⟨g, c, cur, rfl, _, hg, hnc, hcm, hcs, htk⟩
  · obtain ⟨v1, w1, hr1, ho1, _⟩ := Lib.run_append_own_string (P := Try.prog) w w.heap.size 22 9 ty 5 i0 Try.underlying22 Try.underlying9 hi hz0 hz1 hz2 (.slice none 0 0) 0 [] (World.ownsRow_nil _ _ _ _) t (by unfold maxLen; omega) (by omega) (Nat.le_refl _)
    rw [hr] at hr1
    cases hr1
    exact fun j hj => Or.inr (ho1.lt j hj).1
  · by_cases hroom : k + t.size ≤ c
    · have hr1 := Lib.run_append_room_string (P := Try.prog) w 22 9 ty 5 i0 Try.underlying22 Try.underlying9 hi hz1 g k c cur hg t hroom (by omega)
      rw [hr] at hr1
      cases hr1
      exact fun j hj => Or.inl hj
    · have hr1 := Lib.run_append_grow_string (P := Try.prog) w 22 9 ty 5 i0 _ Try.underlying22 Try.underlying9 hi hz0 ⟨g, 0, none⟩ k c (xs.map B) (by rw [hz1]; exact hown.1) (hown.cells (g := g) rfl) t (by omega) (by omega) (by rw [hz2]; exact growslice_fits (by omega) (by omega))
      rw [hr] at hr1
      cases hr1
      intro j hj
      cases hj
      exact Or.inr (Nat.le_refl _)
structure WG (w : World) (base : Nat) (v0 : Value) (bx : List (Nat × Array Value × TypeId)) (v : Value) (out : List UInt8) (W : World) : Prop where
  own : W.ownsRow base 5 1 v out.length (out.map B)
  grew : Grew w W v0 v
  blk : ∀ x ∈ bx, Blk W x.1 x.2.1 x.2.2
  ne : ∀ x ∈ bx, v.ownBlock ≠ some x.1
  le : base ≤ W.heap.size
def CX (bx : List (Nat × Array Value × TypeId)) (W : World) : Prop := ∀ x ∈ bx, Blk W x.1 x.2.1 x.2.2
theorem Grew.alloc {w W : World} {v v' : Value} (h : Grew w W v v') (o : Obj) : Grew w (W.alloc o) v v' := by
  refine ⟨⟨h.g.os, h.g.tape, h.g.output, by rw [World.size_alloc]; have := h.g.size; omega, fun k hk hne => (Below.heap_alloc _ _ _ (by have := h.g.size; omega)).trans (h.g.block k hk hne)⟩, h.at'⟩
section
variable {w W W' : World} {base : Nat} {v0 v v' : Value} {bx : List (Nat × Array Value × TypeId)} {out out' : List UInt8}
theorem WG.cx (h : WG w base v0 bx v out W) : CX bx W := h.blk
theorem WG.alloc (h : WG w base v0 bx v out W) (o : Obj) : WG w base v0 bx v out (W.alloc o) :=
  ⟨World.ownsRow.alloc h.own o, h.grew.alloc o, fun x hx => (Below.heap_alloc _ _ _ (h.blk x hx).lt).trans (h.blk x hx), h.ne, by rw [World.size_alloc]; have := h.le; omega⟩
theorem WG.step (h : WG w base v0 bx v out W) (ho : W'.ownsRow base 5 1 v' out'.length (out'.map B)) (g : Grew W W' v v') : WG w base v0 bx v' out' W' := by
  refine ⟨ho, h.grew.trans g, fun x hx => (g.g.block x.1 (h.blk x hx).lt (fun e => h.ne x hx e.symm)).trans (h.blk x hx), fun x hx e => ?_, Nat.le_trans h.le g.g.size⟩
  rcases g.at' _ e with e1 | e1
  · exact h.ne x hx e1
  · have := (h.blk x hx).lt; omega
theorem WG.of (h : w.ownsRow base 5 1 v out.length (out.map B)) (hb : base ≤ w.heap.size) (hx : ∀ x ∈ bx, Blk w x.1 x.2.1 x.2.2) (hn : ∀ x ∈ bx, v.ownBlock ≠ some x.1) : WG w base v bx v out w := ⟨h, Grew.refl _ _, hx, hn, hb⟩
theorem WG.box (h : WG w base v0 bx v out W) (D : Array Value) (ty : TypeId) : WG w base v0 ((W.heap.size, D, ty) :: bx) v out (W.alloc (.cells D ty)) := by
  have a := h.alloc (.cells D ty)
  refine ⟨a.own, a.grew, fun x hx => ?_, fun x hx => ?_, a.le⟩
  · rcases List.mem_cons.1 hx with rfl | hx
    · exact heap_alloc_new W _
    · exact a.blk x hx
  · rcases List.mem_cons.1 hx with rfl | hx
    · intro e; have := (h.own.lt _ e).2; simp at this
    · exact a.ne x hx
theorem WG.unbox {x : Nat × Array Value × TypeId} (h : WG w base v0 (x :: bx) v out W) : WG w base v0 bx v out W := ⟨h.own, h.grew, fun y hy => h.blk y (List.mem_cons_of_mem _ hy), fun y hy => h.ne y (List.mem_cons_of_mem _ hy), h.le⟩
theorem WG.drew (h : WG w base v0 bx v out W) : WG w base v0 bx v out ({ W with drawn := W.drawn + 1 } : World) := ⟨h.own, ⟨⟨h.grew.g.os, h.grew.g.tape, h.grew.g.output, h.grew.g.size, h.grew.g.block⟩, h.grew.at'⟩, h.blk, h.ne, h.le⟩
theorem plain_step (h : WG w base v0 bx v out W) (xs : List Nat) (cs : Array Value) (hcs : cs.toList = xs.map fun x => Value.int .i64 ((x : Nat) : Int)) (hr : ∀ x ∈ xs, x < 9223372036854775808) (hl : out.length + 10 * xs.length ≤ 900000) :
    Calls Try.prog 83 #[v, .slice (some ⟨W.heap.size, 0, none⟩) xs.length xs.length] (W.alloc (.cells cs 3)) fun e w' => ∃ v', e = .returned v' ∧ WG w base v0 bx v' (out ++ plainW xs) w' := by
  have ha := h.alloc (.cells cs 3)
  refine (rplain_any base v out (W.alloc (.cells cs 3)) ha.own ha.le W.heap.size 0 xs.length xs.length xs rfl (plain_cellsJ W cs xs hcs) (by simp) (fun e => by have := (h.own.lt _ e).2; omega) hr hl).mono ?_
  rintro e w' ⟨v', rfl, ho, g⟩
  exact ⟨v', rfl, ha.step ho g⟩
theorem signed_step (h : WG w base v0 bx v out W) (x : Int) (hx1 : (-9223372036854775808 : Int) ≤ x) (hx2 : x < 9223372036854775808) (hl : out.length ≤ 1000000) :
    Calls Try.prog 93 #[v, .int .i64 x] W fun e w' => ∃ v', e = .returned v' ∧ WG w base v0 bx v' (out ++ put (zig x)) w' := by
  refine (rsigned_any base v out W x h.own h.le hx1 hx2 hl).mono ?_
  rintro e w' ⟨v', rfl, ho, g⟩
  exact ⟨v', rfl, h.step ho g⟩
theorem wpList_text {ops : Array Oper} {rest : List Oper} {o : Oper} {a : Act} {Q : Exit → Act → World → Prop} (hgd : o.guard = none) (s x : Operand)
    (ho : o.op = .call { callee := .builtin .append, args := #[s, x], argTypes := #[22, 9] }) (t : List UInt8) (hG : WG w base v0 bx v out W) (hs : a.eval s = v) (hx : a.eval x = .string ⟨t.toArray⟩) (ht : t.length ≤ 1000) (hl : out.length ≤ 1000000)
    (h : ∀ v' w', WG w base v0 bx v' (out ++ t) w' → wpList Try.prog ops Q rest (a.put o.dst v') w') : wpList Try.prog ops Q (o :: rest) a W := by
  obtain ⟨i0, hi, hz0, hz1, hz2⟩ := info_parts Try.info5
  have hsz : (⟨t.toArray⟩ : ByteArray).size = t.length := by simp [ByteArray.size]
  refine wpList_plain hgd fun K hK => ?_
  obtain ⟨v', w', hr, h2, h3, _⟩ := Lib.run_append_own_string (P := Try.prog) W base 22 9 o.type 5 i0 Try.underlying22 Try.underlying9 hi hz0 hz1 hz2 v out.length (out.map B) hG.own ⟨t.toArray⟩ (by unfold maxLen; omega) (by omega) hG.le
  have hw := str_where hG.own ⟨t.toArray⟩ (by omega) o.type hr
  rw [hsz, strCells_str, ← List.map_append] at h2
  unfold Oper.wp execOp
  simp only [ho, resolve, invoke, builtin, Sem.run_bind, Sem.run_pure, Result.andThen_ok, List.map_toArray, List.map_cons, List.map_nil, hs, hx, hr]
  exact hK _ _ (h v' w' (hG.step (by rw [List.length_append]; exact h2) ⟨h3, hw⟩))
end
set_option maxRecDepth 100000 in
set_option maxHeartbeats 1600000 in
theorem text_step {w W : World} {base : Nat} {v0 v : Value} {bx : List (Nat × Array Value × TypeId)} {out : List UInt8} (h : WG w base v0 bx v out W) (s : List UInt8) (hs : s.length ≤ 16) (hl : out.length ≤ 800000) :
    Calls Try.prog 90 #[v, .string ⟨s.toArray⟩] W fun e w' => ∃ v', e = .returned v' ∧ WG w base v0 bx v' (out ++ (put s.length ++ s)) w' := by
  have hp := plain_step h [s.length] #[.int .i64 ((s.length : Nat) : Int)] rfl (by intro x hx; simp at hx; omega) (by simp; omega)
  have hpl : plainW [s.length] = put s.length := by simp [plainW]
  rw [hpl] at hp
  have hk10 := (put_len s.length (by omega)).2.1
  have HK : Hid _ := hk10
  clear hpl hk10
  go_enter Try.func90, Try.ntmps90
  go_wp2_with fail
  refine (show Calls Try.prog 83 #[v, .slice (some ⟨W.heap.size, 0, none⟩) 1 1] _ _ from hp).mono ?_
  rintro e1 w1 ⟨v1, rfl, G1⟩
  have HG : Hid _ := G1
  go_wp2_with (first | (at_builtin; go_must (refine wpList_text rfl _ _ rfl s G1 rfl rfl (by omega) (by have := HK.out; simp; omega) ?_)) | fail)
  intro v2 w2 G2
  go_wp2
  go_ret
  exact ⟨v2, rfl, by simpa [List.append_assoc] using G2⟩
set_option maxRecDepth 100000 in
set_option maxHeartbeats 1600000 in
theorem putCall_step {w W : World} {base : Nat} {v0 v : Value} {bx : List (Nat × Array Value × TypeId)} {out : List UInt8} (h : WG w base v0 bx v out W) (a b : Nat) (ha : a ≤ 1099511627776) (hb : b ≤ 1099511627776) (hl : out.length ≤ 800000) :
    Calls Try.prog 89 #[v, .agg #[.int .i64 (a : Nat), .int .i64 (b : Nat)]] W fun e w' => ∃ v', e = .returned v' ∧ WG w base v0 bx v' (out ++ (put a ++ put b)) w' := by
  have G0 := h.box #[.int .i64 (a : Nat), .int .i64 (b : Nat)] 29
  have hB : Blk (W.alloc (.cells #[.int .i64 (a : Nat), .int .i64 (b : Nat)] 29)) W.heap.size #[.int .i64 (a : Nat), .int .i64 (b : Nat)] 29 := heap_alloc_new W _
  have c0 : (W.alloc (.cells #[.int .i64 (a : Nat), .int .i64 (b : Nat)] 29)).cell? ⟨W.heap.size, 0, none⟩ = some (.int .i64 (a : Nat)) := hB.cell 0
  have c1 : (W.alloc (.cells #[.int .i64 (a : Nat), .int .i64 (b : Nat)] 29)).cell? ⟨W.heap.size, 1, none⟩ = some (.int .i64 (b : Nat)) := hB.cell 1
  have hp := plain_step G0 [a, b] #[.int .i64 (a : Nat), .int .i64 (b : Nat)] rfl (by intro x hx; simp at hx; omega) (by simp; omega)
  have hpl : plainW [a, b] = put a ++ put b := by simp [plainW]
  rw [hpl, World.size_alloc] at hp
  clear hpl hB G0 h
  go_enter Try.func89, Try.ntmps89
  go_wp2_with fail
  refine (show Calls Try.prog 83 #[v, .slice (some ⟨W.heap.size + 1, 0, none⟩) 2 2] _ _ from hp).mono ?_
  rintro e1 w1 ⟨v1, rfl, G1⟩
  go_wp2
  go_ret
  exact ⟨v1, rfl, G1.unbox⟩
end Go.Proofs.Ytneiomimjgfbpaa
namespace Go.Proofs.Ytneiomimjgfbpaa
open Go.RowKit Go.PlainAid
set_option linter.unusedSimpArgs false
set_option linter.unusedVariables false
theorem withFrJ {ops : Array Oper} {C : World → Prop} {eff : Nat → Bool} {Q : Act → World → Prop} {l : List Oper} {k : Nat} {t : Array Value} {w : World} {N : Nat} (ht : t.size = N) (h : ∀ a f, Fr N a f → (∀ j, f j = t.getD j undef) → wpLex Try.prog ops C eff Q l k a w) : wpLex Try.prog ops C eff Q l k { tmps := t, defers := [] } w :=
  h _ _ (Fr.ofLit t ht) fun _ => rfl
set_option maxRecDepth 100000 in
set_option maxHeartbeats 1600000 in
theorem putOp_step {w W : World} {base : Nat} {v0 v : Value} {bx : List (Nat × Array Value × TypeId)} {out : List UInt8} (h : WG w base v0 bx v out W) (k : Nat) (s : List UInt8) (a b : Int) (hk : k ≤ 11) (hs : s.length ≤ 16) (ha1 : (-9223372036854775808 : Int) ≤ a) (ha2 : a < 9223372036854775808) (hb1 : (-9223372036854775808 : Int) ≤ b) (hb2 : b < 9223372036854775808) (hl : out.length ≤ 700000) :
    Calls Try.prog 88 #[v, .agg #[.int .i64 (k : Nat), .string ⟨s.toArray⟩, .int .i64 a, .int .i64 b]] W fun e w' => ∃ v', e = .returned v' ∧ WG w base v0 bx v' (out ++ (put k ++ ((put s.length ++ s) ++ (put (zig a) ++ put (zig b))))) w' := by
  have G0 := h.box #[.int .i64 (k : Nat), .string ⟨s.toArray⟩, .int .i64 a, .int .i64 b] 31
  have HB : Hid _ := h
  clear h
  obtain ⟨BX, hBX⟩ : ∃ BX, BX = (W.heap.size, #[Value.int .i64 (k : Nat), .string ⟨s.toArray⟩, .int .i64 a, .int .i64 b], (31 : TypeId)) :: bx := ⟨_, rfl⟩
  rw [← hBX] at G0
  have hcell : ∀ wr, CX BX wr → Blk wr W.heap.size #[Value.int .i64 (k : Nat), .string ⟨s.toArray⟩, .int .i64 a, .int .i64 b] 31 := fun wr hwr => hwr _ (by rw [hBX]; exact List.mem_cons_self)
  have HBX : Hid _ := hBX
  clear hBX
  have HC : Hid _ := hcell
  clear hcell
  go_enter Try.func88, Try.ntmps88
  go_wp2_with fail
  rename_i K hK
  refine wp_region_mix (CX BX) (fun i => i == 3 || i == 4 || i == 7 || i == 10 || i == 13) (by kernel_rfl) (by kernel_rfl) (by kernel_rfl) ?_
  have hcell := HC.out
  replace G0 := G0.drew
  generalize ({ (W.alloc (.cells #[.int .i64 (k : Nat), .string ⟨s.toArray⟩, .int .i64 a, .int .i64 b] 31)) with drawn := (W.alloc (.cells #[.int .i64 (k : Nat), .string ⟨s.toArray⟩, .int .i64 a, .int .i64 b] 31)).drawn + 1 } : World) = Y at *
  generalize W.heap.size = B at *
  refine withFrJ (N := 19) rfl ?_
  intro a0 f hF hff
  have h0 : f 0 = v := hff 0
  have h3 : f 3 = .pointer (some ⟨B, 0, none⟩) := hff 3
  clear hff
  refine ly hF rfl G0.cx rfl (by omega) (wanted_none rfl) (v := v) (fun wr hwr => by simp only [execOp, (hF.eval 0 (by omega)).trans (show _ = v from by simp [upd, h0, h3])]; rfl) fun a1 F1 => ?_
  refine ly F1 rfl G0.cx rfl (by omega) (wanted_none rfl) (v := Value.pointer (some ⟨B, 0, none⟩)) (fun wr hwr => by simp only [execOp, (F1.eval 3 (by omega)).trans (show _ = Value.pointer (some ⟨B, 0, none⟩) from by simp [upd, h0, h3])]; simp [go_sem]) fun a2 F2 => ?_
  refine ly F2 rfl G0.cx rfl (by omega) (wanted_none rfl) (v := Value.int .i64 (k : Nat)) (fun wr hwr => by simp only [execOp, (F2.eval 6 (by omega)).trans (show _ = Value.pointer (some ⟨B, 0, none⟩) from by simp [upd, h0, h3])]; simp [go_sem, (show wr.cell? ⟨B, 0, none⟩ = some (Value.int .i64 (k : Nat)) from ((hcell wr hwr).cell 0).trans rfl)]) fun a3 F3 => ?_
  refine le F3 rfl G0.cx rfl (by omega) (wanted_none rfl) (v := Value.slice (some ⟨Y.heap.size, 0, none⟩) 1 1) (w1 := Y.alloc (.cells #[.int .i64 ((k : Nat) : Int)] 3)) (by simp only [execOp, List.map_toArray, List.map_cons, List.map_nil, (F3.eval 7 (by omega)).trans (show _ = Value.int .i64 (k : Nat) from by simp [upd, h0, h3])]; simp [go_sem]) fun a4 F4 => ?_
  refine lc F4 rfl (G0.alloc (.cells #[.int .i64 ((k : Nat) : Int)] 3)).cx rfl (by omega) (wanted_none rfl) (g := 83) (args := #[v, Value.slice (some ⟨Y.heap.size, 0, none⟩) 1 1]) (by simp only [execOp, resolve, invoke, List.map_toArray, List.map_cons, List.map_nil, (F4.eval 5 (by omega)).trans (show _ = v from by simp [upd, h0, h3]), (F4.eval 8 (by omega)).trans (show _ = Value.slice (some ⟨Y.heap.size, 0, none⟩) 1 1 from by simp [upd, h0, h3])]; simp [go_sem, Act.eval]) (plain_step G0 [k] #[.int .i64 ((k : Nat) : Int)] rfl (by intro x hx; simp at hx; omega) (by simp; omega)) ?_
  rintro e1 x1 ⟨v1, rfl, G1⟩
  refine ⟨v1, rfl, fun a5 F5 => ?_⟩
  refine ly F5 rfl G1.cx rfl (by omega) (wanted_none rfl) (v := Value.pointer (some ⟨B, 1, none⟩)) (fun wr hwr => by simp only [execOp, (F5.eval 3 (by omega)).trans (show _ = Value.pointer (some ⟨B, 0, none⟩) from by simp [upd, h0, h3])]; simp [go_sem]) fun a6 F6 => ?_
  refine ly F6 rfl G1.cx rfl (by omega) (wanted_none rfl) (v := Value.string ⟨s.toArray⟩) (fun wr hwr => by simp only [execOp, (F6.eval 10 (by omega)).trans (show _ = Value.pointer (some ⟨B, 1, none⟩) from by simp [upd, h0, h3])]; simp [go_sem, (show wr.cell? ⟨B, 1, none⟩ = some (Value.string ⟨s.toArray⟩) from ((hcell wr hwr).cell 1).trans rfl)]) fun a7 F7 => ?_
  have hp1 : plainW [k] = put k := by simp [plainW]
  rw [hp1] at G1
  have hk10 := (put_len k (by omega)).2.1
  refine lc F7 rfl G1.cx rfl (by omega) (wanted_none rfl) (g := 90) (args := #[v1, Value.string ⟨s.toArray⟩]) (by simp only [execOp, resolve, invoke, List.map_toArray, List.map_cons, List.map_nil, (F7.eval 9 (by omega)).trans (show _ = v1 from by simp [upd, h0, h3]), (F7.eval 11 (by omega)).trans (show _ = Value.string ⟨s.toArray⟩ from by simp [upd, h0, h3])]; simp [go_sem, Act.eval]) (text_step G1 s hs (by simp; omega)) ?_
  rintro e2 x2 ⟨v2, rfl, G2⟩
  refine ⟨v2, rfl, fun a8 F8 => ?_⟩
  refine ly F8 rfl G2.cx rfl (by omega) (wanted_none rfl) (v := Value.pointer (some ⟨B, 2, none⟩)) (fun wr hwr => by simp only [execOp, (F8.eval 3 (by omega)).trans (show _ = Value.pointer (some ⟨B, 0, none⟩) from by simp [upd, h0, h3])]; simp [go_sem]) fun a9 F9 => ?_
  refine ly F9 rfl G2.cx rfl (by omega) (wanted_none rfl) (v := Value.int .i64 a) (fun wr hwr => by simp only [execOp, (F9.eval 13 (by omega)).trans (show _ = Value.pointer (some ⟨B, 2, none⟩) from by simp [upd, h0, h3])]; simp [go_sem, (show wr.cell? ⟨B, 2, none⟩ = some (Value.int .i64 a) from ((hcell wr hwr).cell 2).trans rfl)]) fun a10 F10 => ?_
  have hs10 := (put_len s.length (by omega)).2.1
  refine lc F10 rfl G2.cx rfl (by omega) (wanted_none rfl) (g := 93) (args := #[v2, Value.int .i64 a]) (by simp only [execOp, resolve, invoke, List.map_toArray, List.map_cons, List.map_nil, (F10.eval 12 (by omega)).trans (show _ = v2 from by simp [upd, h0, h3]), (F10.eval 14 (by omega)).trans (show _ = Value.int .i64 a from by simp [upd, h0, h3])]; simp [go_sem, Act.eval]) (signed_step G2 a ha1 ha2 (by simp; omega)) ?_
  rintro e3 x3 ⟨v3, rfl, G3⟩
  refine ⟨v3, rfl, fun a11 F11 => ?_⟩
  refine ly F11 rfl G3.cx rfl (by omega) (wanted_none rfl) (v := Value.pointer (some ⟨B, 3, none⟩)) (fun wr hwr => by simp only [execOp, (F11.eval 3 (by omega)).trans (show _ = Value.pointer (some ⟨B, 0, none⟩) from by simp [upd, h0, h3])]; simp [go_sem]) fun a12 F12 => ?_
  refine ly F12 rfl G3.cx rfl (by omega) (wanted_none rfl) (v := Value.int .i64 b) (fun wr hwr => by simp only [execOp, (F12.eval 16 (by omega)).trans (show _ = Value.pointer (some ⟨B, 3, none⟩) from by simp [upd, h0, h3])]; simp [go_sem, (show wr.cell? ⟨B, 3, none⟩ = some (Value.int .i64 b) from ((hcell wr hwr).cell 3).trans rfl)]) fun a13 F13 => ?_
  have ha10 := (put_len (zig a) (zig_lt a ha1 ha2)).2.1
  refine lc F13 rfl G3.cx rfl (by omega) (wanted_none rfl) (g := 93) (args := #[v3, Value.int .i64 b]) (by simp only [execOp, resolve, invoke, List.map_toArray, List.map_cons, List.map_nil, (F13.eval 15 (by omega)).trans (show _ = v3 from by simp [upd, h0, h3]), (F13.eval 17 (by omega)).trans (show _ = Value.int .i64 b from by simp [upd, h0, h3])]; simp [go_sem, Act.eval]) (signed_step G3 b hb1 hb2 (by simp; omega)) ?_
  rintro e4 x4 ⟨v4, rfl, G4⟩
  refine ⟨v4, rfl, fun a14 F14 => ?_⟩
  refine ly F14 rfl G4.cx rfl (by omega) (wanted_none rfl) (v := v4) (fun wr hwr => by simp only [execOp, (F14.eval 18 (by omega)).trans (show _ = v4 from by simp [upd, h0, h3])]; rfl) fun a15 F15 => ?_
  refine ⟨G4.cx, ?_⟩
  obtain ⟨f', F', k4⟩ : ∃ f' : Nat → Value, Fr 19 _ f' ∧ f' 4 = v4 := ⟨_, F15, by simp [upd, h0, h3]⟩
  show K _ _
  apply hK
  rw [F'.lit, show ((List.range 19).map f').toArray = #[f' 0, f' 1, f' 2, f' 3, f' 4, f' 5, f' 6, f' 7, f' 8, f' 9, f' 10, f' 11, f' 12, f' 13, f' 14, f' 15, f' 16, f' 17, f' 18] from rfl, k4]
  go_wp2
  go_ret
  rw [HBX.out] at G4
  refine ⟨v4, rfl, ?_⟩
  have := G4.unbox
  simpa [List.append_assoc] using this
end Go.Proofs.Ytneiomimjgfbpaa
namespace Go.Proofs.Ytneiomimjgfbpaa
open Go.RowKit Go.PlainAid
set_option linter.unusedSimpArgs false
set_option linter.unusedVariables false
theorem num_put {lo hi : Nat} {x : Int} (h : inB x lo hi = true) : (num lo hi).wr x = some (put x.toNat) := by
  simp only [inB, Bool.and_eq_true, decide_eq_true_eq] at h
  simp only [num]
  rw [if_pos (by simp only [Bool.and_eq_true, decide_eq_true_eq]; exact h)]
theorem signed_put {x : Int} (h1 : (-9223372036854775808 : Int) ≤ x) (h2 : x < 9223372036854775808) : signed.wr x = some (put (zig x)) := by
  simp only [signed]
  rw [if_pos (by simp only [Bool.and_eq_true, decide_eq_true_eq]; exact ⟨h1, h2⟩)]
theorem pair_put {α β : Type} {c : Codec α} {d : Codec β} {x : α} {y : β} {p q : List UInt8} (h1 : c.wr x = some p) (h2 : d.wr y = some q) : (pair c d).wr (x, y) = some (p ++ q) := by
  simp only [pair, Codec.bind, h1, h2]
theorem name_put {s : List UInt8} (h : nameB s = true) : (name []).wr s = some (put s.length ++ s) := by
  have h1 := name_is0 s
  rw [h] at h1
  have h2 : inB (s.length : Int) 1 16 = true := by
    simp only [nameB, Bool.and_eq_true, decide_eq_true_eq] at h
    simp only [inB, Bool.and_eq_true, decide_eq_true_eq]
    omega
  rw [name_wr, num_put h2] at h1 ⊢
  by_cases hg : good [] s = true
  · rw [if_pos hg]; simp
  · rw [if_neg hg] at h1; simp at h1
theorem in_nat {x : Int} {lo hi : Nat} (h : inB x lo hi = true) : ∃ n : Nat, x = (n : Nat) ∧ x.toNat = n ∧ n ≤ hi := by
  simp only [inB, Bool.and_eq_true, decide_eq_true_eq] at h
  exact ⟨x.toNat, by omega, rfl, by omega⟩
theorem call_put {a b : Int} (h : callB a b = true) : ∃ m n : Nat, a = (m : Nat) ∧ b = (n : Nat) ∧ m ≤ 1099511627776 ∧ n ≤ 1099511627776 ∧ call.wr (a, b) = some (put m ++ put n) := by
  simp only [callB, Bool.and_eq_true] at h
  obtain ⟨m, e1, t1, l1⟩ := in_nat (lo := 0) (hi := 63) h.1
  obtain ⟨n, e2, t2, l2⟩ := in_nat (lo := 1) (hi := 1099511627776) h.2
  refine ⟨m, n, e1, e2, by omega, l2, ?_⟩
  have := pair_put (num_put (lo := 0) (hi := 63) h.1) (num_put (lo := 1) (hi := 1099511627776) h.2)
  rw [t1, t2] at this
  exact this
theorem op_put {k : Int} {s : List UInt8} {a b : Int} (h : opB k s = true) (ha1 : (-9223372036854775808 : Int) ≤ a) (ha2 : a < 9223372036854775808) (hb1 : (-9223372036854775808 : Int) ≤ b) (hb2 : b < 9223372036854775808) : ∃ n : Nat, k = (n : Nat) ∧ n ≤ 11 ∧ s.length ≤ 16 ∧ op.wr (k, s, a, b) = some (put n ++ ((put s.length ++ s) ++ (put (zig a) ++ put (zig b)))) := by
  simp only [opB, Bool.and_eq_true] at h
  obtain ⟨n, e1, t1, l1⟩ := in_nat (lo := 1) (hi := 11) h.1
  have h16 : s.length ≤ 16 := by
    have := h.2
    simp only [nameB, Bool.and_eq_true, decide_eq_true_eq] at this
    omega
  refine ⟨n, e1, l1, h16, ?_⟩
  have := pair_put (num_put (lo := 1) (hi := 11) h.1) (pair_put (name_put h.2) (pair_put (signed_put ha1 ha2) (signed_put hb1 hb2)))
  rw [t1] at this
  exact this
end Go.Proofs.Ytneiomimjgfbpaa
namespace Go.Proofs.Ytneiomimjgfbpaa
open Go.RowKit Go.PlainAid
set_option maxRecDepth 100000 in
theorem lit150 (f : Nat → Value) : ((List.range 150).map f).toArray = #[f 0, f 1, f 2, f 3, f 4, f 5, f 6, f 7, f 8, f 9, f 10, f 11, f 12, f 13, f 14, f 15, f 16, f 17, f 18, f 19, f 20, f 21, f 22, f 23, f 24, f 25, f 26, f 27, f 28, f 29, f 30, f 31, f 32, f 33, f 34, f 35, f 36, f 37, f 38, f 39, f 40, f 41, f 42, f 43, f 44, f 45, f 46, f 47, f 48, f 49, f 50, f 51, f 52, f 53, f 54, f 55, f 56, f 57, f 58, f 59, f 60, f 61, f 62, f 63, f 64, f 65, f 66, f 67, f 68, f 69, f 70, f 71, f 72, f 73, f 74, f 75, f 76, f 77, f 78, f 79, f 80, f 81, f 82, f 83, f 84, f 85, f 86, f 87, f 88, f 89, f 90, f 91, f 92, f 93, f 94, f 95, f 96, f 97, f 98, f 99, f 100, f 101, f 102, f 103, f 104, f 105, f 106, f 107, f 108, f 109, f 110, f 111, f 112, f 113, f 114, f 115, f 116, f 117, f 118, f 119, f 120, f 121, f 122, f 123, f 124, f 125, f 126, f 127, f 128, f 129, f 130, f 131, f 132, f 133, f 134, f 135, f 136, f 137, f 138, f 139, f 140, f 141, f 142, f 143, f 144, f 145, f 146, f 147, f 148, f 149] := rfl
set_option linter.unusedSimpArgs false
set_option linter.unusedVariables false
theorem plain_box {w W : World} {base lb : Nat} {cs : Array Value} {v0 v : Value} {bx : List (Nat × Array Value × TypeId)} {out : List UInt8} (h : WG w base v0 ((lb, cs, 3) :: bx) v out W) (xs : List Nat) (hcs : cs.toList = xs.map fun x => Value.int .i64 ((x : Nat) : Int)) (hr : ∀ x ∈ xs, x < 9223372036854775808) (hl : out.length + 10 * xs.length ≤ 900000) :
    Calls Try.prog 83 #[v, .slice (some ⟨lb, 0, none⟩) xs.length xs.length] W fun e w' => ∃ v', e = .returned v' ∧ WG w base v0 ((lb, cs, 3) :: bx) v' (out ++ plainW xs) w' := by
  have hB : Blk W lb cs 3 := h.blk _ List.mem_cons_self
  refine (rplain_any base v out W h.own h.le lb 0 xs.length xs.length xs rfl (fun i x hx => ?_) hB.lt (h.ne _ List.mem_cons_self) hr hl).mono ?_
  · rw [Nat.zero_add, hB.cell, ← Array.getElem?_toList, hcs, List.getElem?_map, hx]
    rfl
  · rintro e w' ⟨v', rfl, ho, g⟩
    exact ⟨v', rfl, h.step ho g⟩
end Go.Proofs.Ytneiomimjgfbpaa
