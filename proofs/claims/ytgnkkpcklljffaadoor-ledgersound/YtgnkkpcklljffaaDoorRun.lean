import Derived.Test.YtgnkkpcklljffaaDoorMade
import Derived.Deep.Cut
namespace Go.Proofs.YtgnkkpcklljffaaDoor
open Go.RowKit Go.PlainAid
set_option linter.unusedVariables false
set_option linter.unusedSimpArgs false
/-- A call of the script. -/
structure OpA where
  kind : Int
  who : Int
  a : Int
  b : Int
structure OpAt (W : World) (b off : Nat) (o : OpA) : Prop where
  c0 : W.cell? ⟨b, off, none⟩ = some (.int .i64 o.kind)
  c1 : W.cell? ⟨b, off + 1, none⟩ = some (.int .i64 o.who)
  c2 : W.cell? ⟨b, off + 2, none⟩ = some (.int .i64 o.a)
  c3 : W.cell? ⟨b, off + 3, none⟩ = some (.int .i64 o.b)
  w2 : IntKind.i64.wrap o.a = o.a
  w3 : IntKind.i64.wrap o.b = o.b
/-- The two pairs of a run. -/
structure RI (S : Sens) (L : Nat) (va vb : Value) (pa la ra pb lb rb : Nat) (W0 w : World) : Prop where
  a : Side pa la ra va w
  b : Side pb lb rb vb w
  m : L ≤ la ∧ L ≤ ra ∧ L ≤ lb ∧ L ≤ rb
  ne : va ≠ .pointer none → vb ≠ .pointer none → la ≠ lb ∧ ra ≠ rb
  sen : Sen S L W0
  size : L ≤ W0.heap.size
  q : Below L W0 w
theorem RI.swap {S : Sens} {L : Nat} {va vb : Value} {pa la ra pb lb rb : Nat} {W0 w : World} (h : RI S L va vb pa la ra pb lb rb W0 w) : RI S L vb va pb lb rb pa la ra W0 w :=
  ⟨h.b, h.a, ⟨h.m.2.2.1, h.m.2.2.2, h.m.1, h.m.2.1⟩, fun h1 h2 => ⟨Ne.symm (h.ne h2 h1).1, Ne.symm (h.ne h2 h1).2⟩, h.sen, h.size, h.q⟩
theorem Side.keep {hp hl hr : Nat} {v : Value} {w w' : World} (h : Side hp hl hr v w) (hk : ∀ k, k < w.heap.size → w'.heap[k]? = w.heap[k]?) : Side hp hl hr v w' := by
  rcases h with h | ⟨h, s, hP⟩
  · exact Or.inl h
  · exact Or.inr ⟨h, s, (hk _ hP.p.lt).trans hP.p, (hk _ hP.l.lt).trans hP.l, (hk _ hP.r.lt).trans hP.r, hP.ok⟩
theorem RI.more {S : Sens} {L : Nat} {va vb : Value} {pa la ra pb lb rb : Nat} {W0 w w' : World} (h : RI S L va vb pa la ra pb lb rb W0 w) (k : Below w.heap.size w w') : RI S L va vb pa la ra pb lb rb W0 w' :=
  ⟨h.a.keep k.block, h.b.keep k.block, h.m, h.ne, h.sen, h.size, h.q.trans (k.mono (Nat.le_trans h.size h.q.size))⟩
theorem RI.play {S : Sens} {L : Nat} {va vb : Value} {pa la ra pb lb rb : Nat} {W0 w w' : World} (h : RI S L va vb pa la ra pb lb rb W0 w) {s s' : LS} (hv : va ≠ .pointer none) (hv' : va = .pointer (some ⟨pa, 0, none⟩)) (hP : Pr pa la ra s w) (hP' : Pr pa la ra s' w') (hq : Stq2 la ra w w') : RI S L va vb pa la ra pb lb rb W0 w' := by
  refine ⟨Or.inr ⟨hv', s', hP'⟩, ?_, h.m, h.ne, h.sen, h.size, h.q.trans (hq.below (Nat.le_trans h.size h.q.size) h.m.1 h.m.2.1)⟩
  rcases h.b with hb | ⟨hb, t, hQ⟩
  · exact Or.inl hb
  · have hne := h.ne hv (by rw [hb]; simp)
    refine Or.inr ⟨hb, t, ?_, ?_, ?_, hQ.ok⟩
    · exact (hq.block _ hQ.p.lt (blk_ne hQ.p hP.l (by decide)) (blk_ne hQ.p hP.r (by decide))).trans hQ.p
    · exact (hq.block _ hQ.l.lt (Ne.symm hne.1) (blk_ne hQ.l hP.r (by decide))).trans hQ.l
    · exact (hq.block _ hQ.r.lt (blk_ne hQ.r hP.l (by decide)) (Ne.symm hne.2)).trans hQ.r
section
variable {ops : Array Oper} {Q : Exit → Act → World → Prop} {a : Act} {w : World} {rest : List Oper} {o : Oper} {f : Nat → Value} {N d : Nat}
structure WS (ops : Array Oper) (Q : Exit → Act → World → Prop) (l : List Oper) (a : Act) (w : World) : Prop where
  out : wpList Tryd.prog ops Q l a w
theorem syp (hF : Fr N a f) (hd : o.dst = some d) (hN : d < N) (hw : Region.wanted o (yielded ops a.tmps) = true) {v : Value} (hr : (execOp a.eval o).run Tryd.prog w = .ok (.value v) w)
    (h : Fr N (a.put (some d) v) (upd f d v) → WS ops Q rest (a.put (some d) v) w) : WS ops Q (o :: rest) a w :=
  ⟨st_yes hw hr (by rw [hd]; exact (h (hF.put d v hN)).out)⟩
theorem snp (hF : Fr N a f) (hd : o.dst = some d) (hN : d < N) (hw : Region.wanted o (yielded ops a.tmps) = false)
    (h : Fr N (a.put (some d) undef) (upd f d undef) → WS ops Q rest (a.put (some d) undef) w) : WS ops Q (o :: rest) a w :=
  ⟨st_no hw (by rw [hd]; exact (h (hF.put d undef hN)).out)⟩
theorem withFrS {l : List Oper} {t : Array Value} (ht : t.size = N) (h : ∀ f, Fr N { tmps := t, defers := [] } f → (∀ j, f j = t.getD j undef) → WS ops Q l { tmps := t, defers := [] } w) : wpList Tryd.prog ops Q l { tmps := t, defers := [] } w :=
  (h _ (Fr.ofLit t ht) fun _ => rfl).out
end
set_option maxRecDepth 100000 in
set_option maxHeartbeats 12800000 in
theorem run_any {S : Sens} (limit other : Int) (ao : Option Addr) (N cap : Nat) (os : List OpA) (lo hi : Int) (W : World) (hS : Sen S W.heap.size W) (hN : os.length = N) (hmax : N ≤ maxLen) (hat : 0 < N → ∃ b off, ao = some ⟨b, off, none⟩ ∧ ∀ i o, os[i]? = some o → OpAt W b (off + i * 4) o) :
    Calls Tryd.prog 29 #[.int .i64 limit, .int .i64 other, .slice ao N cap, .int .i64 lo, .int .i64 hi] W fun e W' => e = .returned (.bool true) ∧ Below W.heap.size W W' := by
  have hmax' : N ≤ 9223372036854775807 := by simpa [maxLen] using hmax
  have hal := alive_any W hS
  have HT : Hid _ := hat
  have HS : Hid _ := hS
  clear hat hS
  go_enter Tryd.func29, Tryd.ntmps29
  go_wp2_with fail
  refine hal.mono ?_
  rintro e1 W1 ⟨rfl, hb1⟩
  have hm := made_any limit W1
  have HB1 : Hid _ := hb1
  clear hal hb1
  go_wp2_with fail
  refine hm.mono ?_
  rintro e2 W2 ⟨va, rfl, hsa, hb2, hz2⟩
  have hm := made_any other W2
  have HA : Hid _ := hsa
  have HB2 : Hid _ := hb2
  have HZ2 : Hid _ := hz2
  clear hsa hb2 hz2
  go_wp2_with fail
  refine hm.mono ?_
  rintro e3 W3 ⟨vb, rfl, hsb, hb3, hz3⟩
  have hR0 : RI S W.heap.size va vb (W1.heap.size + 2) W1.heap.size (W1.heap.size + 1) (W2.heap.size + 2) W2.heap.size (W2.heap.size + 1) W W3 := by
    have q1 := HB1.out.size
    have q2 := HB2.out.size
    refine ⟨Side.keep HA.out hb3.block, hsb, by omega, fun h1 _ => ?_, HS.out, Nat.le_refl _, HB1.out.trans ((HB2.out.mono q1).trans (hb3.mono (by omega)))⟩
    have := HZ2.out h1
    omega
  have HR0 : Hid _ := hR0
  clear hm hsb hb3 hz3 HA HB1 HB2 HZ2 hR0
  generalize W1.heap.size = n1 at *
  generalize W2.heap.size = n2 at *
  go_wp2_with fail
  go_loopw [13, 16, 17, 18] (fun (ok : Value) (i : Value) (_ : Value) (_ : Value) (wr : World) => ∃ k : Nat, k ≤ N ∧ i = .int .i64 k ∧ ok = .bool true ∧ RI S W.heap.size va vb (n1 + 2) n1 (n1 + 1) (n2 + 2) n2 (n2 + 1) W wr) (fun _ i _ _ _ => N - (intOf i).toNat)
  case atStart => exact ⟨0, Nat.zero_le _, rfl, rfl, HR0.out⟩
  case round =>
    obtain ⟨k, hk, rfl, rfl, hR⟩ := hrel
    rename World => wr
    clear HR0
    by_cases hlt : k < N
    · by_cases h1000 : k < 1000
      · obtain ⟨o, ho⟩ : ∃ o, os[k]? = some o := ⟨os[k]'(by omega), List.getElem?_eq_getElem _⟩
        obtain ⟨b, off, rfl, hcell⟩ := HT.out (by omega)
        have hoa := hcell k o ho
        have hbl : b < W.heap.size := World.block_lt_of_cell? _ _ hoa.c0
        have hc := fun (j : Nat) => hR.q.cell (p := ⟨b, j, none⟩) hbl
        have d0 := (hc _).trans hoa.c0
        have d1 := (hc _).trans hoa.c1
        have d2 := (hc _).trans hoa.c2
        have d3 := (hc _).trans hoa.c3
        have w2 := hoa.w2
        have w3 := hoa.w3
        obtain ⟨kind, who, a, c⟩ := o
        simp only at d0 d1 d2 d3 w2 w3
        have hgr : Below wr.heap.size wr (wr.alloc (.cells #[.int .i64 kind, .int .i64 who, .int .i64 a, .int .i64 c] 45)) := by go_grown
        have hR1 := hR.more hgr
        have hBx : Blk (wr.alloc (.cells #[.int .i64 kind, .int .i64 who, .int .i64 a, .int .i64 c] 45)) wr.heap.size #[.int .i64 kind, .int .i64 who, .int .i64 a, .int .i64 c] 45 := heap_alloc_new wr _
        clear hoa hcell ho hc hN hgr
        by_cases hw : who = 1
        · subst hw
          rcases (hR1.swap).a with rfl | ⟨rfl, s, hP⟩
          · have HR : Hid _ := hR1
            clear hR1 hR
            go_wp2_with fail
            go_roundw
            case rel => exact ⟨k + 1, by omega, by go_num, rfl, HR.out⟩
            case measure => simp [intOf]; omega
          · by_cases h6 : kind = 6
            · have g6 : (kind != 6) = false := by simpa using h6
              clear h6
              have hpl := played_any _ (((hR1.swap).sen).below (hR1.swap).q) hP (hR1.swap).m.1 (hR1.swap).m.2.1 kind 1 a c w2 w3
              have HR : Hid _ := hR1
              have HP : Hid _ := hP
              clear hR1 hR hP
              have hk0 : (wr.alloc (.cells #[.int .i64 kind, .int .i64 1, .int .i64 a, .int .i64 c] 45)).cell? ⟨wr.heap.size, 0, none⟩ = some (.int .i64 kind) := hBx.cell 0
              go_upto_region 13 with fail
              refine wp_region_lit ?_
              refine withFrS (N := 106) rfl ?_
              intro f0 F0 hff
              have hs17 : f0 17 = Value.pointer (some ⟨wr.heap.size, 0, none⟩) := hff 17
              have hs18 : f0 18 = Value.pointer (some ⟨n2 + 2, 0, none⟩) := hff 18
              clear hff
              refine syp F0 rfl (by omega) (wanted_none rfl) (v := Value.pointer (some ⟨n2 + 2, 0, none⟩)) (by simp only [execOp, (F0.eval 18 (by omega)).trans (show _ = Value.pointer (some ⟨n2 + 2, 0, none⟩) from by simp [upd, hs17, hs18])]; first | rfl | simp [go_sem]) fun F1 => ?_
              refine syp F1 rfl (by omega) (wanted_none rfl) (v := Value.bool false) (by simp only [execOp, (F1.eval 61 (by omega)).trans (show _ = Value.pointer (some ⟨n2 + 2, 0, none⟩) from by simp [upd, hs17, hs18])]; simp [go_sem, Act.eval]) fun F2 => ?_
              refine syp F2 rfl (by omega) (wanted_none rfl) (v := Value.bool false) (by simp only [execOp, (F2.eval 62 (by omega)).trans (show _ = Value.bool false from by simp [upd, hs17, hs18])]; first | rfl | simp [go_sem]) fun F3 => ?_
              refine syp F3 rfl (by omega) (want_yes F3 rfl (e := 63) rfl (by omega) (show _ = Value.bool false from by simp [upd, hs17, hs18])) (v := Value.pointer (some ⟨wr.heap.size, 0, none⟩)) (by simp only [execOp, (F3.eval 17 (by omega)).trans (show _ = Value.pointer (some ⟨wr.heap.size, 0, none⟩) from by simp [upd, hs17, hs18])]; simp [go_sem]) fun F4 => ?_
              refine syp F4 rfl (by omega) (want_yes F4 rfl (e := 63) rfl (by omega) (show _ = Value.bool false from by simp [upd, hs17, hs18])) (v := Value.int .i64 kind) (by simp only [execOp, (F4.eval 64 (by omega)).trans (show _ = Value.pointer (some ⟨wr.heap.size, 0, none⟩) from by simp [upd, hs17, hs18])]; simp [go_sem, hk0]) fun F5 => ?_
              refine syp F5 rfl (by omega) (want_yes F5 rfl (e := 63) rfl (by omega) (show _ = Value.bool false from by simp [upd, hs17, hs18])) (v := Value.bool false) (by simp only [execOp, (F5.eval 65 (by omega)).trans (show _ = Value.int .i64 kind from by simp [upd, hs17, hs18])]; simp [go_sem, Act.eval, g6]) fun F6 => ?_
              refine syp F6 rfl (by omega) (want_yes F6 rfl (e := 63) rfl (by omega) (show _ = Value.bool false from by simp [upd, hs17, hs18])) (v := Value.bool false) (by simp only [execOp, (F6.eval 66 (by omega)).trans (show _ = Value.bool false from by simp [upd, hs17, hs18])]; first | rfl | simp [go_sem]) fun F7 => ?_
              refine snp F7 rfl (by omega) (want_no F7 rfl (e := 67) rfl (by omega) (show _ = Value.bool false from by simp [upd, hs17, hs18]) (by decide)) fun F8 => ?_
              refine snp F8 rfl (by omega) (want_no F8 rfl (e := 67) rfl (by omega) (show _ = Value.bool false from by simp [upd, hs17, hs18]) (by decide)) fun F9 => ?_
              refine snp F9 rfl (by omega) (want_no F9 rfl (e := 67) rfl (by omega) (show _ = Value.bool false from by simp [upd, hs17, hs18]) (by decide)) fun F10 => ?_
              refine syp F10 rfl (by omega) (want_yes F10 rfl (e := 63) rfl (by omega) (show _ = Value.bool false from by simp [upd, hs17, hs18])) (v := Value.bool false) (by simp only [execOp, (F10.eval 67 (by omega)).trans (show _ = Value.bool false from by simp [upd, hs17, hs18])]; simp [go_sem, Act.eval]) fun F11 => ?_
              refine syp F11 rfl (by omega) (want_yes F11 rfl (e := 63) rfl (by omega) (show _ = Value.bool false from by simp [upd, hs17, hs18])) (v := Value.bool false) (by simp only [execOp, (F11.eval 71 (by omega)).trans (show _ = Value.bool false from by simp [upd, hs17, hs18])]; first | rfl | simp [go_sem]) fun F12 => ?_
              refine snp F12 rfl (by omega) (want_no F12 rfl (e := 72) rfl (by omega) (show _ = Value.bool false from by simp [upd, hs17, hs18]) (by decide)) fun F13 => ?_
              refine snp F13 rfl (by omega) (want_no F13 rfl (e := 72) rfl (by omega) (show _ = Value.bool false from by simp [upd, hs17, hs18]) (by decide)) fun F14 => ?_
              refine snp F14 rfl (by omega) (want_no F14 rfl (e := 72) rfl (by omega) (show _ = Value.bool false from by simp [upd, hs17, hs18]) (by decide)) fun F15 => ?_
              refine snp F15 rfl (by omega) (want_no F15 rfl (e := 72) rfl (by omega) (show _ = Value.bool false from by simp [upd, hs17, hs18]) (by decide)) fun F16 => ?_
              refine snp F16 rfl (by omega) (want_no F16 rfl (e := 72) rfl (by omega) (show _ = Value.bool false from by simp [upd, hs17, hs18]) (by decide)) fun F17 => ?_
              refine snp F17 rfl (by omega) (want_not F17 rfl (e := 77) rfl (by omega) (show _ = undef from by simp [upd, hs17, hs18])) fun F18 => ?_
              refine snp F18 rfl (by omega) (want_not F18 rfl (e := 77) rfl (by omega) (show _ = undef from by simp [upd, hs17, hs18])) fun F19 => ?_
              refine snp F19 rfl (by omega) (want_not F19 rfl (e := 77) rfl (by omega) (show _ = undef from by simp [upd, hs17, hs18])) fun F20 => ?_
              refine snp F20 rfl (by omega) (want_not F20 rfl (e := 77) rfl (by omega) (show _ = undef from by simp [upd, hs17, hs18])) fun F21 => ?_
              refine snp F21 rfl (by omega) (want_no F21 rfl (e := 72) rfl (by omega) (show _ = Value.bool false from by simp [upd, hs17, hs18]) (by decide)) fun F22 => ?_
              refine syp F22 rfl (by omega) (want_yes F22 rfl (e := 63) rfl (by omega) (show _ = Value.bool false from by simp [upd, hs17, hs18])) (v := Value.bool false) (by simp only [execOp, (F22.eval 72 (by omega)).trans (show _ = Value.bool false from by simp [upd, hs17, hs18])]; simp [go_sem, Act.eval]) fun F23 => ?_
              refine syp F23 rfl (by omega) (wanted_none rfl) (v := Value.bool false) (by simp only [execOp, (F23.eval 63 (by omega)).trans (show _ = Value.bool false from by simp [upd, hs17, hs18]), (F23.eval 83 (by omega)).trans (show _ = Value.bool false from by simp [upd, hs17, hs18])]; simp [go_sem, Act.eval]) fun F24 => ?_
              refine ⟨?_⟩
              clear F0 F1 F2 F3 F4 F5 F6 F7 F8 F9 F10 F11 F12 F13 F14 F15 F16 F17 F18 F19 F20 F21 F22 F23 F24 hs17 hs18 hk0
              simp only [Act.put, List.setIfInBounds_toArray, List.set_cons_succ, List.set_cons_zero]
              go_wp2_with (first | (refine wpList_load_row rfl 45 (.tmp 17) rfl wr.heap.size rfl 45 _ (0, 0) _ hBx Tryd.underlying45 rfl (by kernel_rfl) ?_) | fail)
              refine hpl.mono ?_
              rintro e4 w4 ⟨rfl, s4, hP4, hq4⟩
              have hR2 := (RI.play (HR.out.swap) (by simp) rfl HP.out hP4 hq4).swap
              have HR2 : Hid _ := hR2
              clear hpl hP4 hq4 hR2 HR HP
              go_wp2_with fail
              go_roundw
              case rel => exact ⟨k + 1, by omega, by go_num, rfl, HR2.out⟩
              case measure => simp [intOf]; omega
            · by_cases h12 : kind = 12
              · have g6 : (kind != 6) = true := by simpa using h6
                have g12 : (kind != 12) = false := by simpa using h12
                clear h6 h12
                have hpl := played_any _ (((hR1.swap).sen).below (hR1.swap).q) hP (hR1.swap).m.1 (hR1.swap).m.2.1 kind 1 a c w2 w3
                have HR : Hid _ := hR1
                have HP : Hid _ := hP
                clear hR1 hR hP
                have hk0 : (wr.alloc (.cells #[.int .i64 kind, .int .i64 1, .int .i64 a, .int .i64 c] 45)).cell? ⟨wr.heap.size, 0, none⟩ = some (.int .i64 kind) := hBx.cell 0
                go_upto_region 13 with fail
                refine wp_region_lit ?_
                refine withFrS (N := 106) rfl ?_
                intro f0 F0 hff
                have hs17 : f0 17 = Value.pointer (some ⟨wr.heap.size, 0, none⟩) := hff 17
                have hs18 : f0 18 = Value.pointer (some ⟨n2 + 2, 0, none⟩) := hff 18
                clear hff
                refine syp F0 rfl (by omega) (wanted_none rfl) (v := Value.pointer (some ⟨n2 + 2, 0, none⟩)) (by simp only [execOp, (F0.eval 18 (by omega)).trans (show _ = Value.pointer (some ⟨n2 + 2, 0, none⟩) from by simp [upd, hs17, hs18])]; first | rfl | simp [go_sem]) fun F1 => ?_
                refine syp F1 rfl (by omega) (wanted_none rfl) (v := Value.bool false) (by simp only [execOp, (F1.eval 61 (by omega)).trans (show _ = Value.pointer (some ⟨n2 + 2, 0, none⟩) from by simp [upd, hs17, hs18])]; simp [go_sem, Act.eval]) fun F2 => ?_
                refine syp F2 rfl (by omega) (wanted_none rfl) (v := Value.bool false) (by simp only [execOp, (F2.eval 62 (by omega)).trans (show _ = Value.bool false from by simp [upd, hs17, hs18])]; first | rfl | simp [go_sem]) fun F3 => ?_
                refine syp F3 rfl (by omega) (want_yes F3 rfl (e := 63) rfl (by omega) (show _ = Value.bool false from by simp [upd, hs17, hs18])) (v := Value.pointer (some ⟨wr.heap.size, 0, none⟩)) (by simp only [execOp, (F3.eval 17 (by omega)).trans (show _ = Value.pointer (some ⟨wr.heap.size, 0, none⟩) from by simp [upd, hs17, hs18])]; simp [go_sem]) fun F4 => ?_
                refine syp F4 rfl (by omega) (want_yes F4 rfl (e := 63) rfl (by omega) (show _ = Value.bool false from by simp [upd, hs17, hs18])) (v := Value.int .i64 kind) (by simp only [execOp, (F4.eval 64 (by omega)).trans (show _ = Value.pointer (some ⟨wr.heap.size, 0, none⟩) from by simp [upd, hs17, hs18])]; simp [go_sem, hk0]) fun F5 => ?_
                refine syp F5 rfl (by omega) (want_yes F5 rfl (e := 63) rfl (by omega) (show _ = Value.bool false from by simp [upd, hs17, hs18])) (v := Value.bool true) (by simp only [execOp, (F5.eval 65 (by omega)).trans (show _ = Value.int .i64 kind from by simp [upd, hs17, hs18])]; simp [go_sem, Act.eval, g6]) fun F6 => ?_
                refine syp F6 rfl (by omega) (want_yes F6 rfl (e := 63) rfl (by omega) (show _ = Value.bool false from by simp [upd, hs17, hs18])) (v := Value.bool true) (by simp only [execOp, (F6.eval 66 (by omega)).trans (show _ = Value.bool true from by simp [upd, hs17, hs18])]; first | rfl | simp [go_sem]) fun F7 => ?_
                refine syp F7 rfl (by omega) (want_yes F7 rfl (e := 67) rfl (by omega) (show _ = Value.bool true from by simp [upd, hs17, hs18])) (v := Value.pointer (some ⟨wr.heap.size, 0, none⟩)) (by simp only [execOp, (F7.eval 17 (by omega)).trans (show _ = Value.pointer (some ⟨wr.heap.size, 0, none⟩) from by simp [upd, hs17, hs18])]; simp [go_sem]) fun F8 => ?_
                refine syp F8 rfl (by omega) (want_yes F8 rfl (e := 67) rfl (by omega) (show _ = Value.bool true from by simp [upd, hs17, hs18])) (v := Value.int .i64 kind) (by simp only [execOp, (F8.eval 68 (by omega)).trans (show _ = Value.pointer (some ⟨wr.heap.size, 0, none⟩) from by simp [upd, hs17, hs18])]; simp [go_sem, hk0]) fun F9 => ?_
                refine syp F9 rfl (by omega) (want_yes F9 rfl (e := 67) rfl (by omega) (show _ = Value.bool true from by simp [upd, hs17, hs18])) (v := Value.bool false) (by simp only [execOp, (F9.eval 69 (by omega)).trans (show _ = Value.int .i64 kind from by simp [upd, hs17, hs18])]; simp [go_sem, Act.eval, g12]) fun F10 => ?_
                refine syp F10 rfl (by omega) (want_yes F10 rfl (e := 63) rfl (by omega) (show _ = Value.bool false from by simp [upd, hs17, hs18])) (v := Value.bool false) (by simp only [execOp, (F10.eval 67 (by omega)).trans (show _ = Value.bool true from by simp [upd, hs17, hs18]), (F10.eval 70 (by omega)).trans (show _ = Value.bool false from by simp [upd, hs17, hs18])]; simp [go_sem, Act.eval]) fun F11 => ?_
                refine syp F11 rfl (by omega) (want_yes F11 rfl (e := 63) rfl (by omega) (show _ = Value.bool false from by simp [upd, hs17, hs18])) (v := Value.bool false) (by simp only [execOp, (F11.eval 71 (by omega)).trans (show _ = Value.bool false from by simp [upd, hs17, hs18])]; first | rfl | simp [go_sem]) fun F12 => ?_
                refine snp F12 rfl (by omega) (want_no F12 rfl (e := 72) rfl (by omega) (show _ = Value.bool false from by simp [upd, hs17, hs18]) (by decide)) fun F13 => ?_
                refine snp F13 rfl (by omega) (want_no F13 rfl (e := 72) rfl (by omega) (show _ = Value.bool false from by simp [upd, hs17, hs18]) (by decide)) fun F14 => ?_
                refine snp F14 rfl (by omega) (want_no F14 rfl (e := 72) rfl (by omega) (show _ = Value.bool false from by simp [upd, hs17, hs18]) (by decide)) fun F15 => ?_
                refine snp F15 rfl (by omega) (want_no F15 rfl (e := 72) rfl (by omega) (show _ = Value.bool false from by simp [upd, hs17, hs18]) (by decide)) fun F16 => ?_
                refine snp F16 rfl (by omega) (want_no F16 rfl (e := 72) rfl (by omega) (show _ = Value.bool false from by simp [upd, hs17, hs18]) (by decide)) fun F17 => ?_
                refine snp F17 rfl (by omega) (want_not F17 rfl (e := 77) rfl (by omega) (show _ = undef from by simp [upd, hs17, hs18])) fun F18 => ?_
                refine snp F18 rfl (by omega) (want_not F18 rfl (e := 77) rfl (by omega) (show _ = undef from by simp [upd, hs17, hs18])) fun F19 => ?_
                refine snp F19 rfl (by omega) (want_not F19 rfl (e := 77) rfl (by omega) (show _ = undef from by simp [upd, hs17, hs18])) fun F20 => ?_
                refine snp F20 rfl (by omega) (want_not F20 rfl (e := 77) rfl (by omega) (show _ = undef from by simp [upd, hs17, hs18])) fun F21 => ?_
                refine snp F21 rfl (by omega) (want_no F21 rfl (e := 72) rfl (by omega) (show _ = Value.bool false from by simp [upd, hs17, hs18]) (by decide)) fun F22 => ?_
                refine syp F22 rfl (by omega) (want_yes F22 rfl (e := 63) rfl (by omega) (show _ = Value.bool false from by simp [upd, hs17, hs18])) (v := Value.bool false) (by simp only [execOp, (F22.eval 72 (by omega)).trans (show _ = Value.bool false from by simp [upd, hs17, hs18])]; simp [go_sem, Act.eval]) fun F23 => ?_
                refine syp F23 rfl (by omega) (wanted_none rfl) (v := Value.bool false) (by simp only [execOp, (F23.eval 63 (by omega)).trans (show _ = Value.bool false from by simp [upd, hs17, hs18]), (F23.eval 83 (by omega)).trans (show _ = Value.bool false from by simp [upd, hs17, hs18])]; simp [go_sem, Act.eval]) fun F24 => ?_
                refine ⟨?_⟩
                clear F0 F1 F2 F3 F4 F5 F6 F7 F8 F9 F10 F11 F12 F13 F14 F15 F16 F17 F18 F19 F20 F21 F22 F23 F24 hs17 hs18 hk0
                simp only [Act.put, List.setIfInBounds_toArray, List.set_cons_succ, List.set_cons_zero]
                go_wp2_with (first | (refine wpList_load_row rfl 45 (.tmp 17) rfl wr.heap.size rfl 45 _ (0, 0) _ hBx Tryd.underlying45 rfl (by kernel_rfl) ?_) | fail)
                refine hpl.mono ?_
                rintro e4 w4 ⟨rfl, s4, hP4, hq4⟩
                have hR2 := (RI.play (HR.out.swap) (by simp) rfl HP.out hP4 hq4).swap
                have HR2 : Hid _ := hR2
                clear hpl hP4 hq4 hR2 HR HP
                go_wp2_with fail
                go_roundw
                case rel => exact ⟨k + 1, by omega, by go_num, rfl, HR2.out⟩
                case measure => simp [intOf]; omega
              · by_cases hlo : kind < lo
                · have g6 : (kind != 6) = true := by simpa using h6
                  have g12 : (kind != 12) = true := by simpa using h12
                  have glo : decide (kind < lo) = true := by simpa using hlo
                  clear h6 h12 hlo
                  have HR : Hid _ := hR1
                  clear hR1 hR
                  go_wp2_with fail
                  go_roundw
                  case rel => exact ⟨k + 1, by omega, by go_num, rfl, HR.out⟩
                  case measure => simp [intOf]; omega
                · by_cases hhi : hi < kind
                  · have g6 : (kind != 6) = true := by simpa using h6
                    have g12 : (kind != 12) = true := by simpa using h12
                    have glo : decide (kind < lo) = false := by simpa using hlo
                    have ghi : decide (hi < kind) = true := by simpa using hhi
                    clear h6 h12 hlo hhi
                    have HR : Hid _ := hR1
                    clear hR1 hR
                    go_wp2_with fail
                    go_roundw
                    case rel => exact ⟨k + 1, by omega, by go_num, rfl, HR.out⟩
                    case measure => simp [intOf]; omega
                  · have g6 : (kind != 6) = true := by simpa using h6
                    have g12 : (kind != 12) = true := by simpa using h12
                    have glo : decide (kind < lo) = false := by simpa using hlo
                    have ghi : decide (hi < kind) = false := by simpa using hhi
                    clear h6 h12 hlo hhi
                    have hpl := played_any _ (((hR1.swap).sen).below (hR1.swap).q) hP (hR1.swap).m.1 (hR1.swap).m.2.1 kind 1 a c w2 w3
                    have HR : Hid _ := hR1
                    have HP : Hid _ := hP
                    clear hR1 hR hP
                    go_wp2_with (first | (refine wpList_load_row rfl 45 (.tmp 17) rfl wr.heap.size rfl 45 _ (0, 0) _ hBx Tryd.underlying45 rfl (by kernel_rfl) ?_) | fail)
                    refine hpl.mono ?_
                    rintro e4 w4 ⟨rfl, s4, hP4, hq4⟩
                    have hR2 := (RI.play (HR.out.swap) (by simp) rfl HP.out hP4 hq4).swap
                    have HR2 : Hid _ := hR2
                    clear hpl hP4 hq4 hR2 HR HP
                    go_wp2_with fail
                    go_roundw
                    case rel => exact ⟨k + 1, by omega, by go_num, rfl, HR2.out⟩
                    case measure => simp [intOf]; omega
        · rcases (hR1).a with rfl | ⟨rfl, s, hP⟩
          · have HR : Hid _ := hR1
            clear hR1 hR
            go_wp2_with fail
            go_roundw
            case rel => exact ⟨k + 1, by omega, by go_num, rfl, HR.out⟩
            case measure => simp [intOf]; omega
          · by_cases h6 : kind = 6
            · have g6 : (kind != 6) = false := by simpa using h6
              clear h6
              have hpl := played_any _ (((hR1).sen).below (hR1).q) hP (hR1).m.1 (hR1).m.2.1 kind who a c w2 w3
              have HR : Hid _ := hR1
              have HP : Hid _ := hP
              clear hR1 hR hP
              have hk0 : (wr.alloc (.cells #[.int .i64 kind, .int .i64 who, .int .i64 a, .int .i64 c] 45)).cell? ⟨wr.heap.size, 0, none⟩ = some (.int .i64 kind) := hBx.cell 0
              go_upto_region 13 with fail
              refine wp_region_lit ?_
              refine withFrS (N := 106) rfl ?_
              intro f0 F0 hff
              have hs17 : f0 17 = Value.pointer (some ⟨wr.heap.size, 0, none⟩) := hff 17
              have hs18 : f0 18 = Value.pointer (some ⟨n1 + 2, 0, none⟩) := hff 18
              clear hff
              refine syp F0 rfl (by omega) (wanted_none rfl) (v := Value.pointer (some ⟨n1 + 2, 0, none⟩)) (by simp only [execOp, (F0.eval 18 (by omega)).trans (show _ = Value.pointer (some ⟨n1 + 2, 0, none⟩) from by simp [upd, hs17, hs18])]; first | rfl | simp [go_sem]) fun F1 => ?_
              refine syp F1 rfl (by omega) (wanted_none rfl) (v := Value.bool false) (by simp only [execOp, (F1.eval 61 (by omega)).trans (show _ = Value.pointer (some ⟨n1 + 2, 0, none⟩) from by simp [upd, hs17, hs18])]; simp [go_sem, Act.eval]) fun F2 => ?_
              refine syp F2 rfl (by omega) (wanted_none rfl) (v := Value.bool false) (by simp only [execOp, (F2.eval 62 (by omega)).trans (show _ = Value.bool false from by simp [upd, hs17, hs18])]; first | rfl | simp [go_sem]) fun F3 => ?_
              refine syp F3 rfl (by omega) (want_yes F3 rfl (e := 63) rfl (by omega) (show _ = Value.bool false from by simp [upd, hs17, hs18])) (v := Value.pointer (some ⟨wr.heap.size, 0, none⟩)) (by simp only [execOp, (F3.eval 17 (by omega)).trans (show _ = Value.pointer (some ⟨wr.heap.size, 0, none⟩) from by simp [upd, hs17, hs18])]; simp [go_sem]) fun F4 => ?_
              refine syp F4 rfl (by omega) (want_yes F4 rfl (e := 63) rfl (by omega) (show _ = Value.bool false from by simp [upd, hs17, hs18])) (v := Value.int .i64 kind) (by simp only [execOp, (F4.eval 64 (by omega)).trans (show _ = Value.pointer (some ⟨wr.heap.size, 0, none⟩) from by simp [upd, hs17, hs18])]; simp [go_sem, hk0]) fun F5 => ?_
              refine syp F5 rfl (by omega) (want_yes F5 rfl (e := 63) rfl (by omega) (show _ = Value.bool false from by simp [upd, hs17, hs18])) (v := Value.bool false) (by simp only [execOp, (F5.eval 65 (by omega)).trans (show _ = Value.int .i64 kind from by simp [upd, hs17, hs18])]; simp [go_sem, Act.eval, g6]) fun F6 => ?_
              refine syp F6 rfl (by omega) (want_yes F6 rfl (e := 63) rfl (by omega) (show _ = Value.bool false from by simp [upd, hs17, hs18])) (v := Value.bool false) (by simp only [execOp, (F6.eval 66 (by omega)).trans (show _ = Value.bool false from by simp [upd, hs17, hs18])]; first | rfl | simp [go_sem]) fun F7 => ?_
              refine snp F7 rfl (by omega) (want_no F7 rfl (e := 67) rfl (by omega) (show _ = Value.bool false from by simp [upd, hs17, hs18]) (by decide)) fun F8 => ?_
              refine snp F8 rfl (by omega) (want_no F8 rfl (e := 67) rfl (by omega) (show _ = Value.bool false from by simp [upd, hs17, hs18]) (by decide)) fun F9 => ?_
              refine snp F9 rfl (by omega) (want_no F9 rfl (e := 67) rfl (by omega) (show _ = Value.bool false from by simp [upd, hs17, hs18]) (by decide)) fun F10 => ?_
              refine syp F10 rfl (by omega) (want_yes F10 rfl (e := 63) rfl (by omega) (show _ = Value.bool false from by simp [upd, hs17, hs18])) (v := Value.bool false) (by simp only [execOp, (F10.eval 67 (by omega)).trans (show _ = Value.bool false from by simp [upd, hs17, hs18])]; simp [go_sem, Act.eval]) fun F11 => ?_
              refine syp F11 rfl (by omega) (want_yes F11 rfl (e := 63) rfl (by omega) (show _ = Value.bool false from by simp [upd, hs17, hs18])) (v := Value.bool false) (by simp only [execOp, (F11.eval 71 (by omega)).trans (show _ = Value.bool false from by simp [upd, hs17, hs18])]; first | rfl | simp [go_sem]) fun F12 => ?_
              refine snp F12 rfl (by omega) (want_no F12 rfl (e := 72) rfl (by omega) (show _ = Value.bool false from by simp [upd, hs17, hs18]) (by decide)) fun F13 => ?_
              refine snp F13 rfl (by omega) (want_no F13 rfl (e := 72) rfl (by omega) (show _ = Value.bool false from by simp [upd, hs17, hs18]) (by decide)) fun F14 => ?_
              refine snp F14 rfl (by omega) (want_no F14 rfl (e := 72) rfl (by omega) (show _ = Value.bool false from by simp [upd, hs17, hs18]) (by decide)) fun F15 => ?_
              refine snp F15 rfl (by omega) (want_no F15 rfl (e := 72) rfl (by omega) (show _ = Value.bool false from by simp [upd, hs17, hs18]) (by decide)) fun F16 => ?_
              refine snp F16 rfl (by omega) (want_no F16 rfl (e := 72) rfl (by omega) (show _ = Value.bool false from by simp [upd, hs17, hs18]) (by decide)) fun F17 => ?_
              refine snp F17 rfl (by omega) (want_not F17 rfl (e := 77) rfl (by omega) (show _ = undef from by simp [upd, hs17, hs18])) fun F18 => ?_
              refine snp F18 rfl (by omega) (want_not F18 rfl (e := 77) rfl (by omega) (show _ = undef from by simp [upd, hs17, hs18])) fun F19 => ?_
              refine snp F19 rfl (by omega) (want_not F19 rfl (e := 77) rfl (by omega) (show _ = undef from by simp [upd, hs17, hs18])) fun F20 => ?_
              refine snp F20 rfl (by omega) (want_not F20 rfl (e := 77) rfl (by omega) (show _ = undef from by simp [upd, hs17, hs18])) fun F21 => ?_
              refine snp F21 rfl (by omega) (want_no F21 rfl (e := 72) rfl (by omega) (show _ = Value.bool false from by simp [upd, hs17, hs18]) (by decide)) fun F22 => ?_
              refine syp F22 rfl (by omega) (want_yes F22 rfl (e := 63) rfl (by omega) (show _ = Value.bool false from by simp [upd, hs17, hs18])) (v := Value.bool false) (by simp only [execOp, (F22.eval 72 (by omega)).trans (show _ = Value.bool false from by simp [upd, hs17, hs18])]; simp [go_sem, Act.eval]) fun F23 => ?_
              refine syp F23 rfl (by omega) (wanted_none rfl) (v := Value.bool false) (by simp only [execOp, (F23.eval 63 (by omega)).trans (show _ = Value.bool false from by simp [upd, hs17, hs18]), (F23.eval 83 (by omega)).trans (show _ = Value.bool false from by simp [upd, hs17, hs18])]; simp [go_sem, Act.eval]) fun F24 => ?_
              refine ⟨?_⟩
              clear F0 F1 F2 F3 F4 F5 F6 F7 F8 F9 F10 F11 F12 F13 F14 F15 F16 F17 F18 F19 F20 F21 F22 F23 F24 hs17 hs18 hk0
              simp only [Act.put, List.setIfInBounds_toArray, List.set_cons_succ, List.set_cons_zero]
              go_wp2_with (first | (refine wpList_load_row rfl 45 (.tmp 17) rfl wr.heap.size rfl 45 _ (0, 0) _ hBx Tryd.underlying45 rfl (by kernel_rfl) ?_) | fail)
              refine hpl.mono ?_
              rintro e4 w4 ⟨rfl, s4, hP4, hq4⟩
              have hR2 := (RI.play (HR.out) (by simp) rfl HP.out hP4 hq4)
              have HR2 : Hid _ := hR2
              clear hpl hP4 hq4 hR2 HR HP
              go_wp2_with fail
              go_roundw
              case rel => exact ⟨k + 1, by omega, by go_num, rfl, HR2.out⟩
              case measure => simp [intOf]; omega
            · by_cases h12 : kind = 12
              · have g6 : (kind != 6) = true := by simpa using h6
                have g12 : (kind != 12) = false := by simpa using h12
                clear h6 h12
                have hpl := played_any _ (((hR1).sen).below (hR1).q) hP (hR1).m.1 (hR1).m.2.1 kind who a c w2 w3
                have HR : Hid _ := hR1
                have HP : Hid _ := hP
                clear hR1 hR hP
                have hk0 : (wr.alloc (.cells #[.int .i64 kind, .int .i64 who, .int .i64 a, .int .i64 c] 45)).cell? ⟨wr.heap.size, 0, none⟩ = some (.int .i64 kind) := hBx.cell 0
                go_upto_region 13 with fail
                refine wp_region_lit ?_
                refine withFrS (N := 106) rfl ?_
                intro f0 F0 hff
                have hs17 : f0 17 = Value.pointer (some ⟨wr.heap.size, 0, none⟩) := hff 17
                have hs18 : f0 18 = Value.pointer (some ⟨n1 + 2, 0, none⟩) := hff 18
                clear hff
                refine syp F0 rfl (by omega) (wanted_none rfl) (v := Value.pointer (some ⟨n1 + 2, 0, none⟩)) (by simp only [execOp, (F0.eval 18 (by omega)).trans (show _ = Value.pointer (some ⟨n1 + 2, 0, none⟩) from by simp [upd, hs17, hs18])]; first | rfl | simp [go_sem]) fun F1 => ?_
                refine syp F1 rfl (by omega) (wanted_none rfl) (v := Value.bool false) (by simp only [execOp, (F1.eval 61 (by omega)).trans (show _ = Value.pointer (some ⟨n1 + 2, 0, none⟩) from by simp [upd, hs17, hs18])]; simp [go_sem, Act.eval]) fun F2 => ?_
                refine syp F2 rfl (by omega) (wanted_none rfl) (v := Value.bool false) (by simp only [execOp, (F2.eval 62 (by omega)).trans (show _ = Value.bool false from by simp [upd, hs17, hs18])]; first | rfl | simp [go_sem]) fun F3 => ?_
                refine syp F3 rfl (by omega) (want_yes F3 rfl (e := 63) rfl (by omega) (show _ = Value.bool false from by simp [upd, hs17, hs18])) (v := Value.pointer (some ⟨wr.heap.size, 0, none⟩)) (by simp only [execOp, (F3.eval 17 (by omega)).trans (show _ = Value.pointer (some ⟨wr.heap.size, 0, none⟩) from by simp [upd, hs17, hs18])]; simp [go_sem]) fun F4 => ?_
                refine syp F4 rfl (by omega) (want_yes F4 rfl (e := 63) rfl (by omega) (show _ = Value.bool false from by simp [upd, hs17, hs18])) (v := Value.int .i64 kind) (by simp only [execOp, (F4.eval 64 (by omega)).trans (show _ = Value.pointer (some ⟨wr.heap.size, 0, none⟩) from by simp [upd, hs17, hs18])]; simp [go_sem, hk0]) fun F5 => ?_
                refine syp F5 rfl (by omega) (want_yes F5 rfl (e := 63) rfl (by omega) (show _ = Value.bool false from by simp [upd, hs17, hs18])) (v := Value.bool true) (by simp only [execOp, (F5.eval 65 (by omega)).trans (show _ = Value.int .i64 kind from by simp [upd, hs17, hs18])]; simp [go_sem, Act.eval, g6]) fun F6 => ?_
                refine syp F6 rfl (by omega) (want_yes F6 rfl (e := 63) rfl (by omega) (show _ = Value.bool false from by simp [upd, hs17, hs18])) (v := Value.bool true) (by simp only [execOp, (F6.eval 66 (by omega)).trans (show _ = Value.bool true from by simp [upd, hs17, hs18])]; first | rfl | simp [go_sem]) fun F7 => ?_
                refine syp F7 rfl (by omega) (want_yes F7 rfl (e := 67) rfl (by omega) (show _ = Value.bool true from by simp [upd, hs17, hs18])) (v := Value.pointer (some ⟨wr.heap.size, 0, none⟩)) (by simp only [execOp, (F7.eval 17 (by omega)).trans (show _ = Value.pointer (some ⟨wr.heap.size, 0, none⟩) from by simp [upd, hs17, hs18])]; simp [go_sem]) fun F8 => ?_
                refine syp F8 rfl (by omega) (want_yes F8 rfl (e := 67) rfl (by omega) (show _ = Value.bool true from by simp [upd, hs17, hs18])) (v := Value.int .i64 kind) (by simp only [execOp, (F8.eval 68 (by omega)).trans (show _ = Value.pointer (some ⟨wr.heap.size, 0, none⟩) from by simp [upd, hs17, hs18])]; simp [go_sem, hk0]) fun F9 => ?_
                refine syp F9 rfl (by omega) (want_yes F9 rfl (e := 67) rfl (by omega) (show _ = Value.bool true from by simp [upd, hs17, hs18])) (v := Value.bool false) (by simp only [execOp, (F9.eval 69 (by omega)).trans (show _ = Value.int .i64 kind from by simp [upd, hs17, hs18])]; simp [go_sem, Act.eval, g12]) fun F10 => ?_
                refine syp F10 rfl (by omega) (want_yes F10 rfl (e := 63) rfl (by omega) (show _ = Value.bool false from by simp [upd, hs17, hs18])) (v := Value.bool false) (by simp only [execOp, (F10.eval 67 (by omega)).trans (show _ = Value.bool true from by simp [upd, hs17, hs18]), (F10.eval 70 (by omega)).trans (show _ = Value.bool false from by simp [upd, hs17, hs18])]; simp [go_sem, Act.eval]) fun F11 => ?_
                refine syp F11 rfl (by omega) (want_yes F11 rfl (e := 63) rfl (by omega) (show _ = Value.bool false from by simp [upd, hs17, hs18])) (v := Value.bool false) (by simp only [execOp, (F11.eval 71 (by omega)).trans (show _ = Value.bool false from by simp [upd, hs17, hs18])]; first | rfl | simp [go_sem]) fun F12 => ?_
                refine snp F12 rfl (by omega) (want_no F12 rfl (e := 72) rfl (by omega) (show _ = Value.bool false from by simp [upd, hs17, hs18]) (by decide)) fun F13 => ?_
                refine snp F13 rfl (by omega) (want_no F13 rfl (e := 72) rfl (by omega) (show _ = Value.bool false from by simp [upd, hs17, hs18]) (by decide)) fun F14 => ?_
                refine snp F14 rfl (by omega) (want_no F14 rfl (e := 72) rfl (by omega) (show _ = Value.bool false from by simp [upd, hs17, hs18]) (by decide)) fun F15 => ?_
                refine snp F15 rfl (by omega) (want_no F15 rfl (e := 72) rfl (by omega) (show _ = Value.bool false from by simp [upd, hs17, hs18]) (by decide)) fun F16 => ?_
                refine snp F16 rfl (by omega) (want_no F16 rfl (e := 72) rfl (by omega) (show _ = Value.bool false from by simp [upd, hs17, hs18]) (by decide)) fun F17 => ?_
                refine snp F17 rfl (by omega) (want_not F17 rfl (e := 77) rfl (by omega) (show _ = undef from by simp [upd, hs17, hs18])) fun F18 => ?_
                refine snp F18 rfl (by omega) (want_not F18 rfl (e := 77) rfl (by omega) (show _ = undef from by simp [upd, hs17, hs18])) fun F19 => ?_
                refine snp F19 rfl (by omega) (want_not F19 rfl (e := 77) rfl (by omega) (show _ = undef from by simp [upd, hs17, hs18])) fun F20 => ?_
                refine snp F20 rfl (by omega) (want_not F20 rfl (e := 77) rfl (by omega) (show _ = undef from by simp [upd, hs17, hs18])) fun F21 => ?_
                refine snp F21 rfl (by omega) (want_no F21 rfl (e := 72) rfl (by omega) (show _ = Value.bool false from by simp [upd, hs17, hs18]) (by decide)) fun F22 => ?_
                refine syp F22 rfl (by omega) (want_yes F22 rfl (e := 63) rfl (by omega) (show _ = Value.bool false from by simp [upd, hs17, hs18])) (v := Value.bool false) (by simp only [execOp, (F22.eval 72 (by omega)).trans (show _ = Value.bool false from by simp [upd, hs17, hs18])]; simp [go_sem, Act.eval]) fun F23 => ?_
                refine syp F23 rfl (by omega) (wanted_none rfl) (v := Value.bool false) (by simp only [execOp, (F23.eval 63 (by omega)).trans (show _ = Value.bool false from by simp [upd, hs17, hs18]), (F23.eval 83 (by omega)).trans (show _ = Value.bool false from by simp [upd, hs17, hs18])]; simp [go_sem, Act.eval]) fun F24 => ?_
                refine ⟨?_⟩
                clear F0 F1 F2 F3 F4 F5 F6 F7 F8 F9 F10 F11 F12 F13 F14 F15 F16 F17 F18 F19 F20 F21 F22 F23 F24 hs17 hs18 hk0
                simp only [Act.put, List.setIfInBounds_toArray, List.set_cons_succ, List.set_cons_zero]
                go_wp2_with (first | (refine wpList_load_row rfl 45 (.tmp 17) rfl wr.heap.size rfl 45 _ (0, 0) _ hBx Tryd.underlying45 rfl (by kernel_rfl) ?_) | fail)
                refine hpl.mono ?_
                rintro e4 w4 ⟨rfl, s4, hP4, hq4⟩
                have hR2 := (RI.play (HR.out) (by simp) rfl HP.out hP4 hq4)
                have HR2 : Hid _ := hR2
                clear hpl hP4 hq4 hR2 HR HP
                go_wp2_with fail
                go_roundw
                case rel => exact ⟨k + 1, by omega, by go_num, rfl, HR2.out⟩
                case measure => simp [intOf]; omega
              · by_cases hlo : kind < lo
                · have g6 : (kind != 6) = true := by simpa using h6
                  have g12 : (kind != 12) = true := by simpa using h12
                  have glo : decide (kind < lo) = true := by simpa using hlo
                  clear h6 h12 hlo
                  have HR : Hid _ := hR1
                  clear hR1 hR
                  go_wp2_with fail
                  go_roundw
                  case rel => exact ⟨k + 1, by omega, by go_num, rfl, HR.out⟩
                  case measure => simp [intOf]; omega
                · by_cases hhi : hi < kind
                  · have g6 : (kind != 6) = true := by simpa using h6
                    have g12 : (kind != 12) = true := by simpa using h12
                    have glo : decide (kind < lo) = false := by simpa using hlo
                    have ghi : decide (hi < kind) = true := by simpa using hhi
                    clear h6 h12 hlo hhi
                    have HR : Hid _ := hR1
                    clear hR1 hR
                    go_wp2_with fail
                    go_roundw
                    case rel => exact ⟨k + 1, by omega, by go_num, rfl, HR.out⟩
                    case measure => simp [intOf]; omega
                  · have g6 : (kind != 6) = true := by simpa using h6
                    have g12 : (kind != 12) = true := by simpa using h12
                    have glo : decide (kind < lo) = false := by simpa using hlo
                    have ghi : decide (hi < kind) = false := by simpa using hhi
                    clear h6 h12 hlo hhi
                    have hpl := played_any _ (((hR1).sen).below (hR1).q) hP (hR1).m.1 (hR1).m.2.1 kind who a c w2 w3
                    have HR : Hid _ := hR1
                    have HP : Hid _ := hP
                    clear hR1 hR hP
                    go_wp2_with (first | (refine wpList_load_row rfl 45 (.tmp 17) rfl wr.heap.size rfl 45 _ (0, 0) _ hBx Tryd.underlying45 rfl (by kernel_rfl) ?_) | fail)
                    refine hpl.mono ?_
                    rintro e4 w4 ⟨rfl, s4, hP4, hq4⟩
                    have hR2 := (RI.play (HR.out) (by simp) rfl HP.out hP4 hq4)
                    have HR2 : Hid _ := hR2
                    clear hpl hP4 hq4 hR2 HR HP
                    go_wp2_with fail
                    go_roundw
                    case rel => exact ⟨k + 1, by omega, by go_num, rfl, HR2.out⟩
                    case measure => simp [intOf]; omega
      · have hra := hR.a
        have hrb := hR.b
        rcases hra with rfl | ⟨rfl, s, hP⟩
        · rcases hrb with rfl | ⟨rfl, t, hQ⟩
          · have HQ : Hid _ := hR.q
            clear hR
            go_wp2_with fail
            go_ret
            exact ⟨rfl, HQ.out⟩
          · have hsh := shows_any _ hQ
            have HQ : Hid _ := hR
            clear hR hQ
            go_wp2_with fail
            refine hsh.mono ?_
            rintro e5 w5 ⟨rfl, hb5⟩
            have HE : Hid _ := (RI.more HQ.out hb5).q
            clear hsh hb5 HQ
            go_wp2_with fail
            go_ret
            exact ⟨rfl, HE.out⟩
        · rcases hrb with rfl | ⟨rfl, t, hQ⟩
          · have hsh := shows_any _ hP
            have HQ : Hid _ := hR
            clear hR hP
            go_wp2_with fail
            refine hsh.mono ?_
            rintro e5 w5 ⟨rfl, hb5⟩
            have HE : Hid _ := (RI.more HQ.out hb5).q
            clear hsh hb5 HQ
            go_wp2_with fail
            go_ret
            exact ⟨rfl, HE.out⟩
          · have hsh := shows_any _ hP
            have HQ : Hid _ := hR
            have HQQ : Hid _ := hQ
            clear hR hP hQ
            go_wp2_with fail
            refine hsh.mono ?_
            rintro e5 w5 ⟨rfl, hb5⟩
            have hsh2 := shows_any _ (Pr.below HQQ.out hb5)
            have HE : Hid _ := RI.more HQ.out hb5
            clear hsh hb5 HQ HQQ
            go_wp2_with fail
            refine hsh2.mono ?_
            rintro e6 w6 ⟨rfl, hb6⟩
            have HF : Hid _ := (RI.more HE.out hb6).q
            clear hsh2 hb6 HE
            go_wp2_with fail
            go_ret
            exact ⟨rfl, HF.out⟩
    · have hra := hR.a
      have hrb := hR.b
      rcases hra with rfl | ⟨rfl, s, hP⟩
      · rcases hrb with rfl | ⟨rfl, t, hQ⟩
        · have HQ : Hid _ := hR.q
          clear hR
          go_wp2_with fail
          go_ret
          exact ⟨rfl, HQ.out⟩
        · have hsh := shows_any _ hQ
          have HQ : Hid _ := hR
          clear hR hQ
          go_wp2_with fail
          refine hsh.mono ?_
          rintro e5 w5 ⟨rfl, hb5⟩
          have HE : Hid _ := (RI.more HQ.out hb5).q
          clear hsh hb5 HQ
          go_wp2_with fail
          go_ret
          exact ⟨rfl, HE.out⟩
      · rcases hrb with rfl | ⟨rfl, t, hQ⟩
        · have hsh := shows_any _ hP
          have HQ : Hid _ := hR
          clear hR hP
          go_wp2_with fail
          refine hsh.mono ?_
          rintro e5 w5 ⟨rfl, hb5⟩
          have HE : Hid _ := (RI.more HQ.out hb5).q
          clear hsh hb5 HQ
          go_wp2_with fail
          go_ret
          exact ⟨rfl, HE.out⟩
        · have hsh := shows_any _ hP
          have HQ : Hid _ := hR
          have HQQ : Hid _ := hQ
          clear hR hP hQ
          go_wp2_with fail
          refine hsh.mono ?_
          rintro e5 w5 ⟨rfl, hb5⟩
          have hsh2 := shows_any _ (Pr.below HQQ.out hb5)
          have HE : Hid _ := RI.more HQ.out hb5
          clear hsh hb5 HQ HQQ
          go_wp2_with fail
          refine hsh2.mono ?_
          rintro e6 w6 ⟨rfl, hb6⟩
          have HF : Hid _ := (RI.more HE.out hb6).q
          clear hsh2 hb6 HE
          go_wp2_with fail
          go_ret
          exact ⟨rfl, HF.out⟩
end Go.Proofs.YtgnkkpcklljffaaDoor
