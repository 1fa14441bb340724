import Derived.Test.YtgnkkpcklljffaaDoorSound0
import Derived.Deep.Cut
namespace Go.Proofs.YtgnkkpcklljffaaDoor
open Go.RowKit Go.PlainAid
set_option linter.unusedVariables false
set_option linter.unusedSimpArgs false
section
variable {ops : Array Oper} {Q : Exit → Act → World → Prop} {a : Act} {w : World} {rest : List Oper} {o : Oper} {f : Nat → Value} {N d : Nat}
theorem scp (hF : Fr N a f) (hd : o.dst = some d) (hN : d < N) (hw : Region.wanted o (yielded ops a.tmps) = true) {g : Nat} {args : Array Value} {Post : Ending → World → Prop} (hr : (execOp a.eval o).run Tryd.prog w = .ok (.enter g args) w) (hc : Calls Tryd.prog g args w Post)
    (h : ∀ e w', Post e w' → ∃ v, e = .returned v ∧ (Fr N (a.put (some d) v) (upd f d v) → WS ops Q rest (a.put (some d) v) w')) : WS ops Q (o :: rest) a w :=
  ⟨wpList_step fun K hK => by
    rw [if_pos hw]
    unfold Oper.wp
    rw [hr]
    refine hc.mono ?_
    intro e w' hp
    obtain ⟨v, rfl, h'⟩ := h e w' hp
    exact hK _ _ (by rw [hd]; exact (h' (hF.put d v hN)).out)⟩
end
/-- What a round holds: the ledger, the call, the rights as they were. -/
structure SB (S : Sens) (L hl ob wb : Nat) (s : LS) (kind who a b d u : Int) (W0 w : World) : Prop where
  l : Blk w hl s.cs 62
  o : Blk w ob #[.int .i64 kind, .int .i64 who, .int .i64 a, .int .i64 b] 45
  x : Blk w wb #[.int .i64 d, .int .i64 u] 29
  sen : Sen S L w
  q : Below L W0 w
  L1 : L ≤ hl
section
variable {S : Sens} {L hl ob wb : Nat} {s s' : LS} {kind who a b d u : Int} {W0 w w' : World}
theorem SB.step (h : SB S L hl ob wb s kind who a b d u W0 w) (hB : Blk w' hl s'.cs 62) (hq : Stq hl w w') : SB S L hl ob wb s' kind who a b d u W0 w' := by
  have hb' : Below L w w' := hq.below (Nat.le_of_lt (Nat.lt_of_le_of_lt h.L1 h.l.lt)) h.L1
  exact ⟨hB, hq.blk h.o (blk_ne h.o h.l (by decide)), hq.blk h.x (blk_ne h.x h.l (by decide)), h.sen.below hb', h.q.trans hb', h.L1⟩
theorem SB.more (h : SB S L hl ob wb s kind who a b d u W0 w) (k : Below w.heap.size w w') : SB S L hl ob wb s kind who a b d u W0 w' := h.step (h.l.below k h.l.lt) (Stq.ofBelow k)
theorem SB.drew (h : SB S L hl ob wb s kind who a b d u W0 w) : SB S L hl ob wb s kind who a b d u W0 ({ w with drawn := w.drawn + 1 } : World) := h.more ⟨rfl, rfl, rfl, Nat.le_refl _, fun _ _ => rfl⟩
theorem SB.drewN (h : SB S L hl ob wb s kind who a b d u W0 w) (q : Nat) : SB S L hl ob wb s kind who a b d u W0 (w.drewN q) := h.more ⟨rfl, rfl, rfl, Nat.le_refl _, fun _ _ => rfl⟩
theorem SB.o0 (h : SB S L hl ob wb s kind who a b d u W0 w) : w.cell? ⟨ob, 0, none⟩ = some (.int .i64 kind) := h.o.cell 0
theorem SB.o1 (h : SB S L hl ob wb s kind who a b d u W0 w) : w.cell? ⟨ob, 1, none⟩ = some (.int .i64 who) := h.o.cell 1
theorem SB.o2 (h : SB S L hl ob wb s kind who a b d u W0 w) : w.cell? ⟨ob, 2, none⟩ = some (.int .i64 a) := h.o.cell 2
theorem SB.o3 (h : SB S L hl ob wb s kind who a b d u W0 w) : w.cell? ⟨ob, 3, none⟩ = some (.int .i64 b) := h.o.cell 3
theorem SB.x0 (h : SB S L hl ob wb s kind who a b d u W0 w) : w.cell? ⟨wb, 0, none⟩ = some (.int .i64 d) := h.x.cell 0
theorem SB.x1 (h : SB S L hl ob wb s kind who a b d u W0 w) : w.cell? ⟨wb, 1, none⟩ = some (.int .i64 u) := h.x.cell 1
end
def SL (hl : Nat) (W w : World) : Prop := ∃ s : LS, Blk w hl s.cs 62 ∧ s.Ok ∧ Below W.heap.size W w
theorem o2_of {w : World} {ob : Nat} {kind who a b : Int} (h : Blk w ob #[.int .i64 kind, .int .i64 who, .int .i64 a, .int .i64 b] 45) : w.cell? ⟨ob, 2, none⟩ = some (.int .i64 a) := h.cell 2
theorem o3_of {w : World} {ob : Nat} {kind who a b : Int} (h : Blk w ob #[.int .i64 kind, .int .i64 who, .int .i64 a, .int .i64 b] 45) : w.cell? ⟨ob, 3, none⟩ = some (.int .i64 b) := h.cell 3
set_option maxRecDepth 100000 in
set_option maxHeartbeats 25600000 in
theorem sound_law {S : Sens} (z0 : Int) (ao : Option Addr) (N cap : Nat) (os : List OpA) (W : World) (hS : Sen S W.heap.size W) (y0 : IntKind.i64.wrap z0 = z0) (hN : os.length = N) (hmax : N ≤ maxLen) (hat : 0 < N → ∃ b off, ao = some ⟨b, off, none⟩ ∧ ∀ i o, os[i]? = some o → OpAt W b (off + i * 4) o) :
    Calls Tryd.prog 5 #[.int .i64 z0, .slice ao N cap] W fun e W' => e = .returned (.bool true) ∧ Below W.heap.size W W' := by
  have hmax' : N ≤ 9223372036854775807 := by simpa [maxLen] using hmax
  have hal := alive_any W hS
  have HT : Hid _ := hat
  have HS : Hid _ := hS
  clear hat hS
  go_enter Tryd.func5, Tryd.ntmps5
  go_wp2_with fail
  refine hal.mono ?_
  rintro e1 W1 ⟨rfl, hb1⟩
  have hw := within_any z0 1 1099511627776 W1 y0 (by omega) (by omega) (by omega)
  have HB1 : Hid _ := hb1
  clear hal hb1
  go_wp2_with fail
  refine hw.mono ?_
  rintro e2 W2 ⟨⟨c0, rfl, hc1, hc2⟩, rfl⟩
  have oc : okAmt c0 = true := by simp [okAmt]; omega
  have hn := new_any c0 W2 oc
  clear hw
  go_wp2_with fail
  refine hn.mono ?_
  rintro e3 W3 ⟨rfl, hw3⟩
  have hR0 : SL W2.heap.size W W3 := by
    rw [hw3]
    exact ⟨_, heap_alloc_new W2 _, fresh_ok oc, HB1.out.trans (Below.mono (show Below W2.heap.size W2 _ by go_grown) HB1.out.size)⟩
  have hLl : W.heap.size ≤ W2.heap.size := HB1.out.size
  have HR0 : Hid _ := hR0
  clear hn hw3 hR0 HB1 oc
  generalize W2.heap.size = hl at *
  go_wp2_with fail
  go_loopw [8, 9, 10, 11, 12, 13, 14, 15, 16, 17, 18, 19, 20, 21, 22] (fun (i : Value) (_ : Value) (_ : Value) (_ : Value) (_ : Value) (_ : Value) (_ : Value) (_ : Value) (_ : Value) (_ : Value) (_ : Value) (_ : Value) (_ : Value) (_ : Value) (_ : Value) (wr : World) => ∃ k : Nat, k ≤ N ∧ i = .int .i64 k ∧ SL hl W wr) (fun i _ _ _ _ _ _ _ _ _ _ _ _ _ _ _ => N - (intOf i).toNat)
  case atStart => exact ⟨0, Nat.zero_le _, rfl, HR0.out⟩
  case round =>
    obtain ⟨k, hk, rfl, hR⟩ := hrel
    rename World => wr
    clear HR0
    by_cases hlt : k < N
    · by_cases h1000 : k < 1000
      · obtain ⟨o, ho⟩ : ∃ o, os[k]? = some o := ⟨os[k]'(by omega), List.getElem?_eq_getElem _⟩
        obtain ⟨b, off, rfl, hcell⟩ := HT.out (by omega)
        have hoa := hcell k o ho
        have hbl : b < W.heap.size := World.block_lt_of_cell? _ _ hoa.c0
        obtain ⟨s, hBl, hok, hq⟩ := hR
        have hc := fun (j : Nat) => hq.cell (p := ⟨b, j, none⟩) hbl
        have d0 := (hc _).trans hoa.c0
        have d1 := (hc _).trans hoa.c1
        have d2 := (hc _).trans hoa.c2
        have d3 := (hc _).trans hoa.c3
        have w2 := hoa.w2
        have w3 := hoa.w3
        obtain ⟨kind, who, a, c⟩ := o
        simp only at d0 d1 d2 d3 w2 w3
        have hgr : Below wr.heap.size wr (wr.alloc (.cells #[.int .i64 kind, .int .i64 who, .int .i64 a, .int .i64 c] 45)) := by go_grown
        have hBo : Blk (wr.alloc (.cells #[.int .i64 kind, .int .i64 who, .int .i64 a, .int .i64 c] 45)) wr.heap.size #[.int .i64 kind, .int .i64 who, .int .i64 a, .int .i64 c] 45 := heap_alloc_new wr _
        have hBl1 := hBl.below hgr hBl.lt
        have hq1 := hq.trans (hgr.mono hq.size)
        have hr := rights_any _ hBl1
        have HBo : Hid _ := hBo
        have HBl : Hid _ := hBl1
        have HQ1 : Hid _ := hq1
        clear hoa hcell ho hc hN hgr hBo hBl1 hq1 hBl hq
        go_wp2_with fail
        refine hr.mono ?_
        rintro e4 v1 ⟨rfl, hb4⟩
        have hB : SB S W.heap.size hl wr.heap.size v1.heap.size s kind who a c s.d s.u W (v1.alloc (.cells #[.int .i64 s.d, .int .i64 s.u] 29)) := by
          have hgr2 : Below v1.heap.size v1 (v1.alloc (.cells #[.int .i64 s.d, .int .i64 s.u] 29)) := by go_grown
          have h1 := Blk.below HBl.out hb4 (Blk.lt HBl.out)
          have h2 := Blk.below HBo.out hb4 (Blk.lt HBo.out)
          have h3 := HQ1.out.trans (hb4.mono HQ1.out.size)
          have h4 := h3.trans (hgr2.mono h3.size)
          exact ⟨h1.below hgr2 h1.lt, h2.below hgr2 h2.lt, heap_alloc_new v1 _, HS.out.below h4, h4, hLl⟩
        clear hr hb4 HBo HBl HQ1 d0 d1 d2 d3
        have hh := held_any _ hB.l
        have HB : Hid _ := hB
        clear hB
        generalize wr.heap.size = ob at *
        go_wp2_with fail
        refine hh.mono ?_
        rintro e5 v2 ⟨rfl, hv2⟩
        have hB : SB S W.heap.size hl ob v1.heap.size s kind who a c s.d s.u W v2 := hv2 ▸ HB.out
        clear hh HB hv2
        generalize v1.heap.size = wb at *
        have hh := cap_any _ hB.l
        have HB : Hid _ := hB
        clear hB
        go_wp2_with fail
        refine hh.mono ?_
        rintro e6 v3 ⟨rfl, q3, rfl⟩
        have hB := HB.out.drewN q3
        clear hh HB
        have hh := sum_any _ hB.l hok
        have HB : Hid _ := hB
        clear hB
        generalize v2.drewN q3 = v3 at *
        go_wp2_with fail
        refine hh.mono ?_
        rintro e7 v4 ⟨rfl, hb7⟩
        have hB := HB.out.more hb7
        clear hh HB hb7
        have hall : s.all = s.d + s.u + s.h := rfl
        have HALL : Hid _ := hall
        clear hall
        by_cases h8 : kind = 8
        · as_aux_lemma =>
            have g8 : (kind == 8) = true := by simpa using h8
            clear h8
            have o0 := hB.o0
            have o1 := hB.o1
            have o2 := hB.o2
            have o3 := hB.o3
            have hh := allOut_any _ hB.l
            have HB : Hid _ := hB
            clear hB
            go_wp2_with fail
            refine hh.mono ?_
            rintro e8 v5 ⟨rfl, hBa, hTa⟩
            have hB := HB.out.step hBa hTa
            clear hh HB o0 o1 o2 o3 hBa hTa
            have hgr5 : Below v5.heap.size v5 (v5.alloc (.cells #[.int .i64 s.d, .int .i64 s.u] 29)) := by go_grown
            replace hB := hB.more hgr5
            have hN5 : Blk (v5.alloc (.cells #[.int .i64 s.d, .int .i64 s.u] 29)) v5.heap.size #[.int .i64 s.d, .int .i64 s.u] 29 := heap_alloc_new v5 _
            have n0 := x0_of hN5
            have n1 := x1_of hN5
            clear hgr5 hN5
            have x0 := hB.x0
            have x1 := hB.x1
            have hh := same_yes s.d s.u (v5.alloc (.cells #[.int .i64 s.d, .int .i64 s.u] 29))
            have HB : Hid _ := hB
            clear hB
            go_wp2_with fail
            refine hh.mono ?_
            rintro e9 v6 ⟨rfl, hb9⟩
            have hB := HB.out.more hb9
            clear hh HB x0 x1 hb9 n0 n1
            have hbo : s.bare.all = s.h := by unfold LS.all LS.bare; simp
            have oks := LS.bare_ok s hok
            have hh := sum_any _ hB.l oks
            rw [hbo] at hh
            have HB : Hid _ := hB
            clear hB hbo
            go_wp2_with fail
            refine hh.mono ?_
            rintro e10 v7 ⟨rfl, hb10⟩
            have hB := HB.out.more hb10
            clear hh HB hb10
            have hh := held_any _ hB.l
            rw [show s.bare.h = s.h from rfl] at hh
            have HB : Hid _ := hB
            clear hB
            go_wp2_with fail
            refine hh.mono ?_
            rintro e11 v8 ⟨rfl, rfl⟩
            have hB := HB.out
            clear hh HB
            have hh := sound_any _ hB.l (oks)
            have HB : Hid _ := hB
            clear hB
            go_wp2_with fail
            refine hh.mono ?_
            rintro e12 u12 ⟨rfl, hbs⟩
            have hB := HB.out.more hbs
            clear hh HB  hbs
            have HE : Hid _ := (show SL hl W _ from ⟨_, hB.l, oks, hB.q⟩)
            clear hB
            go_wp2_with fail
            go_roundw
            case rel => exact ⟨k + 1, by omega, by go_num, HE.out⟩
            case measure => simp [intOf]; omega
        · by_cases h11 : kind = 11
          · have g8 : (kind == 8) = false := by simpa using h8
            have g11 : (kind == 11) = true := by simpa using h11
            clear h8 h11
            have hcs := hok
            by_cases hc : s.hcode a c = true
            · have o0 := hB.o0
              have o1 := hB.o1
              have o2 := hB.o2
              have o3 := hB.o3
              have hh := hear_any _ hB.l hok a c
              rw [hc, show s.hnext a c = { s with c := a, n := c } from by unfold LS.hnext; rw [if_pos hc]] at hh
              have hnw : s.n < c := by unfold LS.hcode at hc; rw [Bool.and_eq_true] at hc; exact (LS.news_amt hc.1).2.2
              have oks : ({ s with c := a, n := c } : LS).Ok := by have := s.hnext_ok hok a c; unfold LS.hnext at this; rwa [if_pos hc] at this
              have gnw : decide (s.n < c) = true := by simpa using hnw
              have HB : Hid _ := hB
              clear hB hc
              go_wp2_with fail
              refine hh.mono ?_
              rintro e8 v5 ⟨rfl, hBa, hTa⟩
              have hB := HB.out.step hBa hTa
              clear hh HB hBa hTa o0 o1 o2 o3
              have hh := cap_any _ hB.l
              have HB : Hid _ := hB
              clear hB
              go_wp2_with fail
              refine hh.mono ?_
              rintro e9 v6 ⟨rfl, q6, rfl⟩
              have hB := HB.out.drewN q6
              clear hh HB  
              generalize v5.drewN q6 = v6 at *
              have HB : Hid _ := hB
              clear hB
              go_wp2_with fail
              rename_i K hK
              try rw [show ∀ a : Act, a.put none undef = a from fun _ => rfl]
              have hX : SB S W.heap.size hl ob wb { s with c := a, n := c } kind who a c s.d s.u W ({ v6 with drawn := v6.drawn + 1 } : World) := HB.out.drew
              refine wp_region_mix (fun wr => Blk wr ob #[.int .i64 kind, .int .i64 who, .int .i64 a, .int .i64 c] 45 ∧ Blk wr wb #[.int .i64 s.d, .int .i64 s.u] 29) (fun i => i == 1 || i == 3 || i == 7 || i == 44) 44 (by kernel_rfl) rfl (by kernel_rfl) (by kernel_rfl) (by kernel_rfl) ?_
              generalize ({ v6 with drawn := v6.drawn + 1 } : World) = X at *
              have hC0 : Blk X ob #[.int .i64 kind, .int .i64 who, .int .i64 a, .int .i64 c] 45 ∧ Blk X wb #[.int .i64 s.d, .int .i64 s.u] 29 := ⟨hX.o, hX.x⟩
              refine withFrP (N := 232) rfl ?_
              intro f0 F0 hff
              have hs6 : f0 6 = Value.pointer (some ⟨hl, 0, none⟩) := hff 6
              have hs9 : f0 9 = Value.pointer (some ⟨ob, 0, none⟩) := hff 9
              have hs10 : f0 10 = Value.pointer (some ⟨wb, 0, none⟩) := hff 10
              have hs11 : f0 11 = Value.int .i64 s.h := hff 11
              have hs12 : f0 12 = Value.int .i64 s.c := hff 12
              have hs13 : f0 13 = Value.int .i64 s.n := hff 13
              have hs16 : f0 16 = Value.bool true := hff 16
              have hs17 : f0 17 = Value.int .i64 a := hff 17
              have hs18 : f0 18 = Value.int .i64 c := hff 18
              clear hff
              refine lyp F0 rfl hC0 rfl (by omega) (wanted_none rfl) (v := Value.pointer (some ⟨hl, 0, none⟩)) (fun wr hwr => by simp only [execOp, (F0.eval 6 (by omega)).trans (show _ = Value.pointer (some ⟨hl, 0, none⟩) from by simp [upd, hs6, hs9, hs10, hs11, hs12, hs13, hs16, hs17, hs18])]; first | rfl | simp [go_sem]) fun Fp1 => ?_
              have hi1 := rights_any _ hX.l
              refine lcp Fp1 rfl hC0 rfl (by omega) (wanted_none rfl) (g := 16) (args := #[Value.pointer (some ⟨hl, 0, none⟩)]) (by simp only [execOp, resolve, invoke, List.map_toArray, List.map_cons, List.map_nil, (Fp1.eval 102 (by omega)).trans (show _ = Value.pointer (some ⟨hl, 0, none⟩) from by simp [upd, hs6, hs9, hs10, hs11, hs12, hs13, hs16, hs17, hs18])]; simp [go_sem, Act.eval]) hi1 ?_
              rintro ex1 vp1 ⟨rfl, hb1⟩
              refine ⟨_, rfl, fun Fp2 => ?_⟩
              have hY1 := hX.more hb1
              have hC1 : Blk _ ob #[.int .i64 kind, .int .i64 who, .int .i64 a, .int .i64 c] 45 ∧ Blk _ wb #[.int .i64 s.d, .int .i64 s.u] 29 := ⟨hY1.o, hY1.x⟩
              refine lyp Fp2 rfl hC1 rfl (by omega) (wanted_none rfl) (v := Value.agg #[.int .i64 s.d, .int .i64 s.u]) (fun wr hwr => by simp only [execOp, (Fp2.eval 10 (by omega)).trans (show _ = Value.pointer (some ⟨wb, 0, none⟩) from by simp [upd, hs6, hs9, hs10, hs11, hs12, hs13, hs16, hs17, hs18])]; simp [go_sem, x0_of hwr.2, x1_of hwr.2]) fun Fp3 => ?_
              refine lcp Fp3 rfl hC1 rfl (by omega) (wanted_none rfl) (g := 15) (args := #[Value.agg #[.int .i64 s.d, .int .i64 s.u], Value.agg #[.int .i64 s.d, .int .i64 s.u]]) (by simp only [execOp, resolve, invoke, List.map_toArray, List.map_cons, List.map_nil, (Fp3.eval 103 (by omega)).trans (show _ = Value.agg #[.int .i64 s.d, .int .i64 s.u] from by simp [upd, hs6, hs9, hs10, hs11, hs12, hs13, hs16, hs17, hs18]), (Fp3.eval 104 (by omega)).trans (show _ = Value.agg #[.int .i64 s.d, .int .i64 s.u] from by simp [upd, hs6, hs9, hs10, hs11, hs12, hs13, hs16, hs17, hs18])]; simp [go_sem, Act.eval]) (same_yes s.d s.u _) ?_
              rintro ex2 vp2 ⟨rfl, hb2⟩
              refine ⟨_, rfl, fun Fp4 => ?_⟩
              have hY2 := hY1.more hb2
              have hC2 : Blk _ ob #[.int .i64 kind, .int .i64 who, .int .i64 a, .int .i64 c] 45 ∧ Blk _ wb #[.int .i64 s.d, .int .i64 s.u] 29 := ⟨hY2.o, hY2.x⟩
              refine lyp Fp4 rfl hC2 rfl (by omega) (wanted_none rfl) (v := Value.bool false) (fun wr hwr => by simp only [execOp, (Fp4.eval 105 (by omega)).trans (show _ = Value.bool true from by simp [upd, hs6, hs9, hs10, hs11, hs12, hs13, hs16, hs17, hs18])]; simp [go_sem, Act.eval]) fun Fp5 => ?_
              refine lyp Fp5 rfl hC2 rfl (by omega) (wanted_none rfl) (v := Value.bool false) (fun wr hwr => by simp only [execOp, (Fp5.eval 106 (by omega)).trans (show _ = Value.bool false from by simp [upd, hs6, hs9, hs10, hs11, hs12, hs13, hs16, hs17, hs18])]; first | rfl | simp [go_sem]) fun Fp6 => ?_
              refine lyp Fp6 rfl hC2 rfl (by omega) (want_yes Fp6 rfl (e := 107) rfl (by omega) (show _ = Value.bool false from by simp [upd, hs6, hs9, hs10, hs11, hs12, hs13, hs16, hs17, hs18])) (v := Value.pointer (some ⟨hl, 0, none⟩)) (fun wr hwr => by simp only [execOp, (Fp6.eval 6 (by omega)).trans (show _ = Value.pointer (some ⟨hl, 0, none⟩) from by simp [upd, hs6, hs9, hs10, hs11, hs12, hs13, hs16, hs17, hs18])]; first | rfl | simp [go_sem]) fun Fp7 => ?_
              have hi3 := held_any _ hY2.l
              refine lcp Fp7 rfl hC2 rfl (by omega) (want_yes Fp7 rfl (e := 107) rfl (by omega) (show _ = Value.bool false from by simp [upd, hs6, hs9, hs10, hs11, hs12, hs13, hs16, hs17, hs18])) (g := 18) (args := #[Value.pointer (some ⟨hl, 0, none⟩)]) (by simp only [execOp, resolve, invoke, List.map_toArray, List.map_cons, List.map_nil, (Fp7.eval 108 (by omega)).trans (show _ = Value.pointer (some ⟨hl, 0, none⟩) from by simp [upd, hs6, hs9, hs10, hs11, hs12, hs13, hs16, hs17, hs18])]; simp [go_sem, Act.eval]) hi3 ?_
              rintro ex3 vp3 ⟨rfl, rfl⟩
              refine ⟨_, rfl, fun Fp8 => ?_⟩
              have hY3 := hY2
              have hC3 : Blk _ ob #[.int .i64 kind, .int .i64 who, .int .i64 a, .int .i64 c] 45 ∧ Blk _ wb #[.int .i64 s.d, .int .i64 s.u] 29 := ⟨hY3.o, hY3.x⟩
              refine lyp Fp8 rfl hC3 rfl (by omega) (want_yes Fp8 rfl (e := 107) rfl (by omega) (show _ = Value.bool false from by simp [upd, hs6, hs9, hs10, hs11, hs12, hs13, hs16, hs17, hs18])) (v := Value.int .i64 s.h) (fun wr hwr => by simp only [execOp, (Fp8.eval 11 (by omega)).trans (show _ = Value.int .i64 s.h from by simp [upd, hs6, hs9, hs10, hs11, hs12, hs13, hs16, hs17, hs18])]; first | rfl | simp [go_sem]) fun Fp9 => ?_
              refine lyp Fp9 rfl hC3 rfl (by omega) (want_yes Fp9 rfl (e := 107) rfl (by omega) (show _ = Value.bool false from by simp [upd, hs6, hs9, hs10, hs11, hs12, hs13, hs16, hs17, hs18])) (v := Value.bool false) (fun wr hwr => by simp only [execOp, (Fp9.eval 109 (by omega)).trans (show _ = Value.int .i64 s.h from by simp [upd, hs6, hs9, hs10, hs11, hs12, hs13, hs16, hs17, hs18]), (Fp9.eval 110 (by omega)).trans (show _ = Value.int .i64 s.h from by simp [upd, hs6, hs9, hs10, hs11, hs12, hs13, hs16, hs17, hs18])]; simp [go_sem, Act.eval]) fun Fp10 => ?_
              refine lyp Fp10 rfl hC3 rfl (by omega) (wanted_none rfl) (v := Value.bool false) (fun wr hwr => by simp only [execOp, (Fp10.eval 107 (by omega)).trans (show _ = Value.bool false from by simp [upd, hs6, hs9, hs10, hs11, hs12, hs13, hs16, hs17, hs18]), (Fp10.eval 111 (by omega)).trans (show _ = Value.bool false from by simp [upd, hs6, hs9, hs10, hs11, hs12, hs13, hs16, hs17, hs18])]; simp [go_sem, Act.eval]) fun Fp11 => ?_
              refine lyp Fp11 rfl hC3 rfl (by omega) (wanted_none rfl) (v := Value.bool false) (fun wr hwr => by simp only [execOp, (Fp11.eval 112 (by omega)).trans (show _ = Value.bool false from by simp [upd, hs6, hs9, hs10, hs11, hs12, hs13, hs16, hs17, hs18])]; first | rfl | simp [go_sem]) fun Fp12 => ?_
              refine lyp Fp12 rfl hC3 rfl (by omega) (want_yes Fp12 rfl (e := 113) rfl (by omega) (show _ = Value.bool false from by simp [upd, hs6, hs9, hs10, hs11, hs12, hs13, hs16, hs17, hs18])) (v := Value.bool true) (fun wr hwr => by simp only [execOp, (Fp12.eval 16 (by omega)).trans (show _ = Value.bool true from by simp [upd, hs6, hs9, hs10, hs11, hs12, hs13, hs16, hs17, hs18])]; first | rfl | simp [go_sem]) fun Fp13 => ?_
              refine lyp Fp13 rfl hC3 rfl (by omega) (want_yes Fp13 rfl (e := 113) rfl (by omega) (show _ = Value.bool false from by simp [upd, hs6, hs9, hs10, hs11, hs12, hs13, hs16, hs17, hs18])) (v := Value.int .i64 a) (fun wr hwr => by simp only [execOp, (Fp13.eval 17 (by omega)).trans (show _ = Value.int .i64 a from by simp [upd, hs6, hs9, hs10, hs11, hs12, hs13, hs16, hs17, hs18])]; first | rfl | simp [go_sem]) fun Fp14 => ?_
              refine lyp Fp14 rfl hC3 rfl (by omega) (want_yes Fp14 rfl (e := 113) rfl (by omega) (show _ = Value.bool false from by simp [upd, hs6, hs9, hs10, hs11, hs12, hs13, hs16, hs17, hs18])) (v := Value.pointer (some ⟨ob, 2, none⟩)) (fun wr hwr => by simp only [execOp, (Fp14.eval 9 (by omega)).trans (show _ = Value.pointer (some ⟨ob, 0, none⟩) from by simp [upd, hs6, hs9, hs10, hs11, hs12, hs13, hs16, hs17, hs18])]; simp [go_sem]) fun Fp15 => ?_
              refine lyp Fp15 rfl hC3 rfl (by omega) (want_yes Fp15 rfl (e := 113) rfl (by omega) (show _ = Value.bool false from by simp [upd, hs6, hs9, hs10, hs11, hs12, hs13, hs16, hs17, hs18])) (v := Value.int .i64 a) (fun wr hwr => by simp only [execOp, (Fp15.eval 116 (by omega)).trans (show _ = Value.pointer (some ⟨ob, 2, none⟩) from by simp [upd, hs6, hs9, hs10, hs11, hs12, hs13, hs16, hs17, hs18])]; simp [go_sem, (o2_of hwr.1)]) fun Fp16 => ?_
              refine lyp Fp16 rfl hC3 rfl (by omega) (want_yes Fp16 rfl (e := 113) rfl (by omega) (show _ = Value.bool false from by simp [upd, hs6, hs9, hs10, hs11, hs12, hs13, hs16, hs17, hs18])) (v := Value.bool true) (fun wr hwr => by simp only [execOp, (Fp16.eval 115 (by omega)).trans (show _ = Value.int .i64 a from by simp [upd, hs6, hs9, hs10, hs11, hs12, hs13, hs16, hs17, hs18]), (Fp16.eval 117 (by omega)).trans (show _ = Value.int .i64 a from by simp [upd, hs6, hs9, hs10, hs11, hs12, hs13, hs16, hs17, hs18])]; simp [go_sem, Act.eval]) fun Fp17 => ?_
              refine lyp Fp17 rfl hC3 rfl (by omega) (want_yes Fp17 rfl (e := 113) rfl (by omega) (show _ = Value.bool false from by simp [upd, hs6, hs9, hs10, hs11, hs12, hs13, hs16, hs17, hs18])) (v := Value.bool true) (fun wr hwr => by simp only [execOp, (Fp17.eval 118 (by omega)).trans (show _ = Value.bool true from by simp [upd, hs6, hs9, hs10, hs11, hs12, hs13, hs16, hs17, hs18])]; first | rfl | simp [go_sem]) fun Fp18 => ?_
              refine lyp Fp18 rfl hC3 rfl (by omega) (want_yes Fp18 rfl (e := 119) rfl (by omega) (show _ = Value.bool true from by simp [upd, hs6, hs9, hs10, hs11, hs12, hs13, hs16, hs17, hs18])) (v := Value.int .i64 c) (fun wr hwr => by simp only [execOp, (Fp18.eval 18 (by omega)).trans (show _ = Value.int .i64 c from by simp [upd, hs6, hs9, hs10, hs11, hs12, hs13, hs16, hs17, hs18])]; first | rfl | simp [go_sem]) fun Fp19 => ?_
              refine lyp Fp19 rfl hC3 rfl (by omega) (want_yes Fp19 rfl (e := 119) rfl (by omega) (show _ = Value.bool true from by simp [upd, hs6, hs9, hs10, hs11, hs12, hs13, hs16, hs17, hs18])) (v := Value.pointer (some ⟨ob, 3, none⟩)) (fun wr hwr => by simp only [execOp, (Fp19.eval 9 (by omega)).trans (show _ = Value.pointer (some ⟨ob, 0, none⟩) from by simp [upd, hs6, hs9, hs10, hs11, hs12, hs13, hs16, hs17, hs18])]; simp [go_sem]) fun Fp20 => ?_
              refine lyp Fp20 rfl hC3 rfl (by omega) (want_yes Fp20 rfl (e := 119) rfl (by omega) (show _ = Value.bool true from by simp [upd, hs6, hs9, hs10, hs11, hs12, hs13, hs16, hs17, hs18])) (v := Value.int .i64 c) (fun wr hwr => by simp only [execOp, (Fp20.eval 121 (by omega)).trans (show _ = Value.pointer (some ⟨ob, 3, none⟩) from by simp [upd, hs6, hs9, hs10, hs11, hs12, hs13, hs16, hs17, hs18])]; simp [go_sem, (o3_of hwr.1)]) fun Fp21 => ?_
              refine lyp Fp21 rfl hC3 rfl (by omega) (want_yes Fp21 rfl (e := 119) rfl (by omega) (show _ = Value.bool true from by simp [upd, hs6, hs9, hs10, hs11, hs12, hs13, hs16, hs17, hs18])) (v := Value.bool true) (fun wr hwr => by simp only [execOp, (Fp21.eval 120 (by omega)).trans (show _ = Value.int .i64 c from by simp [upd, hs6, hs9, hs10, hs11, hs12, hs13, hs16, hs17, hs18]), (Fp21.eval 122 (by omega)).trans (show _ = Value.int .i64 c from by simp [upd, hs6, hs9, hs10, hs11, hs12, hs13, hs16, hs17, hs18])]; simp [go_sem, Act.eval]) fun Fp22 => ?_
              refine lyp Fp22 rfl hC3 rfl (by omega) (want_yes Fp22 rfl (e := 113) rfl (by omega) (show _ = Value.bool false from by simp [upd, hs6, hs9, hs10, hs11, hs12, hs13, hs16, hs17, hs18])) (v := Value.bool true) (fun wr hwr => by simp only [execOp, (Fp22.eval 119 (by omega)).trans (show _ = Value.bool true from by simp [upd, hs6, hs9, hs10, hs11, hs12, hs13, hs16, hs17, hs18]), (Fp22.eval 123 (by omega)).trans (show _ = Value.bool true from by simp [upd, hs6, hs9, hs10, hs11, hs12, hs13, hs16, hs17, hs18])]; simp [go_sem, Act.eval]) fun Fp23 => ?_
              refine lyp Fp23 rfl hC3 rfl (by omega) (want_yes Fp23 rfl (e := 113) rfl (by omega) (show _ = Value.bool false from by simp [upd, hs6, hs9, hs10, hs11, hs12, hs13, hs16, hs17, hs18])) (v := Value.bool true) (fun wr hwr => by simp only [execOp, (Fp23.eval 124 (by omega)).trans (show _ = Value.bool true from by simp [upd, hs6, hs9, hs10, hs11, hs12, hs13, hs16, hs17, hs18])]; first | rfl | simp [go_sem]) fun Fp24 => ?_
              refine lyp Fp24 rfl hC3 rfl (by omega) (want_yes Fp24 rfl (e := 125) rfl (by omega) (show _ = Value.bool true from by simp [upd, hs6, hs9, hs10, hs11, hs12, hs13, hs16, hs17, hs18])) (v := Value.int .i64 c) (fun wr hwr => by simp only [execOp, (Fp24.eval 18 (by omega)).trans (show _ = Value.int .i64 c from by simp [upd, hs6, hs9, hs10, hs11, hs12, hs13, hs16, hs17, hs18])]; first | rfl | simp [go_sem]) fun Fp25 => ?_
              refine lyp Fp25 rfl hC3 rfl (by omega) (want_yes Fp25 rfl (e := 125) rfl (by omega) (show _ = Value.bool true from by simp [upd, hs6, hs9, hs10, hs11, hs12, hs13, hs16, hs17, hs18])) (v := Value.int .i64 s.n) (fun wr hwr => by simp only [execOp, (Fp25.eval 13 (by omega)).trans (show _ = Value.int .i64 s.n from by simp [upd, hs6, hs9, hs10, hs11, hs12, hs13, hs16, hs17, hs18])]; first | rfl | simp [go_sem]) fun Fp26 => ?_
              refine lyp Fp26 rfl hC3 rfl (by omega) (want_yes Fp26 rfl (e := 125) rfl (by omega) (show _ = Value.bool true from by simp [upd, hs6, hs9, hs10, hs11, hs12, hs13, hs16, hs17, hs18])) (v := Value.bool true) (fun wr hwr => by simp only [execOp, (Fp26.eval 126 (by omega)).trans (show _ = Value.int .i64 c from by simp [upd, hs6, hs9, hs10, hs11, hs12, hs13, hs16, hs17, hs18]), (Fp26.eval 127 (by omega)).trans (show _ = Value.int .i64 s.n from by simp [upd, hs6, hs9, hs10, hs11, hs12, hs13, hs16, hs17, hs18])]; simp [go_sem, Act.eval, hnw]) fun Fp27 => ?_
              refine lyp Fp27 rfl hC3 rfl (by omega) (want_yes Fp27 rfl (e := 113) rfl (by omega) (show _ = Value.bool false from by simp [upd, hs6, hs9, hs10, hs11, hs12, hs13, hs16, hs17, hs18])) (v := Value.bool true) (fun wr hwr => by simp only [execOp, (Fp27.eval 125 (by omega)).trans (show _ = Value.bool true from by simp [upd, hs6, hs9, hs10, hs11, hs12, hs13, hs16, hs17, hs18]), (Fp27.eval 128 (by omega)).trans (show _ = Value.bool true from by simp [upd, hs6, hs9, hs10, hs11, hs12, hs13, hs16, hs17, hs18])]; simp [go_sem, Act.eval]) fun Fp28 => ?_
              refine lyp Fp28 rfl hC3 rfl (by omega) (want_yes Fp28 rfl (e := 113) rfl (by omega) (show _ = Value.bool false from by simp [upd, hs6, hs9, hs10, hs11, hs12, hs13, hs16, hs17, hs18])) (v := Value.bool false) (fun wr hwr => by simp only [execOp, (Fp28.eval 114 (by omega)).trans (show _ = Value.bool true from by simp [upd, hs6, hs9, hs10, hs11, hs12, hs13, hs16, hs17, hs18]), (Fp28.eval 129 (by omega)).trans (show _ = Value.bool true from by simp [upd, hs6, hs9, hs10, hs11, hs12, hs13, hs16, hs17, hs18])]; simp [go_sem, Act.eval]) fun Fp29 => ?_
              refine lyp Fp29 rfl hC3 rfl (by omega) (wanted_none rfl) (v := Value.bool false) (fun wr hwr => by simp only [execOp, (Fp29.eval 113 (by omega)).trans (show _ = Value.bool false from by simp [upd, hs6, hs9, hs10, hs11, hs12, hs13, hs16, hs17, hs18]), (Fp29.eval 130 (by omega)).trans (show _ = Value.bool false from by simp [upd, hs6, hs9, hs10, hs11, hs12, hs13, hs16, hs17, hs18])]; simp [go_sem, Act.eval]) fun Fp30 => ?_
              refine lyp Fp30 rfl hC3 rfl (by omega) (wanted_none rfl) (v := Value.bool false) (fun wr hwr => by simp only [execOp, (Fp30.eval 131 (by omega)).trans (show _ = Value.bool false from by simp [upd, hs6, hs9, hs10, hs11, hs12, hs13, hs16, hs17, hs18])]; first | rfl | simp [go_sem]) fun Fp31 => ?_
              refine lyp Fp31 rfl hC3 rfl (by omega) (want_yes Fp31 rfl (e := 132) rfl (by omega) (show _ = Value.bool false from by simp [upd, hs6, hs9, hs10, hs11, hs12, hs13, hs16, hs17, hs18])) (v := Value.bool true) (fun wr hwr => by simp only [execOp, (Fp31.eval 16 (by omega)).trans (show _ = Value.bool true from by simp [upd, hs6, hs9, hs10, hs11, hs12, hs13, hs16, hs17, hs18])]; first | rfl | simp [go_sem]) fun Fp32 => ?_
              refine lyp Fp32 rfl hC3 rfl (by omega) (want_yes Fp32 rfl (e := 132) rfl (by omega) (show _ = Value.bool false from by simp [upd, hs6, hs9, hs10, hs11, hs12, hs13, hs16, hs17, hs18])) (v := Value.bool false) (fun wr hwr => by simp only [execOp, (Fp32.eval 133 (by omega)).trans (show _ = Value.bool true from by simp [upd, hs6, hs9, hs10, hs11, hs12, hs13, hs16, hs17, hs18])]; simp [go_sem, Act.eval]) fun Fp33 => ?_
              refine lyp Fp33 rfl hC3 rfl (by omega) (want_yes Fp33 rfl (e := 132) rfl (by omega) (show _ = Value.bool false from by simp [upd, hs6, hs9, hs10, hs11, hs12, hs13, hs16, hs17, hs18])) (v := Value.bool false) (fun wr hwr => by simp only [execOp, (Fp33.eval 134 (by omega)).trans (show _ = Value.bool false from by simp [upd, hs6, hs9, hs10, hs11, hs12, hs13, hs16, hs17, hs18])]; first | rfl | simp [go_sem]) fun Fp34 => ?_
              refine lnp Fp34 rfl hC3 rfl (by omega) (want_no Fp34 rfl (e := 135) rfl (by omega) (show _ = Value.bool false from by simp [upd, hs6, hs9, hs10, hs11, hs12, hs13, hs16, hs17, hs18]) (by decide)) fun Fp35 => ?_
              refine lnp Fp35 rfl hC3 rfl (by omega) (want_no Fp35 rfl (e := 135) rfl (by omega) (show _ = Value.bool false from by simp [upd, hs6, hs9, hs10, hs11, hs12, hs13, hs16, hs17, hs18]) (by decide)) fun Fp36 => ?_
              refine lnp Fp36 rfl hC3 rfl (by omega) (want_no Fp36 rfl (e := 135) rfl (by omega) (show _ = Value.bool false from by simp [upd, hs6, hs9, hs10, hs11, hs12, hs13, hs16, hs17, hs18]) (by decide)) fun Fp37 => ?_
              refine lnp Fp37 rfl hC3 rfl (by omega) (want_no Fp37 rfl (e := 135) rfl (by omega) (show _ = Value.bool false from by simp [upd, hs6, hs9, hs10, hs11, hs12, hs13, hs16, hs17, hs18]) (by decide)) fun Fp38 => ?_
              refine lnp Fp38 rfl hC3 rfl (by omega) (want_not Fp38 rfl (e := 139) rfl (by omega) (show _ = undef from by simp [upd, hs6, hs9, hs10, hs11, hs12, hs13, hs16, hs17, hs18])) fun Fp39 => ?_
              refine lnp Fp39 rfl hC3 rfl (by omega) (want_not Fp39 rfl (e := 139) rfl (by omega) (show _ = undef from by simp [upd, hs6, hs9, hs10, hs11, hs12, hs13, hs16, hs17, hs18])) fun Fp40 => ?_
              refine lnp Fp40 rfl hC3 rfl (by omega) (want_not Fp40 rfl (e := 139) rfl (by omega) (show _ = undef from by simp [upd, hs6, hs9, hs10, hs11, hs12, hs13, hs16, hs17, hs18])) fun Fp41 => ?_
              refine lnp Fp41 rfl hC3 rfl (by omega) (want_no Fp41 rfl (e := 135) rfl (by omega) (show _ = Value.bool false from by simp [upd, hs6, hs9, hs10, hs11, hs12, hs13, hs16, hs17, hs18]) (by decide)) fun Fp42 => ?_
              refine lyp Fp42 rfl hC3 rfl (by omega) (want_yes Fp42 rfl (e := 132) rfl (by omega) (show _ = Value.bool false from by simp [upd, hs6, hs9, hs10, hs11, hs12, hs13, hs16, hs17, hs18])) (v := Value.bool false) (fun wr hwr => by simp only [execOp, (Fp42.eval 135 (by omega)).trans (show _ = Value.bool false from by simp [upd, hs6, hs9, hs10, hs11, hs12, hs13, hs16, hs17, hs18])]; simp [go_sem, Act.eval]) fun Fp43 => ?_
              refine lyp Fp43 rfl hC3 rfl (by omega) (wanted_none rfl) (v := Value.bool false) (fun wr hwr => by simp only [execOp, (Fp43.eval 132 (by omega)).trans (show _ = Value.bool false from by simp [upd, hs6, hs9, hs10, hs11, hs12, hs13, hs16, hs17, hs18]), (Fp43.eval 144 (by omega)).trans (show _ = Value.bool false from by simp [upd, hs6, hs9, hs10, hs11, hs12, hs13, hs16, hs17, hs18])]; simp [go_sem, Act.eval]) fun Fp44 => ?_
              refine ⟨fun _ => hC3, ?_⟩
              refine hK _ _ ?_
              clear F0 Fp1 Fp2 Fp3 Fp4 Fp5 Fp6 Fp7 Fp8 Fp9 Fp10 Fp11 Fp12 Fp13 Fp14 Fp15 Fp16 Fp17 Fp18 Fp19 Fp20 Fp21 Fp22 Fp23 Fp24 Fp25 Fp26 Fp27 Fp28 Fp29 Fp30 Fp31 Fp32 Fp33 Fp34 Fp35 Fp36 Fp37 Fp38 Fp39 Fp40 Fp41 Fp42 Fp43 Fp44 hs6 hs9 hs10 hs11 hs12 hs13 hs16 hs17 hs18 hK hC0 hC1 hC2 hC3
              simp only [Act.put, List.setIfInBounds_toArray, List.set_cons_succ, List.set_cons_zero]
              have hB := hY3
              clear HB hX hY1 hY2 hY3
              have hh := sound_any _ hB.l (oks)
              have HB : Hid _ := hB
              clear hB
              go_wp2_with fail
              refine hh.mono ?_
              rintro e20 u20 ⟨rfl, hbs⟩
              have hB := HB.out.more hbs
              clear hh HB  hbs
              have HE : Hid _ := (show SL hl W _ from ⟨_, hB.l, oks, hB.q⟩)
              clear hB
              go_wp2_with fail
              go_roundw
              case rel => exact ⟨k + 1, by omega, by go_num, HE.out⟩
              case measure => simp [intOf]; omega
            · have hc' : s.hcode a c = false := by simpa using hc
              have hse : s.hnext a c = s := by unfold LS.hnext; rw [if_neg hc]
              have o0 := hB.o0
              have o1 := hB.o1
              have o2 := hB.o2
              have o3 := hB.o3
              have hh := hear_any _ hB.l hok a c
              rw [hc', hse] at hh
              have HB : Hid _ := hB
              clear hB hc hc' hse
              go_wp2_with fail
              refine hh.mono ?_
              rintro e8 v5 ⟨rfl, hBa, hTa⟩
              have hB := HB.out.step hBa hTa
              clear hh HB hBa hTa o0 o1 o2 o3
              have hh := cap_any _ hB.l
              have HB : Hid _ := hB
              clear hB
              go_wp2_with fail
              refine hh.mono ?_
              rintro e9 v6 ⟨rfl, q6, rfl⟩
              have hB := HB.out.drewN q6
              clear hh HB  
              generalize v5.drewN q6 = v6 at *
              have HB : Hid _ := hB
              clear hB
              go_wp2_with fail
              by_cases m1 : s.c = a
              · by_cases m2 : s.n = c
                · rename_i K hK
                  try rw [show ∀ a : Act, a.put none undef = a from fun _ => rfl]
                  have hX : SB S W.heap.size hl ob wb s kind who a c s.d s.u W ({ v6 with drawn := v6.drawn + 1 } : World) := HB.out.drew
                  refine wp_region_mix (fun wr => Blk wr ob #[.int .i64 kind, .int .i64 who, .int .i64 a, .int .i64 c] 45 ∧ Blk wr wb #[.int .i64 s.d, .int .i64 s.u] 29) (fun i => i == 1 || i == 3 || i == 7 || i == 44) 44 (by kernel_rfl) rfl (by kernel_rfl) (by kernel_rfl) (by kernel_rfl) ?_
                  generalize ({ v6 with drawn := v6.drawn + 1 } : World) = X at *
                  have hC0 : Blk X ob #[.int .i64 kind, .int .i64 who, .int .i64 a, .int .i64 c] 45 ∧ Blk X wb #[.int .i64 s.d, .int .i64 s.u] 29 := ⟨hX.o, hX.x⟩
                  refine withFrP (N := 232) rfl ?_
                  intro f0 F0 hff
                  have hs6 : f0 6 = Value.pointer (some ⟨hl, 0, none⟩) := hff 6
                  have hs9 : f0 9 = Value.pointer (some ⟨ob, 0, none⟩) := hff 9
                  have hs10 : f0 10 = Value.pointer (some ⟨wb, 0, none⟩) := hff 10
                  have hs11 : f0 11 = Value.int .i64 s.h := hff 11
                  have hs12 : f0 12 = Value.int .i64 s.c := hff 12
                  have hs13 : f0 13 = Value.int .i64 s.n := hff 13
                  have hs16 : f0 16 = Value.bool false := hff 16
                  have hs17 : f0 17 = Value.int .i64 s.c := hff 17
                  have hs18 : f0 18 = Value.int .i64 s.n := hff 18
                  clear hff
                  refine lyp F0 rfl hC0 rfl (by omega) (wanted_none rfl) (v := Value.pointer (some ⟨hl, 0, none⟩)) (fun wr hwr => by simp only [execOp, (F0.eval 6 (by omega)).trans (show _ = Value.pointer (some ⟨hl, 0, none⟩) from by simp [upd, hs6, hs9, hs10, hs11, hs12, hs13, hs16, hs17, hs18])]; first | rfl | simp [go_sem]) fun Fp1 => ?_
                  have hi1 := rights_any _ hX.l
                  refine lcp Fp1 rfl hC0 rfl (by omega) (wanted_none rfl) (g := 16) (args := #[Value.pointer (some ⟨hl, 0, none⟩)]) (by simp only [execOp, resolve, invoke, List.map_toArray, List.map_cons, List.map_nil, (Fp1.eval 102 (by omega)).trans (show _ = Value.pointer (some ⟨hl, 0, none⟩) from by simp [upd, hs6, hs9, hs10, hs11, hs12, hs13, hs16, hs17, hs18])]; simp [go_sem, Act.eval]) hi1 ?_
                  rintro ex1 vp1 ⟨rfl, hb1⟩
                  refine ⟨_, rfl, fun Fp2 => ?_⟩
                  have hY1 := hX.more hb1
                  have hC1 : Blk _ ob #[.int .i64 kind, .int .i64 who, .int .i64 a, .int .i64 c] 45 ∧ Blk _ wb #[.int .i64 s.d, .int .i64 s.u] 29 := ⟨hY1.o, hY1.x⟩
                  refine lyp Fp2 rfl hC1 rfl (by omega) (wanted_none rfl) (v := Value.agg #[.int .i64 s.d, .int .i64 s.u]) (fun wr hwr => by simp only [execOp, (Fp2.eval 10 (by omega)).trans (show _ = Value.pointer (some ⟨wb, 0, none⟩) from by simp [upd, hs6, hs9, hs10, hs11, hs12, hs13, hs16, hs17, hs18])]; simp [go_sem, x0_of hwr.2, x1_of hwr.2]) fun Fp3 => ?_
                  refine lcp Fp3 rfl hC1 rfl (by omega) (wanted_none rfl) (g := 15) (args := #[Value.agg #[.int .i64 s.d, .int .i64 s.u], Value.agg #[.int .i64 s.d, .int .i64 s.u]]) (by simp only [execOp, resolve, invoke, List.map_toArray, List.map_cons, List.map_nil, (Fp3.eval 103 (by omega)).trans (show _ = Value.agg #[.int .i64 s.d, .int .i64 s.u] from by simp [upd, hs6, hs9, hs10, hs11, hs12, hs13, hs16, hs17, hs18]), (Fp3.eval 104 (by omega)).trans (show _ = Value.agg #[.int .i64 s.d, .int .i64 s.u] from by simp [upd, hs6, hs9, hs10, hs11, hs12, hs13, hs16, hs17, hs18])]; simp [go_sem, Act.eval]) (same_yes s.d s.u _) ?_
                  rintro ex2 vp2 ⟨rfl, hb2⟩
                  refine ⟨_, rfl, fun Fp4 => ?_⟩
                  have hY2 := hY1.more hb2
                  have hC2 : Blk _ ob #[.int .i64 kind, .int .i64 who, .int .i64 a, .int .i64 c] 45 ∧ Blk _ wb #[.int .i64 s.d, .int .i64 s.u] 29 := ⟨hY2.o, hY2.x⟩
                  refine lyp Fp4 rfl hC2 rfl (by omega) (wanted_none rfl) (v := Value.bool false) (fun wr hwr => by simp only [execOp, (Fp4.eval 105 (by omega)).trans (show _ = Value.bool true from by simp [upd, hs6, hs9, hs10, hs11, hs12, hs13, hs16, hs17, hs18])]; simp [go_sem, Act.eval]) fun Fp5 => ?_
                  refine lyp Fp5 rfl hC2 rfl (by omega) (wanted_none rfl) (v := Value.bool false) (fun wr hwr => by simp only [execOp, (Fp5.eval 106 (by omega)).trans (show _ = Value.bool false from by simp [upd, hs6, hs9, hs10, hs11, hs12, hs13, hs16, hs17, hs18])]; first | rfl | simp [go_sem]) fun Fp6 => ?_
                  refine lyp Fp6 rfl hC2 rfl (by omega) (want_yes Fp6 rfl (e := 107) rfl (by omega) (show _ = Value.bool false from by simp [upd, hs6, hs9, hs10, hs11, hs12, hs13, hs16, hs17, hs18])) (v := Value.pointer (some ⟨hl, 0, none⟩)) (fun wr hwr => by simp only [execOp, (Fp6.eval 6 (by omega)).trans (show _ = Value.pointer (some ⟨hl, 0, none⟩) from by simp [upd, hs6, hs9, hs10, hs11, hs12, hs13, hs16, hs17, hs18])]; first | rfl | simp [go_sem]) fun Fp7 => ?_
                  have hi3 := held_any _ hY2.l
                  refine lcp Fp7 rfl hC2 rfl (by omega) (want_yes Fp7 rfl (e := 107) rfl (by omega) (show _ = Value.bool false from by simp [upd, hs6, hs9, hs10, hs11, hs12, hs13, hs16, hs17, hs18])) (g := 18) (args := #[Value.pointer (some ⟨hl, 0, none⟩)]) (by simp only [execOp, resolve, invoke, List.map_toArray, List.map_cons, List.map_nil, (Fp7.eval 108 (by omega)).trans (show _ = Value.pointer (some ⟨hl, 0, none⟩) from by simp [upd, hs6, hs9, hs10, hs11, hs12, hs13, hs16, hs17, hs18])]; simp [go_sem, Act.eval]) hi3 ?_
                  rintro ex3 vp3 ⟨rfl, rfl⟩
                  refine ⟨_, rfl, fun Fp8 => ?_⟩
                  have hY3 := hY2
                  have hC3 : Blk _ ob #[.int .i64 kind, .int .i64 who, .int .i64 a, .int .i64 c] 45 ∧ Blk _ wb #[.int .i64 s.d, .int .i64 s.u] 29 := ⟨hY3.o, hY3.x⟩
                  refine lyp Fp8 rfl hC3 rfl (by omega) (want_yes Fp8 rfl (e := 107) rfl (by omega) (show _ = Value.bool false from by simp [upd, hs6, hs9, hs10, hs11, hs12, hs13, hs16, hs17, hs18])) (v := Value.int .i64 s.h) (fun wr hwr => by simp only [execOp, (Fp8.eval 11 (by omega)).trans (show _ = Value.int .i64 s.h from by simp [upd, hs6, hs9, hs10, hs11, hs12, hs13, hs16, hs17, hs18])]; first | rfl | simp [go_sem]) fun Fp9 => ?_
                  refine lyp Fp9 rfl hC3 rfl (by omega) (want_yes Fp9 rfl (e := 107) rfl (by omega) (show _ = Value.bool false from by simp [upd, hs6, hs9, hs10, hs11, hs12, hs13, hs16, hs17, hs18])) (v := Value.bool false) (fun wr hwr => by simp only [execOp, (Fp9.eval 109 (by omega)).trans (show _ = Value.int .i64 s.h from by simp [upd, hs6, hs9, hs10, hs11, hs12, hs13, hs16, hs17, hs18]), (Fp9.eval 110 (by omega)).trans (show _ = Value.int .i64 s.h from by simp [upd, hs6, hs9, hs10, hs11, hs12, hs13, hs16, hs17, hs18])]; simp [go_sem, Act.eval]) fun Fp10 => ?_
                  refine lyp Fp10 rfl hC3 rfl (by omega) (wanted_none rfl) (v := Value.bool false) (fun wr hwr => by simp only [execOp, (Fp10.eval 107 (by omega)).trans (show _ = Value.bool false from by simp [upd, hs6, hs9, hs10, hs11, hs12, hs13, hs16, hs17, hs18]), (Fp10.eval 111 (by omega)).trans (show _ = Value.bool false from by simp [upd, hs6, hs9, hs10, hs11, hs12, hs13, hs16, hs17, hs18])]; simp [go_sem, Act.eval]) fun Fp11 => ?_
                  refine lyp Fp11 rfl hC3 rfl (by omega) (wanted_none rfl) (v := Value.bool false) (fun wr hwr => by simp only [execOp, (Fp11.eval 112 (by omega)).trans (show _ = Value.bool false from by simp [upd, hs6, hs9, hs10, hs11, hs12, hs13, hs16, hs17, hs18])]; first | rfl | simp [go_sem]) fun Fp12 => ?_
                  refine lyp Fp12 rfl hC3 rfl (by omega) (want_yes Fp12 rfl (e := 113) rfl (by omega) (show _ = Value.bool false from by simp [upd, hs6, hs9, hs10, hs11, hs12, hs13, hs16, hs17, hs18])) (v := Value.bool false) (fun wr hwr => by simp only [execOp, (Fp12.eval 16 (by omega)).trans (show _ = Value.bool false from by simp [upd, hs6, hs9, hs10, hs11, hs12, hs13, hs16, hs17, hs18])]; first | rfl | simp [go_sem]) fun Fp13 => ?_
                  refine lyp Fp13 rfl hC3 rfl (by omega) (want_yes Fp13 rfl (e := 113) rfl (by omega) (show _ = Value.bool false from by simp [upd, hs6, hs9, hs10, hs11, hs12, hs13, hs16, hs17, hs18])) (v := Value.int .i64 s.c) (fun wr hwr => by simp only [execOp, (Fp13.eval 17 (by omega)).trans (show _ = Value.int .i64 s.c from by simp [upd, hs6, hs9, hs10, hs11, hs12, hs13, hs16, hs17, hs18])]; first | rfl | simp [go_sem]) fun Fp14 => ?_
                  refine lyp Fp14 rfl hC3 rfl (by omega) (want_yes Fp14 rfl (e := 113) rfl (by omega) (show _ = Value.bool false from by simp [upd, hs6, hs9, hs10, hs11, hs12, hs13, hs16, hs17, hs18])) (v := Value.pointer (some ⟨ob, 2, none⟩)) (fun wr hwr => by simp only [execOp, (Fp14.eval 9 (by omega)).trans (show _ = Value.pointer (some ⟨ob, 0, none⟩) from by simp [upd, hs6, hs9, hs10, hs11, hs12, hs13, hs16, hs17, hs18])]; simp [go_sem]) fun Fp15 => ?_
                  refine lyp Fp15 rfl hC3 rfl (by omega) (want_yes Fp15 rfl (e := 113) rfl (by omega) (show _ = Value.bool false from by simp [upd, hs6, hs9, hs10, hs11, hs12, hs13, hs16, hs17, hs18])) (v := Value.int .i64 a) (fun wr hwr => by simp only [execOp, (Fp15.eval 116 (by omega)).trans (show _ = Value.pointer (some ⟨ob, 2, none⟩) from by simp [upd, hs6, hs9, hs10, hs11, hs12, hs13, hs16, hs17, hs18])]; simp [go_sem, (o2_of hwr.1)]) fun Fp16 => ?_
                  refine lyp Fp16 rfl hC3 rfl (by omega) (want_yes Fp16 rfl (e := 113) rfl (by omega) (show _ = Value.bool false from by simp [upd, hs6, hs9, hs10, hs11, hs12, hs13, hs16, hs17, hs18])) (v := Value.bool true) (fun wr hwr => by simp only [execOp, (Fp16.eval 115 (by omega)).trans (show _ = Value.int .i64 s.c from by simp [upd, hs6, hs9, hs10, hs11, hs12, hs13, hs16, hs17, hs18]), (Fp16.eval 117 (by omega)).trans (show _ = Value.int .i64 a from by simp [upd, hs6, hs9, hs10, hs11, hs12, hs13, hs16, hs17, hs18])]; simp [go_sem, Act.eval, m1]) fun Fp17 => ?_
                  refine lyp Fp17 rfl hC3 rfl (by omega) (want_yes Fp17 rfl (e := 113) rfl (by omega) (show _ = Value.bool false from by simp [upd, hs6, hs9, hs10, hs11, hs12, hs13, hs16, hs17, hs18])) (v := Value.bool true) (fun wr hwr => by simp only [execOp, (Fp17.eval 118 (by omega)).trans (show _ = Value.bool true from by simp [upd, hs6, hs9, hs10, hs11, hs12, hs13, hs16, hs17, hs18])]; first | rfl | simp [go_sem]) fun Fp18 => ?_
                  refine lyp Fp18 rfl hC3 rfl (by omega) (want_yes Fp18 rfl (e := 119) rfl (by omega) (show _ = Value.bool true from by simp [upd, hs6, hs9, hs10, hs11, hs12, hs13, hs16, hs17, hs18])) (v := Value.int .i64 s.n) (fun wr hwr => by simp only [execOp, (Fp18.eval 18 (by omega)).trans (show _ = Value.int .i64 s.n from by simp [upd, hs6, hs9, hs10, hs11, hs12, hs13, hs16, hs17, hs18])]; first | rfl | simp [go_sem]) fun Fp19 => ?_
                  refine lyp Fp19 rfl hC3 rfl (by omega) (want_yes Fp19 rfl (e := 119) rfl (by omega) (show _ = Value.bool true from by simp [upd, hs6, hs9, hs10, hs11, hs12, hs13, hs16, hs17, hs18])) (v := Value.pointer (some ⟨ob, 3, none⟩)) (fun wr hwr => by simp only [execOp, (Fp19.eval 9 (by omega)).trans (show _ = Value.pointer (some ⟨ob, 0, none⟩) from by simp [upd, hs6, hs9, hs10, hs11, hs12, hs13, hs16, hs17, hs18])]; simp [go_sem]) fun Fp20 => ?_
                  refine lyp Fp20 rfl hC3 rfl (by omega) (want_yes Fp20 rfl (e := 119) rfl (by omega) (show _ = Value.bool true from by simp [upd, hs6, hs9, hs10, hs11, hs12, hs13, hs16, hs17, hs18])) (v := Value.int .i64 c) (fun wr hwr => by simp only [execOp, (Fp20.eval 121 (by omega)).trans (show _ = Value.pointer (some ⟨ob, 3, none⟩) from by simp [upd, hs6, hs9, hs10, hs11, hs12, hs13, hs16, hs17, hs18])]; simp [go_sem, (o3_of hwr.1)]) fun Fp21 => ?_
                  refine lyp Fp21 rfl hC3 rfl (by omega) (want_yes Fp21 rfl (e := 119) rfl (by omega) (show _ = Value.bool true from by simp [upd, hs6, hs9, hs10, hs11, hs12, hs13, hs16, hs17, hs18])) (v := Value.bool true) (fun wr hwr => by simp only [execOp, (Fp21.eval 120 (by omega)).trans (show _ = Value.int .i64 s.n from by simp [upd, hs6, hs9, hs10, hs11, hs12, hs13, hs16, hs17, hs18]), (Fp21.eval 122 (by omega)).trans (show _ = Value.int .i64 c from by simp [upd, hs6, hs9, hs10, hs11, hs12, hs13, hs16, hs17, hs18])]; simp [go_sem, Act.eval, m2]) fun Fp22 => ?_
                  refine lyp Fp22 rfl hC3 rfl (by omega) (want_yes Fp22 rfl (e := 113) rfl (by omega) (show _ = Value.bool false from by simp [upd, hs6, hs9, hs10, hs11, hs12, hs13, hs16, hs17, hs18])) (v := Value.bool true) (fun wr hwr => by simp only [execOp, (Fp22.eval 119 (by omega)).trans (show _ = Value.bool true from by simp [upd, hs6, hs9, hs10, hs11, hs12, hs13, hs16, hs17, hs18]), (Fp22.eval 123 (by omega)).trans (show _ = Value.bool true from by simp [upd, hs6, hs9, hs10, hs11, hs12, hs13, hs16, hs17, hs18])]; simp [go_sem, Act.eval]) fun Fp23 => ?_
                  refine lyp Fp23 rfl hC3 rfl (by omega) (want_yes Fp23 rfl (e := 113) rfl (by omega) (show _ = Value.bool false from by simp [upd, hs6, hs9, hs10, hs11, hs12, hs13, hs16, hs17, hs18])) (v := Value.bool true) (fun wr hwr => by simp only [execOp, (Fp23.eval 124 (by omega)).trans (show _ = Value.bool true from by simp [upd, hs6, hs9, hs10, hs11, hs12, hs13, hs16, hs17, hs18])]; first | rfl | simp [go_sem]) fun Fp24 => ?_
                  refine lyp Fp24 rfl hC3 rfl (by omega) (want_yes Fp24 rfl (e := 125) rfl (by omega) (show _ = Value.bool true from by simp [upd, hs6, hs9, hs10, hs11, hs12, hs13, hs16, hs17, hs18])) (v := Value.int .i64 s.n) (fun wr hwr => by simp only [execOp, (Fp24.eval 18 (by omega)).trans (show _ = Value.int .i64 s.n from by simp [upd, hs6, hs9, hs10, hs11, hs12, hs13, hs16, hs17, hs18])]; first | rfl | simp [go_sem]) fun Fp25 => ?_
                  refine lyp Fp25 rfl hC3 rfl (by omega) (want_yes Fp25 rfl (e := 125) rfl (by omega) (show _ = Value.bool true from by simp [upd, hs6, hs9, hs10, hs11, hs12, hs13, hs16, hs17, hs18])) (v := Value.int .i64 s.n) (fun wr hwr => by simp only [execOp, (Fp25.eval 13 (by omega)).trans (show _ = Value.int .i64 s.n from by simp [upd, hs6, hs9, hs10, hs11, hs12, hs13, hs16, hs17, hs18])]; first | rfl | simp [go_sem]) fun Fp26 => ?_
                  refine lyp Fp26 rfl hC3 rfl (by omega) (want_yes Fp26 rfl (e := 125) rfl (by omega) (show _ = Value.bool true from by simp [upd, hs6, hs9, hs10, hs11, hs12, hs13, hs16, hs17, hs18])) (v := Value.bool false) (fun wr hwr => by simp only [execOp, (Fp26.eval 126 (by omega)).trans (show _ = Value.int .i64 s.n from by simp [upd, hs6, hs9, hs10, hs11, hs12, hs13, hs16, hs17, hs18]), (Fp26.eval 127 (by omega)).trans (show _ = Value.int .i64 s.n from by simp [upd, hs6, hs9, hs10, hs11, hs12, hs13, hs16, hs17, hs18])]; simp [go_sem, Act.eval]) fun Fp27 => ?_
                  refine lyp Fp27 rfl hC3 rfl (by omega) (want_yes Fp27 rfl (e := 113) rfl (by omega) (show _ = Value.bool false from by simp [upd, hs6, hs9, hs10, hs11, hs12, hs13, hs16, hs17, hs18])) (v := Value.bool false) (fun wr hwr => by simp only [execOp, (Fp27.eval 125 (by omega)).trans (show _ = Value.bool true from by simp [upd, hs6, hs9, hs10, hs11, hs12, hs13, hs16, hs17, hs18]), (Fp27.eval 128 (by omega)).trans (show _ = Value.bool false from by simp [upd, hs6, hs9, hs10, hs11, hs12, hs13, hs16, hs17, hs18])]; simp [go_sem, Act.eval]) fun Fp28 => ?_
                  refine lyp Fp28 rfl hC3 rfl (by omega) (want_yes Fp28 rfl (e := 113) rfl (by omega) (show _ = Value.bool false from by simp [upd, hs6, hs9, hs10, hs11, hs12, hs13, hs16, hs17, hs18])) (v := Value.bool false) (fun wr hwr => by simp only [execOp, (Fp28.eval 114 (by omega)).trans (show _ = Value.bool false from by simp [upd, hs6, hs9, hs10, hs11, hs12, hs13, hs16, hs17, hs18]), (Fp28.eval 129 (by omega)).trans (show _ = Value.bool false from by simp [upd, hs6, hs9, hs10, hs11, hs12, hs13, hs16, hs17, hs18])]; simp [go_sem, Act.eval]) fun Fp29 => ?_
                  refine lyp Fp29 rfl hC3 rfl (by omega) (wanted_none rfl) (v := Value.bool false) (fun wr hwr => by simp only [execOp, (Fp29.eval 113 (by omega)).trans (show _ = Value.bool false from by simp [upd, hs6, hs9, hs10, hs11, hs12, hs13, hs16, hs17, hs18]), (Fp29.eval 130 (by omega)).trans (show _ = Value.bool false from by simp [upd, hs6, hs9, hs10, hs11, hs12, hs13, hs16, hs17, hs18])]; simp [go_sem, Act.eval]) fun Fp30 => ?_
                  refine lyp Fp30 rfl hC3 rfl (by omega) (wanted_none rfl) (v := Value.bool false) (fun wr hwr => by simp only [execOp, (Fp30.eval 131 (by omega)).trans (show _ = Value.bool false from by simp [upd, hs6, hs9, hs10, hs11, hs12, hs13, hs16, hs17, hs18])]; first | rfl | simp [go_sem]) fun Fp31 => ?_
                  refine lyp Fp31 rfl hC3 rfl (by omega) (want_yes Fp31 rfl (e := 132) rfl (by omega) (show _ = Value.bool false from by simp [upd, hs6, hs9, hs10, hs11, hs12, hs13, hs16, hs17, hs18])) (v := Value.bool false) (fun wr hwr => by simp only [execOp, (Fp31.eval 16 (by omega)).trans (show _ = Value.bool false from by simp [upd, hs6, hs9, hs10, hs11, hs12, hs13, hs16, hs17, hs18])]; first | rfl | simp [go_sem]) fun Fp32 => ?_
                  refine lyp Fp32 rfl hC3 rfl (by omega) (want_yes Fp32 rfl (e := 132) rfl (by omega) (show _ = Value.bool false from by simp [upd, hs6, hs9, hs10, hs11, hs12, hs13, hs16, hs17, hs18])) (v := Value.bool true) (fun wr hwr => by simp only [execOp, (Fp32.eval 133 (by omega)).trans (show _ = Value.bool false from by simp [upd, hs6, hs9, hs10, hs11, hs12, hs13, hs16, hs17, hs18])]; simp [go_sem, Act.eval]) fun Fp33 => ?_
                  refine lyp Fp33 rfl hC3 rfl (by omega) (want_yes Fp33 rfl (e := 132) rfl (by omega) (show _ = Value.bool false from by simp [upd, hs6, hs9, hs10, hs11, hs12, hs13, hs16, hs17, hs18])) (v := Value.bool true) (fun wr hwr => by simp only [execOp, (Fp33.eval 134 (by omega)).trans (show _ = Value.bool true from by simp [upd, hs6, hs9, hs10, hs11, hs12, hs13, hs16, hs17, hs18])]; first | rfl | simp [go_sem]) fun Fp34 => ?_
                  refine lyp Fp34 rfl hC3 rfl (by omega) (want_yes Fp34 rfl (e := 135) rfl (by omega) (show _ = Value.bool true from by simp [upd, hs6, hs9, hs10, hs11, hs12, hs13, hs16, hs17, hs18])) (v := Value.int .i64 s.c) (fun wr hwr => by simp only [execOp, (Fp34.eval 17 (by omega)).trans (show _ = Value.int .i64 s.c from by simp [upd, hs6, hs9, hs10, hs11, hs12, hs13, hs16, hs17, hs18])]; first | rfl | simp [go_sem]) fun Fp35 => ?_
                  refine lyp Fp35 rfl hC3 rfl (by omega) (want_yes Fp35 rfl (e := 135) rfl (by omega) (show _ = Value.bool true from by simp [upd, hs6, hs9, hs10, hs11, hs12, hs13, hs16, hs17, hs18])) (v := Value.int .i64 s.c) (fun wr hwr => by simp only [execOp, (Fp35.eval 12 (by omega)).trans (show _ = Value.int .i64 s.c from by simp [upd, hs6, hs9, hs10, hs11, hs12, hs13, hs16, hs17, hs18])]; first | rfl | simp [go_sem]) fun Fp36 => ?_
                  refine lyp Fp36 rfl hC3 rfl (by omega) (want_yes Fp36 rfl (e := 135) rfl (by omega) (show _ = Value.bool true from by simp [upd, hs6, hs9, hs10, hs11, hs12, hs13, hs16, hs17, hs18])) (v := Value.bool false) (fun wr hwr => by simp only [execOp, (Fp36.eval 136 (by omega)).trans (show _ = Value.int .i64 s.c from by simp [upd, hs6, hs9, hs10, hs11, hs12, hs13, hs16, hs17, hs18]), (Fp36.eval 137 (by omega)).trans (show _ = Value.int .i64 s.c from by simp [upd, hs6, hs9, hs10, hs11, hs12, hs13, hs16, hs17, hs18])]; simp [go_sem, Act.eval]) fun Fp37 => ?_
                  refine lyp Fp37 rfl hC3 rfl (by omega) (want_yes Fp37 rfl (e := 135) rfl (by omega) (show _ = Value.bool true from by simp [upd, hs6, hs9, hs10, hs11, hs12, hs13, hs16, hs17, hs18])) (v := Value.bool false) (fun wr hwr => by simp only [execOp, (Fp37.eval 138 (by omega)).trans (show _ = Value.bool false from by simp [upd, hs6, hs9, hs10, hs11, hs12, hs13, hs16, hs17, hs18])]; first | rfl | simp [go_sem]) fun Fp38 => ?_
                  refine lyp Fp38 rfl hC3 rfl (by omega) (want_yes Fp38 rfl (e := 139) rfl (by omega) (show _ = Value.bool false from by simp [upd, hs6, hs9, hs10, hs11, hs12, hs13, hs16, hs17, hs18])) (v := Value.int .i64 s.n) (fun wr hwr => by simp only [execOp, (Fp38.eval 18 (by omega)).trans (show _ = Value.int .i64 s.n from by simp [upd, hs6, hs9, hs10, hs11, hs12, hs13, hs16, hs17, hs18])]; first | rfl | simp [go_sem]) fun Fp39 => ?_
                  refine lyp Fp39 rfl hC3 rfl (by omega) (want_yes Fp39 rfl (e := 139) rfl (by omega) (show _ = Value.bool false from by simp [upd, hs6, hs9, hs10, hs11, hs12, hs13, hs16, hs17, hs18])) (v := Value.int .i64 s.n) (fun wr hwr => by simp only [execOp, (Fp39.eval 13 (by omega)).trans (show _ = Value.int .i64 s.n from by simp [upd, hs6, hs9, hs10, hs11, hs12, hs13, hs16, hs17, hs18])]; first | rfl | simp [go_sem]) fun Fp40 => ?_
                  refine lyp Fp40 rfl hC3 rfl (by omega) (want_yes Fp40 rfl (e := 139) rfl (by omega) (show _ = Value.bool false from by simp [upd, hs6, hs9, hs10, hs11, hs12, hs13, hs16, hs17, hs18])) (v := Value.bool false) (fun wr hwr => by simp only [execOp, (Fp40.eval 140 (by omega)).trans (show _ = Value.int .i64 s.n from by simp [upd, hs6, hs9, hs10, hs11, hs12, hs13, hs16, hs17, hs18]), (Fp40.eval 141 (by omega)).trans (show _ = Value.int .i64 s.n from by simp [upd, hs6, hs9, hs10, hs11, hs12, hs13, hs16, hs17, hs18])]; simp [go_sem, Act.eval]) fun Fp41 => ?_
                  refine lyp Fp41 rfl hC3 rfl (by omega) (want_yes Fp41 rfl (e := 135) rfl (by omega) (show _ = Value.bool true from by simp [upd, hs6, hs9, hs10, hs11, hs12, hs13, hs16, hs17, hs18])) (v := Value.bool false) (fun wr hwr => by simp only [execOp, (Fp41.eval 139 (by omega)).trans (show _ = Value.bool false from by simp [upd, hs6, hs9, hs10, hs11, hs12, hs13, hs16, hs17, hs18]), (Fp41.eval 142 (by omega)).trans (show _ = Value.bool false from by simp [upd, hs6, hs9, hs10, hs11, hs12, hs13, hs16, hs17, hs18])]; simp [go_sem, Act.eval]) fun Fp42 => ?_
                  refine lyp Fp42 rfl hC3 rfl (by omega) (want_yes Fp42 rfl (e := 132) rfl (by omega) (show _ = Value.bool false from by simp [upd, hs6, hs9, hs10, hs11, hs12, hs13, hs16, hs17, hs18])) (v := Value.bool false) (fun wr hwr => by simp only [execOp, (Fp42.eval 135 (by omega)).trans (show _ = Value.bool true from by simp [upd, hs6, hs9, hs10, hs11, hs12, hs13, hs16, hs17, hs18]), (Fp42.eval 143 (by omega)).trans (show _ = Value.bool false from by simp [upd, hs6, hs9, hs10, hs11, hs12, hs13, hs16, hs17, hs18])]; simp [go_sem, Act.eval]) fun Fp43 => ?_
                  refine lyp Fp43 rfl hC3 rfl (by omega) (wanted_none rfl) (v := Value.bool false) (fun wr hwr => by simp only [execOp, (Fp43.eval 132 (by omega)).trans (show _ = Value.bool false from by simp [upd, hs6, hs9, hs10, hs11, hs12, hs13, hs16, hs17, hs18]), (Fp43.eval 144 (by omega)).trans (show _ = Value.bool false from by simp [upd, hs6, hs9, hs10, hs11, hs12, hs13, hs16, hs17, hs18])]; simp [go_sem, Act.eval]) fun Fp44 => ?_
                  refine ⟨fun _ => hC3, ?_⟩
                  refine hK _ _ ?_
                  clear F0 Fp1 Fp2 Fp3 Fp4 Fp5 Fp6 Fp7 Fp8 Fp9 Fp10 Fp11 Fp12 Fp13 Fp14 Fp15 Fp16 Fp17 Fp18 Fp19 Fp20 Fp21 Fp22 Fp23 Fp24 Fp25 Fp26 Fp27 Fp28 Fp29 Fp30 Fp31 Fp32 Fp33 Fp34 Fp35 Fp36 Fp37 Fp38 Fp39 Fp40 Fp41 Fp42 Fp43 Fp44 hs6 hs9 hs10 hs11 hs12 hs13 hs16 hs17 hs18 hK hC0 hC1 hC2 hC3
                  simp only [Act.put, List.setIfInBounds_toArray, List.set_cons_succ, List.set_cons_zero]
                  have hB := hY3
                  clear HB hX hY1 hY2 hY3
                  have hh := sound_any _ hB.l (hok)
                  have HB : Hid _ := hB
                  clear hB
                  go_wp2_with fail
                  refine hh.mono ?_
                  rintro e20 u20 ⟨rfl, hbs⟩
                  have hB := HB.out.more hbs
                  clear hh HB  hbs
                  have HE : Hid _ := (show SL hl W _ from ⟨_, hB.l, hok, hB.q⟩)
                  clear hB
                  go_wp2_with fail
                  go_roundw
                  case rel => exact ⟨k + 1, by omega, by go_num, HE.out⟩
                  case measure => simp [intOf]; omega
                · rename_i K hK
                  try rw [show ∀ a : Act, a.put none undef = a from fun _ => rfl]
                  have hX : SB S W.heap.size hl ob wb s kind who a c s.d s.u W ({ v6 with drawn := v6.drawn + 1 } : World) := HB.out.drew
                  refine wp_region_mix (fun wr => Blk wr ob #[.int .i64 kind, .int .i64 who, .int .i64 a, .int .i64 c] 45 ∧ Blk wr wb #[.int .i64 s.d, .int .i64 s.u] 29) (fun i => i == 1 || i == 3 || i == 7 || i == 44) 44 (by kernel_rfl) rfl (by kernel_rfl) (by kernel_rfl) (by kernel_rfl) ?_
                  generalize ({ v6 with drawn := v6.drawn + 1 } : World) = X at *
                  have hC0 : Blk X ob #[.int .i64 kind, .int .i64 who, .int .i64 a, .int .i64 c] 45 ∧ Blk X wb #[.int .i64 s.d, .int .i64 s.u] 29 := ⟨hX.o, hX.x⟩
                  refine withFrP (N := 232) rfl ?_
                  intro f0 F0 hff
                  have hs6 : f0 6 = Value.pointer (some ⟨hl, 0, none⟩) := hff 6
                  have hs9 : f0 9 = Value.pointer (some ⟨ob, 0, none⟩) := hff 9
                  have hs10 : f0 10 = Value.pointer (some ⟨wb, 0, none⟩) := hff 10
                  have hs11 : f0 11 = Value.int .i64 s.h := hff 11
                  have hs12 : f0 12 = Value.int .i64 s.c := hff 12
                  have hs13 : f0 13 = Value.int .i64 s.n := hff 13
                  have hs16 : f0 16 = Value.bool false := hff 16
                  have hs17 : f0 17 = Value.int .i64 s.c := hff 17
                  have hs18 : f0 18 = Value.int .i64 s.n := hff 18
                  clear hff
                  refine lyp F0 rfl hC0 rfl (by omega) (wanted_none rfl) (v := Value.pointer (some ⟨hl, 0, none⟩)) (fun wr hwr => by simp only [execOp, (F0.eval 6 (by omega)).trans (show _ = Value.pointer (some ⟨hl, 0, none⟩) from by simp [upd, hs6, hs9, hs10, hs11, hs12, hs13, hs16, hs17, hs18])]; first | rfl | simp [go_sem]) fun Fp1 => ?_
                  have hi1 := rights_any _ hX.l
                  refine lcp Fp1 rfl hC0 rfl (by omega) (wanted_none rfl) (g := 16) (args := #[Value.pointer (some ⟨hl, 0, none⟩)]) (by simp only [execOp, resolve, invoke, List.map_toArray, List.map_cons, List.map_nil, (Fp1.eval 102 (by omega)).trans (show _ = Value.pointer (some ⟨hl, 0, none⟩) from by simp [upd, hs6, hs9, hs10, hs11, hs12, hs13, hs16, hs17, hs18])]; simp [go_sem, Act.eval]) hi1 ?_
                  rintro ex1 vp1 ⟨rfl, hb1⟩
                  refine ⟨_, rfl, fun Fp2 => ?_⟩
                  have hY1 := hX.more hb1
                  have hC1 : Blk _ ob #[.int .i64 kind, .int .i64 who, .int .i64 a, .int .i64 c] 45 ∧ Blk _ wb #[.int .i64 s.d, .int .i64 s.u] 29 := ⟨hY1.o, hY1.x⟩
                  refine lyp Fp2 rfl hC1 rfl (by omega) (wanted_none rfl) (v := Value.agg #[.int .i64 s.d, .int .i64 s.u]) (fun wr hwr => by simp only [execOp, (Fp2.eval 10 (by omega)).trans (show _ = Value.pointer (some ⟨wb, 0, none⟩) from by simp [upd, hs6, hs9, hs10, hs11, hs12, hs13, hs16, hs17, hs18])]; simp [go_sem, x0_of hwr.2, x1_of hwr.2]) fun Fp3 => ?_
                  refine lcp Fp3 rfl hC1 rfl (by omega) (wanted_none rfl) (g := 15) (args := #[Value.agg #[.int .i64 s.d, .int .i64 s.u], Value.agg #[.int .i64 s.d, .int .i64 s.u]]) (by simp only [execOp, resolve, invoke, List.map_toArray, List.map_cons, List.map_nil, (Fp3.eval 103 (by omega)).trans (show _ = Value.agg #[.int .i64 s.d, .int .i64 s.u] from by simp [upd, hs6, hs9, hs10, hs11, hs12, hs13, hs16, hs17, hs18]), (Fp3.eval 104 (by omega)).trans (show _ = Value.agg #[.int .i64 s.d, .int .i64 s.u] from by simp [upd, hs6, hs9, hs10, hs11, hs12, hs13, hs16, hs17, hs18])]; simp [go_sem, Act.eval]) (same_yes s.d s.u _) ?_
                  rintro ex2 vp2 ⟨rfl, hb2⟩
                  refine ⟨_, rfl, fun Fp4 => ?_⟩
                  have hY2 := hY1.more hb2
                  have hC2 : Blk _ ob #[.int .i64 kind, .int .i64 who, .int .i64 a, .int .i64 c] 45 ∧ Blk _ wb #[.int .i64 s.d, .int .i64 s.u] 29 := ⟨hY2.o, hY2.x⟩
                  refine lyp Fp4 rfl hC2 rfl (by omega) (wanted_none rfl) (v := Value.bool false) (fun wr hwr => by simp only [execOp, (Fp4.eval 105 (by omega)).trans (show _ = Value.bool true from by simp [upd, hs6, hs9, hs10, hs11, hs12, hs13, hs16, hs17, hs18])]; simp [go_sem, Act.eval]) fun Fp5 => ?_
                  refine lyp Fp5 rfl hC2 rfl (by omega) (wanted_none rfl) (v := Value.bool false) (fun wr hwr => by simp only [execOp, (Fp5.eval 106 (by omega)).trans (show _ = Value.bool false from by simp [upd, hs6, hs9, hs10, hs11, hs12, hs13, hs16, hs17, hs18])]; first | rfl | simp [go_sem]) fun Fp6 => ?_
                  refine lyp Fp6 rfl hC2 rfl (by omega) (want_yes Fp6 rfl (e := 107) rfl (by omega) (show _ = Value.bool false from by simp [upd, hs6, hs9, hs10, hs11, hs12, hs13, hs16, hs17, hs18])) (v := Value.pointer (some ⟨hl, 0, none⟩)) (fun wr hwr => by simp only [execOp, (Fp6.eval 6 (by omega)).trans (show _ = Value.pointer (some ⟨hl, 0, none⟩) from by simp [upd, hs6, hs9, hs10, hs11, hs12, hs13, hs16, hs17, hs18])]; first | rfl | simp [go_sem]) fun Fp7 => ?_
                  have hi3 := held_any _ hY2.l
                  refine lcp Fp7 rfl hC2 rfl (by omega) (want_yes Fp7 rfl (e := 107) rfl (by omega) (show _ = Value.bool false from by simp [upd, hs6, hs9, hs10, hs11, hs12, hs13, hs16, hs17, hs18])) (g := 18) (args := #[Value.pointer (some ⟨hl, 0, none⟩)]) (by simp only [execOp, resolve, invoke, List.map_toArray, List.map_cons, List.map_nil, (Fp7.eval 108 (by omega)).trans (show _ = Value.pointer (some ⟨hl, 0, none⟩) from by simp [upd, hs6, hs9, hs10, hs11, hs12, hs13, hs16, hs17, hs18])]; simp [go_sem, Act.eval]) hi3 ?_
                  rintro ex3 vp3 ⟨rfl, rfl⟩
                  refine ⟨_, rfl, fun Fp8 => ?_⟩
                  have hY3 := hY2
                  have hC3 : Blk _ ob #[.int .i64 kind, .int .i64 who, .int .i64 a, .int .i64 c] 45 ∧ Blk _ wb #[.int .i64 s.d, .int .i64 s.u] 29 := ⟨hY3.o, hY3.x⟩
                  refine lyp Fp8 rfl hC3 rfl (by omega) (want_yes Fp8 rfl (e := 107) rfl (by omega) (show _ = Value.bool false from by simp [upd, hs6, hs9, hs10, hs11, hs12, hs13, hs16, hs17, hs18])) (v := Value.int .i64 s.h) (fun wr hwr => by simp only [execOp, (Fp8.eval 11 (by omega)).trans (show _ = Value.int .i64 s.h from by simp [upd, hs6, hs9, hs10, hs11, hs12, hs13, hs16, hs17, hs18])]; first | rfl | simp [go_sem]) fun Fp9 => ?_
                  refine lyp Fp9 rfl hC3 rfl (by omega) (want_yes Fp9 rfl (e := 107) rfl (by omega) (show _ = Value.bool false from by simp [upd, hs6, hs9, hs10, hs11, hs12, hs13, hs16, hs17, hs18])) (v := Value.bool false) (fun wr hwr => by simp only [execOp, (Fp9.eval 109 (by omega)).trans (show _ = Value.int .i64 s.h from by simp [upd, hs6, hs9, hs10, hs11, hs12, hs13, hs16, hs17, hs18]), (Fp9.eval 110 (by omega)).trans (show _ = Value.int .i64 s.h from by simp [upd, hs6, hs9, hs10, hs11, hs12, hs13, hs16, hs17, hs18])]; simp [go_sem, Act.eval]) fun Fp10 => ?_
                  refine lyp Fp10 rfl hC3 rfl (by omega) (wanted_none rfl) (v := Value.bool false) (fun wr hwr => by simp only [execOp, (Fp10.eval 107 (by omega)).trans (show _ = Value.bool false from by simp [upd, hs6, hs9, hs10, hs11, hs12, hs13, hs16, hs17, hs18]), (Fp10.eval 111 (by omega)).trans (show _ = Value.bool false from by simp [upd, hs6, hs9, hs10, hs11, hs12, hs13, hs16, hs17, hs18])]; simp [go_sem, Act.eval]) fun Fp11 => ?_
                  refine lyp Fp11 rfl hC3 rfl (by omega) (wanted_none rfl) (v := Value.bool false) (fun wr hwr => by simp only [execOp, (Fp11.eval 112 (by omega)).trans (show _ = Value.bool false from by simp [upd, hs6, hs9, hs10, hs11, hs12, hs13, hs16, hs17, hs18])]; first | rfl | simp [go_sem]) fun Fp12 => ?_
                  refine lyp Fp12 rfl hC3 rfl (by omega) (want_yes Fp12 rfl (e := 113) rfl (by omega) (show _ = Value.bool false from by simp [upd, hs6, hs9, hs10, hs11, hs12, hs13, hs16, hs17, hs18])) (v := Value.bool false) (fun wr hwr => by simp only [execOp, (Fp12.eval 16 (by omega)).trans (show _ = Value.bool false from by simp [upd, hs6, hs9, hs10, hs11, hs12, hs13, hs16, hs17, hs18])]; first | rfl | simp [go_sem]) fun Fp13 => ?_
                  refine lyp Fp13 rfl hC3 rfl (by omega) (want_yes Fp13 rfl (e := 113) rfl (by omega) (show _ = Value.bool false from by simp [upd, hs6, hs9, hs10, hs11, hs12, hs13, hs16, hs17, hs18])) (v := Value.int .i64 s.c) (fun wr hwr => by simp only [execOp, (Fp13.eval 17 (by omega)).trans (show _ = Value.int .i64 s.c from by simp [upd, hs6, hs9, hs10, hs11, hs12, hs13, hs16, hs17, hs18])]; first | rfl | simp [go_sem]) fun Fp14 => ?_
                  refine lyp Fp14 rfl hC3 rfl (by omega) (want_yes Fp14 rfl (e := 113) rfl (by omega) (show _ = Value.bool false from by simp [upd, hs6, hs9, hs10, hs11, hs12, hs13, hs16, hs17, hs18])) (v := Value.pointer (some ⟨ob, 2, none⟩)) (fun wr hwr => by simp only [execOp, (Fp14.eval 9 (by omega)).trans (show _ = Value.pointer (some ⟨ob, 0, none⟩) from by simp [upd, hs6, hs9, hs10, hs11, hs12, hs13, hs16, hs17, hs18])]; simp [go_sem]) fun Fp15 => ?_
                  refine lyp Fp15 rfl hC3 rfl (by omega) (want_yes Fp15 rfl (e := 113) rfl (by omega) (show _ = Value.bool false from by simp [upd, hs6, hs9, hs10, hs11, hs12, hs13, hs16, hs17, hs18])) (v := Value.int .i64 a) (fun wr hwr => by simp only [execOp, (Fp15.eval 116 (by omega)).trans (show _ = Value.pointer (some ⟨ob, 2, none⟩) from by simp [upd, hs6, hs9, hs10, hs11, hs12, hs13, hs16, hs17, hs18])]; simp [go_sem, (o2_of hwr.1)]) fun Fp16 => ?_
                  refine lyp Fp16 rfl hC3 rfl (by omega) (want_yes Fp16 rfl (e := 113) rfl (by omega) (show _ = Value.bool false from by simp [upd, hs6, hs9, hs10, hs11, hs12, hs13, hs16, hs17, hs18])) (v := Value.bool true) (fun wr hwr => by simp only [execOp, (Fp16.eval 115 (by omega)).trans (show _ = Value.int .i64 s.c from by simp [upd, hs6, hs9, hs10, hs11, hs12, hs13, hs16, hs17, hs18]), (Fp16.eval 117 (by omega)).trans (show _ = Value.int .i64 a from by simp [upd, hs6, hs9, hs10, hs11, hs12, hs13, hs16, hs17, hs18])]; simp [go_sem, Act.eval, m1]) fun Fp17 => ?_
                  refine lyp Fp17 rfl hC3 rfl (by omega) (want_yes Fp17 rfl (e := 113) rfl (by omega) (show _ = Value.bool false from by simp [upd, hs6, hs9, hs10, hs11, hs12, hs13, hs16, hs17, hs18])) (v := Value.bool true) (fun wr hwr => by simp only [execOp, (Fp17.eval 118 (by omega)).trans (show _ = Value.bool true from by simp [upd, hs6, hs9, hs10, hs11, hs12, hs13, hs16, hs17, hs18])]; first | rfl | simp [go_sem]) fun Fp18 => ?_
                  refine lyp Fp18 rfl hC3 rfl (by omega) (want_yes Fp18 rfl (e := 119) rfl (by omega) (show _ = Value.bool true from by simp [upd, hs6, hs9, hs10, hs11, hs12, hs13, hs16, hs17, hs18])) (v := Value.int .i64 s.n) (fun wr hwr => by simp only [execOp, (Fp18.eval 18 (by omega)).trans (show _ = Value.int .i64 s.n from by simp [upd, hs6, hs9, hs10, hs11, hs12, hs13, hs16, hs17, hs18])]; first | rfl | simp [go_sem]) fun Fp19 => ?_
                  refine lyp Fp19 rfl hC3 rfl (by omega) (want_yes Fp19 rfl (e := 119) rfl (by omega) (show _ = Value.bool true from by simp [upd, hs6, hs9, hs10, hs11, hs12, hs13, hs16, hs17, hs18])) (v := Value.pointer (some ⟨ob, 3, none⟩)) (fun wr hwr => by simp only [execOp, (Fp19.eval 9 (by omega)).trans (show _ = Value.pointer (some ⟨ob, 0, none⟩) from by simp [upd, hs6, hs9, hs10, hs11, hs12, hs13, hs16, hs17, hs18])]; simp [go_sem]) fun Fp20 => ?_
                  refine lyp Fp20 rfl hC3 rfl (by omega) (want_yes Fp20 rfl (e := 119) rfl (by omega) (show _ = Value.bool true from by simp [upd, hs6, hs9, hs10, hs11, hs12, hs13, hs16, hs17, hs18])) (v := Value.int .i64 c) (fun wr hwr => by simp only [execOp, (Fp20.eval 121 (by omega)).trans (show _ = Value.pointer (some ⟨ob, 3, none⟩) from by simp [upd, hs6, hs9, hs10, hs11, hs12, hs13, hs16, hs17, hs18])]; simp [go_sem, (o3_of hwr.1)]) fun Fp21 => ?_
                  refine lyp Fp21 rfl hC3 rfl (by omega) (want_yes Fp21 rfl (e := 119) rfl (by omega) (show _ = Value.bool true from by simp [upd, hs6, hs9, hs10, hs11, hs12, hs13, hs16, hs17, hs18])) (v := Value.bool false) (fun wr hwr => by simp only [execOp, (Fp21.eval 120 (by omega)).trans (show _ = Value.int .i64 s.n from by simp [upd, hs6, hs9, hs10, hs11, hs12, hs13, hs16, hs17, hs18]), (Fp21.eval 122 (by omega)).trans (show _ = Value.int .i64 c from by simp [upd, hs6, hs9, hs10, hs11, hs12, hs13, hs16, hs17, hs18])]; simp [go_sem, Act.eval, m2]) fun Fp22 => ?_
                  refine lyp Fp22 rfl hC3 rfl (by omega) (want_yes Fp22 rfl (e := 113) rfl (by omega) (show _ = Value.bool false from by simp [upd, hs6, hs9, hs10, hs11, hs12, hs13, hs16, hs17, hs18])) (v := Value.bool false) (fun wr hwr => by simp only [execOp, (Fp22.eval 119 (by omega)).trans (show _ = Value.bool true from by simp [upd, hs6, hs9, hs10, hs11, hs12, hs13, hs16, hs17, hs18]), (Fp22.eval 123 (by omega)).trans (show _ = Value.bool false from by simp [upd, hs6, hs9, hs10, hs11, hs12, hs13, hs16, hs17, hs18])]; simp [go_sem, Act.eval]) fun Fp23 => ?_
                  refine lyp Fp23 rfl hC3 rfl (by omega) (want_yes Fp23 rfl (e := 113) rfl (by omega) (show _ = Value.bool false from by simp [upd, hs6, hs9, hs10, hs11, hs12, hs13, hs16, hs17, hs18])) (v := Value.bool false) (fun wr hwr => by simp only [execOp, (Fp23.eval 124 (by omega)).trans (show _ = Value.bool false from by simp [upd, hs6, hs9, hs10, hs11, hs12, hs13, hs16, hs17, hs18])]; first | rfl | simp [go_sem]) fun Fp24 => ?_
                  refine lnp Fp24 rfl hC3 rfl (by omega) (want_no Fp24 rfl (e := 125) rfl (by omega) (show _ = Value.bool false from by simp [upd, hs6, hs9, hs10, hs11, hs12, hs13, hs16, hs17, hs18]) (by decide)) fun Fp25 => ?_
                  refine lnp Fp25 rfl hC3 rfl (by omega) (want_no Fp25 rfl (e := 125) rfl (by omega) (show _ = Value.bool false from by simp [upd, hs6, hs9, hs10, hs11, hs12, hs13, hs16, hs17, hs18]) (by decide)) fun Fp26 => ?_
                  refine lnp Fp26 rfl hC3 rfl (by omega) (want_no Fp26 rfl (e := 125) rfl (by omega) (show _ = Value.bool false from by simp [upd, hs6, hs9, hs10, hs11, hs12, hs13, hs16, hs17, hs18]) (by decide)) fun Fp27 => ?_
                  refine lyp Fp27 rfl hC3 rfl (by omega) (want_yes Fp27 rfl (e := 113) rfl (by omega) (show _ = Value.bool false from by simp [upd, hs6, hs9, hs10, hs11, hs12, hs13, hs16, hs17, hs18])) (v := Value.bool false) (fun wr hwr => by simp only [execOp, (Fp27.eval 125 (by omega)).trans (show _ = Value.bool false from by simp [upd, hs6, hs9, hs10, hs11, hs12, hs13, hs16, hs17, hs18])]; simp [go_sem, Act.eval]) fun Fp28 => ?_
                  refine lyp Fp28 rfl hC3 rfl (by omega) (want_yes Fp28 rfl (e := 113) rfl (by omega) (show _ = Value.bool false from by simp [upd, hs6, hs9, hs10, hs11, hs12, hs13, hs16, hs17, hs18])) (v := Value.bool false) (fun wr hwr => by simp only [execOp, (Fp28.eval 114 (by omega)).trans (show _ = Value.bool false from by simp [upd, hs6, hs9, hs10, hs11, hs12, hs13, hs16, hs17, hs18]), (Fp28.eval 129 (by omega)).trans (show _ = Value.bool false from by simp [upd, hs6, hs9, hs10, hs11, hs12, hs13, hs16, hs17, hs18])]; simp [go_sem, Act.eval]) fun Fp29 => ?_
                  refine lyp Fp29 rfl hC3 rfl (by omega) (wanted_none rfl) (v := Value.bool false) (fun wr hwr => by simp only [execOp, (Fp29.eval 113 (by omega)).trans (show _ = Value.bool false from by simp [upd, hs6, hs9, hs10, hs11, hs12, hs13, hs16, hs17, hs18]), (Fp29.eval 130 (by omega)).trans (show _ = Value.bool false from by simp [upd, hs6, hs9, hs10, hs11, hs12, hs13, hs16, hs17, hs18])]; simp [go_sem, Act.eval]) fun Fp30 => ?_
                  refine lyp Fp30 rfl hC3 rfl (by omega) (wanted_none rfl) (v := Value.bool false) (fun wr hwr => by simp only [execOp, (Fp30.eval 131 (by omega)).trans (show _ = Value.bool false from by simp [upd, hs6, hs9, hs10, hs11, hs12, hs13, hs16, hs17, hs18])]; first | rfl | simp [go_sem]) fun Fp31 => ?_
                  refine lyp Fp31 rfl hC3 rfl (by omega) (want_yes Fp31 rfl (e := 132) rfl (by omega) (show _ = Value.bool false from by simp [upd, hs6, hs9, hs10, hs11, hs12, hs13, hs16, hs17, hs18])) (v := Value.bool false) (fun wr hwr => by simp only [execOp, (Fp31.eval 16 (by omega)).trans (show _ = Value.bool false from by simp [upd, hs6, hs9, hs10, hs11, hs12, hs13, hs16, hs17, hs18])]; first | rfl | simp [go_sem]) fun Fp32 => ?_
                  refine lyp Fp32 rfl hC3 rfl (by omega) (want_yes Fp32 rfl (e := 132) rfl (by omega) (show _ = Value.bool false from by simp [upd, hs6, hs9, hs10, hs11, hs12, hs13, hs16, hs17, hs18])) (v := Value.bool true) (fun wr hwr => by simp only [execOp, (Fp32.eval 133 (by omega)).trans (show _ = Value.bool false from by simp [upd, hs6, hs9, hs10, hs11, hs12, hs13, hs16, hs17, hs18])]; simp [go_sem, Act.eval]) fun Fp33 => ?_
                  refine lyp Fp33 rfl hC3 rfl (by omega) (want_yes Fp33 rfl (e := 132) rfl (by omega) (show _ = Value.bool false from by simp [upd, hs6, hs9, hs10, hs11, hs12, hs13, hs16, hs17, hs18])) (v := Value.bool true) (fun wr hwr => by simp only [execOp, (Fp33.eval 134 (by omega)).trans (show _ = Value.bool true from by simp [upd, hs6, hs9, hs10, hs11, hs12, hs13, hs16, hs17, hs18])]; first | rfl | simp [go_sem]) fun Fp34 => ?_
                  refine lyp Fp34 rfl hC3 rfl (by omega) (want_yes Fp34 rfl (e := 135) rfl (by omega) (show _ = Value.bool true from by simp [upd, hs6, hs9, hs10, hs11, hs12, hs13, hs16, hs17, hs18])) (v := Value.int .i64 s.c) (fun wr hwr => by simp only [execOp, (Fp34.eval 17 (by omega)).trans (show _ = Value.int .i64 s.c from by simp [upd, hs6, hs9, hs10, hs11, hs12, hs13, hs16, hs17, hs18])]; first | rfl | simp [go_sem]) fun Fp35 => ?_
                  refine lyp Fp35 rfl hC3 rfl (by omega) (want_yes Fp35 rfl (e := 135) rfl (by omega) (show _ = Value.bool true from by simp [upd, hs6, hs9, hs10, hs11, hs12, hs13, hs16, hs17, hs18])) (v := Value.int .i64 s.c) (fun wr hwr => by simp only [execOp, (Fp35.eval 12 (by omega)).trans (show _ = Value.int .i64 s.c from by simp [upd, hs6, hs9, hs10, hs11, hs12, hs13, hs16, hs17, hs18])]; first | rfl | simp [go_sem]) fun Fp36 => ?_
                  refine lyp Fp36 rfl hC3 rfl (by omega) (want_yes Fp36 rfl (e := 135) rfl (by omega) (show _ = Value.bool true from by simp [upd, hs6, hs9, hs10, hs11, hs12, hs13, hs16, hs17, hs18])) (v := Value.bool false) (fun wr hwr => by simp only [execOp, (Fp36.eval 136 (by omega)).trans (show _ = Value.int .i64 s.c from by simp [upd, hs6, hs9, hs10, hs11, hs12, hs13, hs16, hs17, hs18]), (Fp36.eval 137 (by omega)).trans (show _ = Value.int .i64 s.c from by simp [upd, hs6, hs9, hs10, hs11, hs12, hs13, hs16, hs17, hs18])]; simp [go_sem, Act.eval]) fun Fp37 => ?_
                  refine lyp Fp37 rfl hC3 rfl (by omega) (want_yes Fp37 rfl (e := 135) rfl (by omega) (show _ = Value.bool true from by simp [upd, hs6, hs9, hs10, hs11, hs12, hs13, hs16, hs17, hs18])) (v := Value.bool false) (fun wr hwr => by simp only [execOp, (Fp37.eval 138 (by omega)).trans (show _ = Value.bool false from by simp [upd, hs6, hs9, hs10, hs11, hs12, hs13, hs16, hs17, hs18])]; first | rfl | simp [go_sem]) fun Fp38 => ?_
                  refine lyp Fp38 rfl hC3 rfl (by omega) (want_yes Fp38 rfl (e := 139) rfl (by omega) (show _ = Value.bool false from by simp [upd, hs6, hs9, hs10, hs11, hs12, hs13, hs16, hs17, hs18])) (v := Value.int .i64 s.n) (fun wr hwr => by simp only [execOp, (Fp38.eval 18 (by omega)).trans (show _ = Value.int .i64 s.n from by simp [upd, hs6, hs9, hs10, hs11, hs12, hs13, hs16, hs17, hs18])]; first | rfl | simp [go_sem]) fun Fp39 => ?_
                  refine lyp Fp39 rfl hC3 rfl (by omega) (want_yes Fp39 rfl (e := 139) rfl (by omega) (show _ = Value.bool false from by simp [upd, hs6, hs9, hs10, hs11, hs12, hs13, hs16, hs17, hs18])) (v := Value.int .i64 s.n) (fun wr hwr => by simp only [execOp, (Fp39.eval 13 (by omega)).trans (show _ = Value.int .i64 s.n from by simp [upd, hs6, hs9, hs10, hs11, hs12, hs13, hs16, hs17, hs18])]; first | rfl | simp [go_sem]) fun Fp40 => ?_
                  refine lyp Fp40 rfl hC3 rfl (by omega) (want_yes Fp40 rfl (e := 139) rfl (by omega) (show _ = Value.bool false from by simp [upd, hs6, hs9, hs10, hs11, hs12, hs13, hs16, hs17, hs18])) (v := Value.bool false) (fun wr hwr => by simp only [execOp, (Fp40.eval 140 (by omega)).trans (show _ = Value.int .i64 s.n from by simp [upd, hs6, hs9, hs10, hs11, hs12, hs13, hs16, hs17, hs18]), (Fp40.eval 141 (by omega)).trans (show _ = Value.int .i64 s.n from by simp [upd, hs6, hs9, hs10, hs11, hs12, hs13, hs16, hs17, hs18])]; simp [go_sem, Act.eval]) fun Fp41 => ?_
                  refine lyp Fp41 rfl hC3 rfl (by omega) (want_yes Fp41 rfl (e := 135) rfl (by omega) (show _ = Value.bool true from by simp [upd, hs6, hs9, hs10, hs11, hs12, hs13, hs16, hs17, hs18])) (v := Value.bool false) (fun wr hwr => by simp only [execOp, (Fp41.eval 139 (by omega)).trans (show _ = Value.bool false from by simp [upd, hs6, hs9, hs10, hs11, hs12, hs13, hs16, hs17, hs18]), (Fp41.eval 142 (by omega)).trans (show _ = Value.bool false from by simp [upd, hs6, hs9, hs10, hs11, hs12, hs13, hs16, hs17, hs18])]; simp [go_sem, Act.eval]) fun Fp42 => ?_
                  refine lyp Fp42 rfl hC3 rfl (by omega) (want_yes Fp42 rfl (e := 132) rfl (by omega) (show _ = Value.bool false from by simp [upd, hs6, hs9, hs10, hs11, hs12, hs13, hs16, hs17, hs18])) (v := Value.bool false) (fun wr hwr => by simp only [execOp, (Fp42.eval 135 (by omega)).trans (show _ = Value.bool true from by simp [upd, hs6, hs9, hs10, hs11, hs12, hs13, hs16, hs17, hs18]), (Fp42.eval 143 (by omega)).trans (show _ = Value.bool false from by simp [upd, hs6, hs9, hs10, hs11, hs12, hs13, hs16, hs17, hs18])]; simp [go_sem, Act.eval]) fun Fp43 => ?_
                  refine lyp Fp43 rfl hC3 rfl (by omega) (wanted_none rfl) (v := Value.bool false) (fun wr hwr => by simp only [execOp, (Fp43.eval 132 (by omega)).trans (show _ = Value.bool false from by simp [upd, hs6, hs9, hs10, hs11, hs12, hs13, hs16, hs17, hs18]), (Fp43.eval 144 (by omega)).trans (show _ = Value.bool false from by simp [upd, hs6, hs9, hs10, hs11, hs12, hs13, hs16, hs17, hs18])]; simp [go_sem, Act.eval]) fun Fp44 => ?_
                  refine ⟨fun _ => hC3, ?_⟩
                  refine hK _ _ ?_
                  clear F0 Fp1 Fp2 Fp3 Fp4 Fp5 Fp6 Fp7 Fp8 Fp9 Fp10 Fp11 Fp12 Fp13 Fp14 Fp15 Fp16 Fp17 Fp18 Fp19 Fp20 Fp21 Fp22 Fp23 Fp24 Fp25 Fp26 Fp27 Fp28 Fp29 Fp30 Fp31 Fp32 Fp33 Fp34 Fp35 Fp36 Fp37 Fp38 Fp39 Fp40 Fp41 Fp42 Fp43 Fp44 hs6 hs9 hs10 hs11 hs12 hs13 hs16 hs17 hs18 hK hC0 hC1 hC2 hC3
                  simp only [Act.put, List.setIfInBounds_toArray, List.set_cons_succ, List.set_cons_zero]
                  have hB := hY3
                  clear HB hX hY1 hY2 hY3
                  have hh := sound_any _ hB.l (hok)
                  have HB : Hid _ := hB
                  clear hB
                  go_wp2_with fail
                  refine hh.mono ?_
                  rintro e20 u20 ⟨rfl, hbs⟩
                  have hB := HB.out.more hbs
                  clear hh HB  hbs
                  have HE : Hid _ := (show SL hl W _ from ⟨_, hB.l, hok, hB.q⟩)
                  clear hB
                  go_wp2_with fail
                  go_roundw
                  case rel => exact ⟨k + 1, by omega, by go_num, HE.out⟩
                  case measure => simp [intOf]; omega
              · rename_i K hK
                try rw [show ∀ a : Act, a.put none undef = a from fun _ => rfl]
                have hX : SB S W.heap.size hl ob wb s kind who a c s.d s.u W ({ v6 with drawn := v6.drawn + 1 } : World) := HB.out.drew
                refine wp_region_mix (fun wr => Blk wr ob #[.int .i64 kind, .int .i64 who, .int .i64 a, .int .i64 c] 45 ∧ Blk wr wb #[.int .i64 s.d, .int .i64 s.u] 29) (fun i => i == 1 || i == 3 || i == 7 || i == 44) 44 (by kernel_rfl) rfl (by kernel_rfl) (by kernel_rfl) (by kernel_rfl) ?_
                generalize ({ v6 with drawn := v6.drawn + 1 } : World) = X at *
                have hC0 : Blk X ob #[.int .i64 kind, .int .i64 who, .int .i64 a, .int .i64 c] 45 ∧ Blk X wb #[.int .i64 s.d, .int .i64 s.u] 29 := ⟨hX.o, hX.x⟩
                refine withFrP (N := 232) rfl ?_
                intro f0 F0 hff
                have hs6 : f0 6 = Value.pointer (some ⟨hl, 0, none⟩) := hff 6
                have hs9 : f0 9 = Value.pointer (some ⟨ob, 0, none⟩) := hff 9
                have hs10 : f0 10 = Value.pointer (some ⟨wb, 0, none⟩) := hff 10
                have hs11 : f0 11 = Value.int .i64 s.h := hff 11
                have hs12 : f0 12 = Value.int .i64 s.c := hff 12
                have hs13 : f0 13 = Value.int .i64 s.n := hff 13
                have hs16 : f0 16 = Value.bool false := hff 16
                have hs17 : f0 17 = Value.int .i64 s.c := hff 17
                have hs18 : f0 18 = Value.int .i64 s.n := hff 18
                clear hff
                refine lyp F0 rfl hC0 rfl (by omega) (wanted_none rfl) (v := Value.pointer (some ⟨hl, 0, none⟩)) (fun wr hwr => by simp only [execOp, (F0.eval 6 (by omega)).trans (show _ = Value.pointer (some ⟨hl, 0, none⟩) from by simp [upd, hs6, hs9, hs10, hs11, hs12, hs13, hs16, hs17, hs18])]; first | rfl | simp [go_sem]) fun Fp1 => ?_
                have hi1 := rights_any _ hX.l
                refine lcp Fp1 rfl hC0 rfl (by omega) (wanted_none rfl) (g := 16) (args := #[Value.pointer (some ⟨hl, 0, none⟩)]) (by simp only [execOp, resolve, invoke, List.map_toArray, List.map_cons, List.map_nil, (Fp1.eval 102 (by omega)).trans (show _ = Value.pointer (some ⟨hl, 0, none⟩) from by simp [upd, hs6, hs9, hs10, hs11, hs12, hs13, hs16, hs17, hs18])]; simp [go_sem, Act.eval]) hi1 ?_
                rintro ex1 vp1 ⟨rfl, hb1⟩
                refine ⟨_, rfl, fun Fp2 => ?_⟩
                have hY1 := hX.more hb1
                have hC1 : Blk _ ob #[.int .i64 kind, .int .i64 who, .int .i64 a, .int .i64 c] 45 ∧ Blk _ wb #[.int .i64 s.d, .int .i64 s.u] 29 := ⟨hY1.o, hY1.x⟩
                refine lyp Fp2 rfl hC1 rfl (by omega) (wanted_none rfl) (v := Value.agg #[.int .i64 s.d, .int .i64 s.u]) (fun wr hwr => by simp only [execOp, (Fp2.eval 10 (by omega)).trans (show _ = Value.pointer (some ⟨wb, 0, none⟩) from by simp [upd, hs6, hs9, hs10, hs11, hs12, hs13, hs16, hs17, hs18])]; simp [go_sem, x0_of hwr.2, x1_of hwr.2]) fun Fp3 => ?_
                refine lcp Fp3 rfl hC1 rfl (by omega) (wanted_none rfl) (g := 15) (args := #[Value.agg #[.int .i64 s.d, .int .i64 s.u], Value.agg #[.int .i64 s.d, .int .i64 s.u]]) (by simp only [execOp, resolve, invoke, List.map_toArray, List.map_cons, List.map_nil, (Fp3.eval 103 (by omega)).trans (show _ = Value.agg #[.int .i64 s.d, .int .i64 s.u] from by simp [upd, hs6, hs9, hs10, hs11, hs12, hs13, hs16, hs17, hs18]), (Fp3.eval 104 (by omega)).trans (show _ = Value.agg #[.int .i64 s.d, .int .i64 s.u] from by simp [upd, hs6, hs9, hs10, hs11, hs12, hs13, hs16, hs17, hs18])]; simp [go_sem, Act.eval]) (same_yes s.d s.u _) ?_
                rintro ex2 vp2 ⟨rfl, hb2⟩
                refine ⟨_, rfl, fun Fp4 => ?_⟩
                have hY2 := hY1.more hb2
                have hC2 : Blk _ ob #[.int .i64 kind, .int .i64 who, .int .i64 a, .int .i64 c] 45 ∧ Blk _ wb #[.int .i64 s.d, .int .i64 s.u] 29 := ⟨hY2.o, hY2.x⟩
                refine lyp Fp4 rfl hC2 rfl (by omega) (wanted_none rfl) (v := Value.bool false) (fun wr hwr => by simp only [execOp, (Fp4.eval 105 (by omega)).trans (show _ = Value.bool true from by simp [upd, hs6, hs9, hs10, hs11, hs12, hs13, hs16, hs17, hs18])]; simp [go_sem, Act.eval]) fun Fp5 => ?_
                refine lyp Fp5 rfl hC2 rfl (by omega) (wanted_none rfl) (v := Value.bool false) (fun wr hwr => by simp only [execOp, (Fp5.eval 106 (by omega)).trans (show _ = Value.bool false from by simp [upd, hs6, hs9, hs10, hs11, hs12, hs13, hs16, hs17, hs18])]; first | rfl | simp [go_sem]) fun Fp6 => ?_
                refine lyp Fp6 rfl hC2 rfl (by omega) (want_yes Fp6 rfl (e := 107) rfl (by omega) (show _ = Value.bool false from by simp [upd, hs6, hs9, hs10, hs11, hs12, hs13, hs16, hs17, hs18])) (v := Value.pointer (some ⟨hl, 0, none⟩)) (fun wr hwr => by simp only [execOp, (Fp6.eval 6 (by omega)).trans (show _ = Value.pointer (some ⟨hl, 0, none⟩) from by simp [upd, hs6, hs9, hs10, hs11, hs12, hs13, hs16, hs17, hs18])]; first | rfl | simp [go_sem]) fun Fp7 => ?_
                have hi3 := held_any _ hY2.l
                refine lcp Fp7 rfl hC2 rfl (by omega) (want_yes Fp7 rfl (e := 107) rfl (by omega) (show _ = Value.bool false from by simp [upd, hs6, hs9, hs10, hs11, hs12, hs13, hs16, hs17, hs18])) (g := 18) (args := #[Value.pointer (some ⟨hl, 0, none⟩)]) (by simp only [execOp, resolve, invoke, List.map_toArray, List.map_cons, List.map_nil, (Fp7.eval 108 (by omega)).trans (show _ = Value.pointer (some ⟨hl, 0, none⟩) from by simp [upd, hs6, hs9, hs10, hs11, hs12, hs13, hs16, hs17, hs18])]; simp [go_sem, Act.eval]) hi3 ?_
                rintro ex3 vp3 ⟨rfl, rfl⟩
                refine ⟨_, rfl, fun Fp8 => ?_⟩
                have hY3 := hY2
                have hC3 : Blk _ ob #[.int .i64 kind, .int .i64 who, .int .i64 a, .int .i64 c] 45 ∧ Blk _ wb #[.int .i64 s.d, .int .i64 s.u] 29 := ⟨hY3.o, hY3.x⟩
                refine lyp Fp8 rfl hC3 rfl (by omega) (want_yes Fp8 rfl (e := 107) rfl (by omega) (show _ = Value.bool false from by simp [upd, hs6, hs9, hs10, hs11, hs12, hs13, hs16, hs17, hs18])) (v := Value.int .i64 s.h) (fun wr hwr => by simp only [execOp, (Fp8.eval 11 (by omega)).trans (show _ = Value.int .i64 s.h from by simp [upd, hs6, hs9, hs10, hs11, hs12, hs13, hs16, hs17, hs18])]; first | rfl | simp [go_sem]) fun Fp9 => ?_
                refine lyp Fp9 rfl hC3 rfl (by omega) (want_yes Fp9 rfl (e := 107) rfl (by omega) (show _ = Value.bool false from by simp [upd, hs6, hs9, hs10, hs11, hs12, hs13, hs16, hs17, hs18])) (v := Value.bool false) (fun wr hwr => by simp only [execOp, (Fp9.eval 109 (by omega)).trans (show _ = Value.int .i64 s.h from by simp [upd, hs6, hs9, hs10, hs11, hs12, hs13, hs16, hs17, hs18]), (Fp9.eval 110 (by omega)).trans (show _ = Value.int .i64 s.h from by simp [upd, hs6, hs9, hs10, hs11, hs12, hs13, hs16, hs17, hs18])]; simp [go_sem, Act.eval]) fun Fp10 => ?_
                refine lyp Fp10 rfl hC3 rfl (by omega) (wanted_none rfl) (v := Value.bool false) (fun wr hwr => by simp only [execOp, (Fp10.eval 107 (by omega)).trans (show _ = Value.bool false from by simp [upd, hs6, hs9, hs10, hs11, hs12, hs13, hs16, hs17, hs18]), (Fp10.eval 111 (by omega)).trans (show _ = Value.bool false from by simp [upd, hs6, hs9, hs10, hs11, hs12, hs13, hs16, hs17, hs18])]; simp [go_sem, Act.eval]) fun Fp11 => ?_
                refine lyp Fp11 rfl hC3 rfl (by omega) (wanted_none rfl) (v := Value.bool false) (fun wr hwr => by simp only [execOp, (Fp11.eval 112 (by omega)).trans (show _ = Value.bool false from by simp [upd, hs6, hs9, hs10, hs11, hs12, hs13, hs16, hs17, hs18])]; first | rfl | simp [go_sem]) fun Fp12 => ?_
                refine lyp Fp12 rfl hC3 rfl (by omega) (want_yes Fp12 rfl (e := 113) rfl (by omega) (show _ = Value.bool false from by simp [upd, hs6, hs9, hs10, hs11, hs12, hs13, hs16, hs17, hs18])) (v := Value.bool false) (fun wr hwr => by simp only [execOp, (Fp12.eval 16 (by omega)).trans (show _ = Value.bool false from by simp [upd, hs6, hs9, hs10, hs11, hs12, hs13, hs16, hs17, hs18])]; first | rfl | simp [go_sem]) fun Fp13 => ?_
                refine lyp Fp13 rfl hC3 rfl (by omega) (want_yes Fp13 rfl (e := 113) rfl (by omega) (show _ = Value.bool false from by simp [upd, hs6, hs9, hs10, hs11, hs12, hs13, hs16, hs17, hs18])) (v := Value.int .i64 s.c) (fun wr hwr => by simp only [execOp, (Fp13.eval 17 (by omega)).trans (show _ = Value.int .i64 s.c from by simp [upd, hs6, hs9, hs10, hs11, hs12, hs13, hs16, hs17, hs18])]; first | rfl | simp [go_sem]) fun Fp14 => ?_
                refine lyp Fp14 rfl hC3 rfl (by omega) (want_yes Fp14 rfl (e := 113) rfl (by omega) (show _ = Value.bool false from by simp [upd, hs6, hs9, hs10, hs11, hs12, hs13, hs16, hs17, hs18])) (v := Value.pointer (some ⟨ob, 2, none⟩)) (fun wr hwr => by simp only [execOp, (Fp14.eval 9 (by omega)).trans (show _ = Value.pointer (some ⟨ob, 0, none⟩) from by simp [upd, hs6, hs9, hs10, hs11, hs12, hs13, hs16, hs17, hs18])]; simp [go_sem]) fun Fp15 => ?_
                refine lyp Fp15 rfl hC3 rfl (by omega) (want_yes Fp15 rfl (e := 113) rfl (by omega) (show _ = Value.bool false from by simp [upd, hs6, hs9, hs10, hs11, hs12, hs13, hs16, hs17, hs18])) (v := Value.int .i64 a) (fun wr hwr => by simp only [execOp, (Fp15.eval 116 (by omega)).trans (show _ = Value.pointer (some ⟨ob, 2, none⟩) from by simp [upd, hs6, hs9, hs10, hs11, hs12, hs13, hs16, hs17, hs18])]; simp [go_sem, (o2_of hwr.1)]) fun Fp16 => ?_
                refine lyp Fp16 rfl hC3 rfl (by omega) (want_yes Fp16 rfl (e := 113) rfl (by omega) (show _ = Value.bool false from by simp [upd, hs6, hs9, hs10, hs11, hs12, hs13, hs16, hs17, hs18])) (v := Value.bool false) (fun wr hwr => by simp only [execOp, (Fp16.eval 115 (by omega)).trans (show _ = Value.int .i64 s.c from by simp [upd, hs6, hs9, hs10, hs11, hs12, hs13, hs16, hs17, hs18]), (Fp16.eval 117 (by omega)).trans (show _ = Value.int .i64 a from by simp [upd, hs6, hs9, hs10, hs11, hs12, hs13, hs16, hs17, hs18])]; simp [go_sem, Act.eval, m1]) fun Fp17 => ?_
                refine lyp Fp17 rfl hC3 rfl (by omega) (want_yes Fp17 rfl (e := 113) rfl (by omega) (show _ = Value.bool false from by simp [upd, hs6, hs9, hs10, hs11, hs12, hs13, hs16, hs17, hs18])) (v := Value.bool false) (fun wr hwr => by simp only [execOp, (Fp17.eval 118 (by omega)).trans (show _ = Value.bool false from by simp [upd, hs6, hs9, hs10, hs11, hs12, hs13, hs16, hs17, hs18])]; first | rfl | simp [go_sem]) fun Fp18 => ?_
                refine lnp Fp18 rfl hC3 rfl (by omega) (want_no Fp18 rfl (e := 119) rfl (by omega) (show _ = Value.bool false from by simp [upd, hs6, hs9, hs10, hs11, hs12, hs13, hs16, hs17, hs18]) (by decide)) fun Fp19 => ?_
                refine lnp Fp19 rfl hC3 rfl (by omega) (want_no Fp19 rfl (e := 119) rfl (by omega) (show _ = Value.bool false from by simp [upd, hs6, hs9, hs10, hs11, hs12, hs13, hs16, hs17, hs18]) (by decide)) fun Fp20 => ?_
                refine lnp Fp20 rfl hC3 rfl (by omega) (want_no Fp20 rfl (e := 119) rfl (by omega) (show _ = Value.bool false from by simp [upd, hs6, hs9, hs10, hs11, hs12, hs13, hs16, hs17, hs18]) (by decide)) fun Fp21 => ?_
                refine lnp Fp21 rfl hC3 rfl (by omega) (want_no Fp21 rfl (e := 119) rfl (by omega) (show _ = Value.bool false from by simp [upd, hs6, hs9, hs10, hs11, hs12, hs13, hs16, hs17, hs18]) (by decide)) fun Fp22 => ?_
                refine lyp Fp22 rfl hC3 rfl (by omega) (want_yes Fp22 rfl (e := 113) rfl (by omega) (show _ = Value.bool false from by simp [upd, hs6, hs9, hs10, hs11, hs12, hs13, hs16, hs17, hs18])) (v := Value.bool false) (fun wr hwr => by simp only [execOp, (Fp22.eval 119 (by omega)).trans (show _ = Value.bool false from by simp [upd, hs6, hs9, hs10, hs11, hs12, hs13, hs16, hs17, hs18])]; simp [go_sem, Act.eval]) fun Fp23 => ?_
                refine lyp Fp23 rfl hC3 rfl (by omega) (want_yes Fp23 rfl (e := 113) rfl (by omega) (show _ = Value.bool false from by simp [upd, hs6, hs9, hs10, hs11, hs12, hs13, hs16, hs17, hs18])) (v := Value.bool false) (fun wr hwr => by simp only [execOp, (Fp23.eval 124 (by omega)).trans (show _ = Value.bool false from by simp [upd, hs6, hs9, hs10, hs11, hs12, hs13, hs16, hs17, hs18])]; first | rfl | simp [go_sem]) fun Fp24 => ?_
                refine lnp Fp24 rfl hC3 rfl (by omega) (want_no Fp24 rfl (e := 125) rfl (by omega) (show _ = Value.bool false from by simp [upd, hs6, hs9, hs10, hs11, hs12, hs13, hs16, hs17, hs18]) (by decide)) fun Fp25 => ?_
                refine lnp Fp25 rfl hC3 rfl (by omega) (want_no Fp25 rfl (e := 125) rfl (by omega) (show _ = Value.bool false from by simp [upd, hs6, hs9, hs10, hs11, hs12, hs13, hs16, hs17, hs18]) (by decide)) fun Fp26 => ?_
                refine lnp Fp26 rfl hC3 rfl (by omega) (want_no Fp26 rfl (e := 125) rfl (by omega) (show _ = Value.bool false from by simp [upd, hs6, hs9, hs10, hs11, hs12, hs13, hs16, hs17, hs18]) (by decide)) fun Fp27 => ?_
                refine lyp Fp27 rfl hC3 rfl (by omega) (want_yes Fp27 rfl (e := 113) rfl (by omega) (show _ = Value.bool false from by simp [upd, hs6, hs9, hs10, hs11, hs12, hs13, hs16, hs17, hs18])) (v := Value.bool false) (fun wr hwr => by simp only [execOp, (Fp27.eval 125 (by omega)).trans (show _ = Value.bool false from by simp [upd, hs6, hs9, hs10, hs11, hs12, hs13, hs16, hs17, hs18])]; simp [go_sem, Act.eval]) fun Fp28 => ?_
                refine lyp Fp28 rfl hC3 rfl (by omega) (want_yes Fp28 rfl (e := 113) rfl (by omega) (show _ = Value.bool false from by simp [upd, hs6, hs9, hs10, hs11, hs12, hs13, hs16, hs17, hs18])) (v := Value.bool false) (fun wr hwr => by simp only [execOp, (Fp28.eval 114 (by omega)).trans (show _ = Value.bool false from by simp [upd, hs6, hs9, hs10, hs11, hs12, hs13, hs16, hs17, hs18]), (Fp28.eval 129 (by omega)).trans (show _ = Value.bool false from by simp [upd, hs6, hs9, hs10, hs11, hs12, hs13, hs16, hs17, hs18])]; simp [go_sem, Act.eval]) fun Fp29 => ?_
                refine lyp Fp29 rfl hC3 rfl (by omega) (wanted_none rfl) (v := Value.bool false) (fun wr hwr => by simp only [execOp, (Fp29.eval 113 (by omega)).trans (show _ = Value.bool false from by simp [upd, hs6, hs9, hs10, hs11, hs12, hs13, hs16, hs17, hs18]), (Fp29.eval 130 (by omega)).trans (show _ = Value.bool false from by simp [upd, hs6, hs9, hs10, hs11, hs12, hs13, hs16, hs17, hs18])]; simp [go_sem, Act.eval]) fun Fp30 => ?_
                refine lyp Fp30 rfl hC3 rfl (by omega) (wanted_none rfl) (v := Value.bool false) (fun wr hwr => by simp only [execOp, (Fp30.eval 131 (by omega)).trans (show _ = Value.bool false from by simp [upd, hs6, hs9, hs10, hs11, hs12, hs13, hs16, hs17, hs18])]; first | rfl | simp [go_sem]) fun Fp31 => ?_
                refine lyp Fp31 rfl hC3 rfl (by omega) (want_yes Fp31 rfl (e := 132) rfl (by omega) (show _ = Value.bool false from by simp [upd, hs6, hs9, hs10, hs11, hs12, hs13, hs16, hs17, hs18])) (v := Value.bool false) (fun wr hwr => by simp only [execOp, (Fp31.eval 16 (by omega)).trans (show _ = Value.bool false from by simp [upd, hs6, hs9, hs10, hs11, hs12, hs13, hs16, hs17, hs18])]; first | rfl | simp [go_sem]) fun Fp32 => ?_
                refine lyp Fp32 rfl hC3 rfl (by omega) (want_yes Fp32 rfl (e := 132) rfl (by omega) (show _ = Value.bool false from by simp [upd, hs6, hs9, hs10, hs11, hs12, hs13, hs16, hs17, hs18])) (v := Value.bool true) (fun wr hwr => by simp only [execOp, (Fp32.eval 133 (by omega)).trans (show _ = Value.bool false from by simp [upd, hs6, hs9, hs10, hs11, hs12, hs13, hs16, hs17, hs18])]; simp [go_sem, Act.eval]) fun Fp33 => ?_
                refine lyp Fp33 rfl hC3 rfl (by omega) (want_yes Fp33 rfl (e := 132) rfl (by omega) (show _ = Value.bool false from by simp [upd, hs6, hs9, hs10, hs11, hs12, hs13, hs16, hs17, hs18])) (v := Value.bool true) (fun wr hwr => by simp only [execOp, (Fp33.eval 134 (by omega)).trans (show _ = Value.bool true from by simp [upd, hs6, hs9, hs10, hs11, hs12, hs13, hs16, hs17, hs18])]; first | rfl | simp [go_sem]) fun Fp34 => ?_
                refine lyp Fp34 rfl hC3 rfl (by omega) (want_yes Fp34 rfl (e := 135) rfl (by omega) (show _ = Value.bool true from by simp [upd, hs6, hs9, hs10, hs11, hs12, hs13, hs16, hs17, hs18])) (v := Value.int .i64 s.c) (fun wr hwr => by simp only [execOp, (Fp34.eval 17 (by omega)).trans (show _ = Value.int .i64 s.c from by simp [upd, hs6, hs9, hs10, hs11, hs12, hs13, hs16, hs17, hs18])]; first | rfl | simp [go_sem]) fun Fp35 => ?_
                refine lyp Fp35 rfl hC3 rfl (by omega) (want_yes Fp35 rfl (e := 135) rfl (by omega) (show _ = Value.bool true from by simp [upd, hs6, hs9, hs10, hs11, hs12, hs13, hs16, hs17, hs18])) (v := Value.int .i64 s.c) (fun wr hwr => by simp only [execOp, (Fp35.eval 12 (by omega)).trans (show _ = Value.int .i64 s.c from by simp [upd, hs6, hs9, hs10, hs11, hs12, hs13, hs16, hs17, hs18])]; first | rfl | simp [go_sem]) fun Fp36 => ?_
                refine lyp Fp36 rfl hC3 rfl (by omega) (want_yes Fp36 rfl (e := 135) rfl (by omega) (show _ = Value.bool true from by simp [upd, hs6, hs9, hs10, hs11, hs12, hs13, hs16, hs17, hs18])) (v := Value.bool false) (fun wr hwr => by simp only [execOp, (Fp36.eval 136 (by omega)).trans (show _ = Value.int .i64 s.c from by simp [upd, hs6, hs9, hs10, hs11, hs12, hs13, hs16, hs17, hs18]), (Fp36.eval 137 (by omega)).trans (show _ = Value.int .i64 s.c from by simp [upd, hs6, hs9, hs10, hs11, hs12, hs13, hs16, hs17, hs18])]; simp [go_sem, Act.eval]) fun Fp37 => ?_
                refine lyp Fp37 rfl hC3 rfl (by omega) (want_yes Fp37 rfl (e := 135) rfl (by omega) (show _ = Value.bool true from by simp [upd, hs6, hs9, hs10, hs11, hs12, hs13, hs16, hs17, hs18])) (v := Value.bool false) (fun wr hwr => by simp only [execOp, (Fp37.eval 138 (by omega)).trans (show _ = Value.bool false from by simp [upd, hs6, hs9, hs10, hs11, hs12, hs13, hs16, hs17, hs18])]; first | rfl | simp [go_sem]) fun Fp38 => ?_
                refine lyp Fp38 rfl hC3 rfl (by omega) (want_yes Fp38 rfl (e := 139) rfl (by omega) (show _ = Value.bool false from by simp [upd, hs6, hs9, hs10, hs11, hs12, hs13, hs16, hs17, hs18])) (v := Value.int .i64 s.n) (fun wr hwr => by simp only [execOp, (Fp38.eval 18 (by omega)).trans (show _ = Value.int .i64 s.n from by simp [upd, hs6, hs9, hs10, hs11, hs12, hs13, hs16, hs17, hs18])]; first | rfl | simp [go_sem]) fun Fp39 => ?_
                refine lyp Fp39 rfl hC3 rfl (by omega) (want_yes Fp39 rfl (e := 139) rfl (by omega) (show _ = Value.bool false from by simp [upd, hs6, hs9, hs10, hs11, hs12, hs13, hs16, hs17, hs18])) (v := Value.int .i64 s.n) (fun wr hwr => by simp only [execOp, (Fp39.eval 13 (by omega)).trans (show _ = Value.int .i64 s.n from by simp [upd, hs6, hs9, hs10, hs11, hs12, hs13, hs16, hs17, hs18])]; first | rfl | simp [go_sem]) fun Fp40 => ?_
                refine lyp Fp40 rfl hC3 rfl (by omega) (want_yes Fp40 rfl (e := 139) rfl (by omega) (show _ = Value.bool false from by simp [upd, hs6, hs9, hs10, hs11, hs12, hs13, hs16, hs17, hs18])) (v := Value.bool false) (fun wr hwr => by simp only [execOp, (Fp40.eval 140 (by omega)).trans (show _ = Value.int .i64 s.n from by simp [upd, hs6, hs9, hs10, hs11, hs12, hs13, hs16, hs17, hs18]), (Fp40.eval 141 (by omega)).trans (show _ = Value.int .i64 s.n from by simp [upd, hs6, hs9, hs10, hs11, hs12, hs13, hs16, hs17, hs18])]; simp [go_sem, Act.eval]) fun Fp41 => ?_
                refine lyp Fp41 rfl hC3 rfl (by omega) (want_yes Fp41 rfl (e := 135) rfl (by omega) (show _ = Value.bool true from by simp [upd, hs6, hs9, hs10, hs11, hs12, hs13, hs16, hs17, hs18])) (v := Value.bool false) (fun wr hwr => by simp only [execOp, (Fp41.eval 139 (by omega)).trans (show _ = Value.bool false from by simp [upd, hs6, hs9, hs10, hs11, hs12, hs13, hs16, hs17, hs18]), (Fp41.eval 142 (by omega)).trans (show _ = Value.bool false from by simp [upd, hs6, hs9, hs10, hs11, hs12, hs13, hs16, hs17, hs18])]; simp [go_sem, Act.eval]) fun Fp42 => ?_
                refine lyp Fp42 rfl hC3 rfl (by omega) (want_yes Fp42 rfl (e := 132) rfl (by omega) (show _ = Value.bool false from by simp [upd, hs6, hs9, hs10, hs11, hs12, hs13, hs16, hs17, hs18])) (v := Value.bool false) (fun wr hwr => by simp only [execOp, (Fp42.eval 135 (by omega)).trans (show _ = Value.bool true from by simp [upd, hs6, hs9, hs10, hs11, hs12, hs13, hs16, hs17, hs18]), (Fp42.eval 143 (by omega)).trans (show _ = Value.bool false from by simp [upd, hs6, hs9, hs10, hs11, hs12, hs13, hs16, hs17, hs18])]; simp [go_sem, Act.eval]) fun Fp43 => ?_
                refine lyp Fp43 rfl hC3 rfl (by omega) (wanted_none rfl) (v := Value.bool false) (fun wr hwr => by simp only [execOp, (Fp43.eval 132 (by omega)).trans (show _ = Value.bool false from by simp [upd, hs6, hs9, hs10, hs11, hs12, hs13, hs16, hs17, hs18]), (Fp43.eval 144 (by omega)).trans (show _ = Value.bool false from by simp [upd, hs6, hs9, hs10, hs11, hs12, hs13, hs16, hs17, hs18])]; simp [go_sem, Act.eval]) fun Fp44 => ?_
                refine ⟨fun _ => hC3, ?_⟩
                refine hK _ _ ?_
                clear F0 Fp1 Fp2 Fp3 Fp4 Fp5 Fp6 Fp7 Fp8 Fp9 Fp10 Fp11 Fp12 Fp13 Fp14 Fp15 Fp16 Fp17 Fp18 Fp19 Fp20 Fp21 Fp22 Fp23 Fp24 Fp25 Fp26 Fp27 Fp28 Fp29 Fp30 Fp31 Fp32 Fp33 Fp34 Fp35 Fp36 Fp37 Fp38 Fp39 Fp40 Fp41 Fp42 Fp43 Fp44 hs6 hs9 hs10 hs11 hs12 hs13 hs16 hs17 hs18 hK hC0 hC1 hC2 hC3
                simp only [Act.put, List.setIfInBounds_toArray, List.set_cons_succ, List.set_cons_zero]
                have hB := hY3
                clear HB hX hY1 hY2 hY3
                have hh := sound_any _ hB.l (hok)
                have HB : Hid _ := hB
                clear hB
                go_wp2_with fail
                refine hh.mono ?_
                rintro e20 u20 ⟨rfl, hbs⟩
                have hB := HB.out.more hbs
                clear hh HB  hbs
                have HE : Hid _ := (show SL hl W _ from ⟨_, hB.l, hok, hB.q⟩)
                clear hB
                go_wp2_with fail
                go_roundw
                case rel => exact ⟨k + 1, by omega, by go_num, HE.out⟩
                case measure => simp [intOf]; omega
          · by_cases hdo : 1 ≤ kind ∧ kind ≤ 10
            · have g8 : (kind == 8) = false := by simpa using h8
              have g11 : (kind == 11) = false := by simpa using h11
              have hr1 : 1 ≤ kind := hdo.1
              have hr2 : kind ≤ 10 := hdo.2
              clear h8 h11
              clear hdo
              have oks := s.dnext_ok hok kind a c
              have o0 := hB.o0
              have o1 := hB.o1
              have o2 := hB.o2
              have o3 := hB.o3
              have hh := does_any _ hB.sen hB.l hok hB.L1 kind who a c w2 w3
              have HB : Hid _ := hB
              clear hB
              by_cases hz : s.dcode kind a c = 0
              · have hz1 := hz
                rw [hz] at hh
                generalize hs2 : s.dnext kind a c = s2 at *
                have HS2 : Hid _ := hs2
                have HZ : Hid _ := hz1
                clear hs2 hz hz1
                go_wp2_with fail
                refine hh.mono ?_
                rintro e8 v5 ⟨rfl, hBa, hTa⟩
                have hB := HB.out.step hBa hTa
                clear hh HB hBa hTa o0 o1 o2 o3
                have hh := cap_any _ hB.l
                have HB : Hid _ := hB
                clear hB
                go_wp2_with fail
                refine hh.mono ?_
                rintro e9 v6 ⟨rfl, q6, rfl⟩
                have hB := HB.out.drewN q6
                clear hh HB  
                generalize v5.drewN q6 = v6 at *
                by_cases h6 : kind = 6
                · as_aux_lemma =>
                    have f6 : (kind == 6) = true := by simpa using h6
                    have b1 : 0 ≤ s.all ∧ s.all ≤ 1099511627776 := by rw [HALL.out]; have := hok.d0; have := hok.u0; have := hok.h0; have := hok.sum; have := hok.c2; omega
                    have b2 : 0 ≤ s2.all ∧ s2.all ≤ 1099511627776 := by have e : s2.all = s2.d + s2.u + s2.h := rfl; rw [e]; have := oks.d0; have := oks.u0; have := oks.h0; have := oks.sum; have := oks.c2; omega
                    have hd6 := s.d6 hok a c (by rw [← h6]; exact HZ.out)
                    rw [← h6, HS2.out] at hd6
                    have hsum := hd6.1
                    have cc : s2.c = s.c := hd6.2.1
                    have cn : s2.n = s.n := hd6.2.2.1
                    have q0 : IntKind.i64.wrap (a + c) = a + c := by rw [IntKind.wrap_i64]; omega
                    have n10 : (kind != 10) = true := by simp; omega
                    have q1 : IntKind.i64.wrap (s.all + (a + c)) = s.all + (a + c) := by rw [← hsum, IntKind.wrap_i64]; omega
                    have gs : (s.all + (a + c) != s.all + (a + c)) = false := by simp
                    have o0 := hB.o0
                    have o1 := hB.o1
                    have o2 := hB.o2
                    have o3 := hB.o3
                    have hh := sum_any _ hB.l oks
                    rw [hsum] at hh
                    have HB : Hid _ := hB
                    clear hB hsum h6 hd6 b1 b2
                    have gc : (s2.c != s.c) = false := by simp [cc]
                    have gn : (s2.n != s.n) = false := by simp [cn]
                    clear cc cn
                    go_wp2_with fail
                    refine hh.mono ?_
                    rintro e10 v7 ⟨rfl, hb10⟩
                    have hB := HB.out.more hb10
                    clear hh HB hb10 o0 o1 o2 o3
                    have o0 := hB.o0
                    have o1 := hB.o1
                    have o2 := hB.o2
                    have o3 := hB.o3
                    have hh := sound_any _ hB.l oks
                    have HB : Hid _ := hB
                    clear hB
                    go_wp2_with fail
                    refine hh.mono ?_
                    rintro e11 u11 ⟨rfl, hbs⟩
                    have hB := HB.out.more hbs
                    clear hh HB o0 o1 o2 o3 hbs
                    have HE : Hid _ := (show SL hl W _ from ⟨_, hB.l, oks, hB.q⟩)
                    clear hB
                    go_wp2_with fail
                    go_roundw
                    case rel => exact ⟨k + 1, by omega, by go_num, HE.out⟩
                    case measure => simp [intOf]; omega
                · by_cases h7 : kind = 7
                  · as_aux_lemma =>
                      have f6 : (kind == 6) = false := by simpa using h6
                      have f7 : (kind == 7) = true := by simpa using h7
                      have b1 : 0 ≤ s.all ∧ s.all ≤ 1099511627776 := by rw [HALL.out]; have := hok.d0; have := hok.u0; have := hok.h0; have := hok.sum; have := hok.c2; omega
                      have b2 : 0 ≤ s2.all ∧ s2.all ≤ 1099511627776 := by have e : s2.all = s2.d + s2.u + s2.h := rfl; rw [e]; have := oks.d0; have := oks.u0; have := oks.h0; have := oks.sum; have := oks.c2; omega
                      have hd7 := s.d7 hok a c (by rw [← h7]; exact HZ.out)
                      rw [← h7, HS2.out] at hd7
                      have hsum := hd7.1
                      have cc : s2.c = s.c := hd7.2.1
                      have cn : s2.n = s.n := hd7.2.2.1
                      have q0 : IntKind.i64.wrap (-a) = -a := by rw [IntKind.wrap_i64]; omega
                      have q00 : IntKind.i64.wrap (-a - c) = -a - c := by rw [IntKind.wrap_i64]; omega
                      have n10 : (kind != 10) = true := by simp; omega
                      have q1 : IntKind.i64.wrap (s.all + (-a - c)) = s.all + (-a - c) := by rw [← hsum, IntKind.wrap_i64]; omega
                      have gs : (s.all + (-a - c) != s.all + (-a - c)) = false := by simp
                      have o0 := hB.o0
                      have o1 := hB.o1
                      have o2 := hB.o2
                      have o3 := hB.o3
                      have hh := sum_any _ hB.l oks
                      rw [hsum] at hh
                      have HB : Hid _ := hB
                      clear hB hsum h6 h7 hd7 b1 b2
                      have gc : (s2.c != s.c) = false := by simp [cc]
                      have gn : (s2.n != s.n) = false := by simp [cn]
                      clear cc cn
                      go_wp2_with fail
                      refine hh.mono ?_
                      rintro e10 v7 ⟨rfl, hb10⟩
                      have hB := HB.out.more hb10
                      clear hh HB hb10 o0 o1 o2 o3
                      have o0 := hB.o0
                      have o1 := hB.o1
                      have o2 := hB.o2
                      have o3 := hB.o3
                      have hh := sound_any _ hB.l oks
                      have HB : Hid _ := hB
                      clear hB
                      go_wp2_with fail
                      refine hh.mono ?_
                      rintro e11 u11 ⟨rfl, hbs⟩
                      have hB := HB.out.more hbs
                      clear hh HB o0 o1 o2 o3 hbs
                      have HE : Hid _ := (show SL hl W _ from ⟨_, hB.l, oks, hB.q⟩)
                      clear hB
                      go_wp2_with fail
                      go_roundw
                      case rel => exact ⟨k + 1, by omega, by go_num, HE.out⟩
                      case measure => simp [intOf]; omega
                  · by_cases h10 : kind = 10
                    · have f6 : (kind == 6) = false := by simpa using h6
                      have f7 : (kind == 7) = false := by simpa using h7
                      have f10 : (kind == 10) = true := by simpa using h10
                      have b1 : 0 ≤ s.all ∧ s.all ≤ 1099511627776 := by rw [HALL.out]; have := hok.d0; have := hok.u0; have := hok.h0; have := hok.sum; have := hok.c2; omega
                      have b2 : 0 ≤ s2.all ∧ s2.all ≤ 1099511627776 := by have e : s2.all = s2.d + s2.u + s2.h := rfl; rw [e]; have := oks.d0; have := oks.u0; have := oks.h0; have := oks.sum; have := oks.c2; omega
                      have hd10 := s.d10 hok a c (by rw [← h10]; exact HZ.out)
                      rw [← h10, HS2.out] at hd10
                      have hsum := hd10
                      have q0 : IntKind.i64.wrap (s2.c - s.c) = s2.c - s.c := by rw [IntKind.wrap_i64]; have := hok.c1; have := hok.c2; have := oks.c1; have := oks.c2; omega
                      have q1 : IntKind.i64.wrap (s.all + (s2.c - s.c)) = s.all + (s2.c - s.c) := by rw [← hsum, IntKind.wrap_i64]; omega
                      have gs : (s.all + (s2.c - s.c) != s.all + (s2.c - s.c)) = false := by simp
                      have o0 := hB.o0
                      have o1 := hB.o1
                      have o2 := hB.o2
                      have o3 := hB.o3
                      have hh := sum_any _ hB.l oks
                      rw [hsum] at hh
                      have HB : Hid _ := hB
                      clear hB hsum h6 h7 hd10 b1 b2
                      have n10 : (kind != 10) = false := by simpa using h10
                      clear h10
                      clear o0 o1 o2 o3
                      have hB : SB S W.heap.size hl ob wb s2 kind who a c s.d s.u W v6 := HB.out
                      clear HB
                      have o0 := hB.o0
                      have HB : Hid _ := hB
                      clear hB
                      go_upto_region 36 with fail
                      refine wp_region_lit ?_
                      refine withFrS (N := 232) rfl ?_
                      intro f0 F0 hff
                      have hs6 : f0 6 = Value.pointer (some ⟨hl, 0, none⟩) := hff 6
                      have hs9 : f0 9 = Value.pointer (some ⟨ob, 0, none⟩) := hff 9
                      have hs12 : f0 12 = Value.int .i64 s.c := hff 12
                      have hs13 : f0 13 = Value.int .i64 s.n := hff 13
                      have hs14 : f0 14 = Value.int .i64 s.all := hff 14
                      have hs20 : f0 20 = Value.int .i64 s2.c := hff 20
                      have hs21 : f0 21 = Value.int .i64 s2.n := hff 21
                      have hs22 : f0 22 = Value.int .i64 (s2.c - s.c) := hff 22
                      clear hff
                      refine syp F0 rfl (by omega) (wanted_none rfl) (v := Value.pointer (some ⟨hl, 0, none⟩)) (by simp only [execOp, (F0.eval 6 (by omega)).trans (show _ = Value.pointer (some ⟨hl, 0, none⟩) from by simp [upd, hs6, hs9, hs12, hs13, hs14, hs20, hs21, hs22])]; first | rfl | simp [go_sem]) fun F1 => ?_
                      refine scp F1 rfl (by omega) (wanted_none rfl) (g := 24) (args := #[Value.pointer (some ⟨hl, 0, none⟩)]) (by simp only [execOp, resolve, invoke, List.map_toArray, List.map_cons, List.map_nil, (F1.eval 208 (by omega)).trans (show _ = Value.pointer (some ⟨hl, 0, none⟩) from by simp [upd, hs6, hs9, hs12, hs13, hs14, hs20, hs21, hs22])]; simp [go_sem, Act.eval]) hh ?_
                      rintro e10 v7 ⟨rfl, hb10⟩
                      have hB := HB.out.more hb10
                      have o7 := hB.o0
                      refine ⟨_, rfl, fun F2 => ?_⟩
                      refine syp F2 rfl (by omega) (wanted_none rfl) (v := Value.int .i64 s.all) (by simp only [execOp, (F2.eval 14 (by omega)).trans (show _ = Value.int .i64 s.all from by simp [upd, hs6, hs9, hs12, hs13, hs14, hs20, hs21, hs22])]; first | rfl | simp [go_sem]) fun F3 => ?_
                      refine syp F3 rfl (by omega) (wanted_none rfl) (v := Value.int .i64 (s2.c - s.c)) (by simp only [execOp, (F3.eval 22 (by omega)).trans (show _ = Value.int .i64 (s2.c - s.c) from by simp [upd, hs6, hs9, hs12, hs13, hs14, hs20, hs21, hs22])]; first | rfl | simp [go_sem]) fun F4 => ?_
                      refine syp F4 rfl (by omega) (wanted_none rfl) (v := Value.int .i64 (s.all + (s2.c - s.c))) (by simp only [execOp, (F4.eval 210 (by omega)).trans (show _ = Value.int .i64 s.all from by simp [upd, hs6, hs9, hs12, hs13, hs14, hs20, hs21, hs22]), (F4.eval 211 (by omega)).trans (show _ = Value.int .i64 (s2.c - s.c) from by simp [upd, hs6, hs9, hs12, hs13, hs14, hs20, hs21, hs22])]; simp [go_sem, Act.eval, q1]) fun F5 => ?_
                      refine syp F5 rfl (by omega) (wanted_none rfl) (v := Value.bool false) (by simp only [execOp, (F5.eval 209 (by omega)).trans (show _ = Value.int .i64 (s.all + (s2.c - s.c)) from by simp [upd, hs6, hs9, hs12, hs13, hs14, hs20, hs21, hs22]), (F5.eval 212 (by omega)).trans (show _ = Value.int .i64 (s.all + (s2.c - s.c)) from by simp [upd, hs6, hs9, hs12, hs13, hs14, hs20, hs21, hs22])]; simp [go_sem, Act.eval]) fun F6 => ?_
                      refine syp F6 rfl (by omega) (wanted_none rfl) (v := Value.bool false) (by simp only [execOp, (F6.eval 213 (by omega)).trans (show _ = Value.bool false from by simp [upd, hs6, hs9, hs12, hs13, hs14, hs20, hs21, hs22])]; first | rfl | simp [go_sem]) fun F7 => ?_
                      refine syp F7 rfl (by omega) (want_yes F7 rfl (e := 214) rfl (by omega) (show _ = Value.bool false from by simp [upd, hs6, hs9, hs12, hs13, hs14, hs20, hs21, hs22])) (v := Value.pointer (some ⟨ob, 0, none⟩)) (by simp only [execOp, (F7.eval 9 (by omega)).trans (show _ = Value.pointer (some ⟨ob, 0, none⟩) from by simp [upd, hs6, hs9, hs12, hs13, hs14, hs20, hs21, hs22])]; simp [go_sem]) fun F8 => ?_
                      refine syp F8 rfl (by omega) (want_yes F8 rfl (e := 214) rfl (by omega) (show _ = Value.bool false from by simp [upd, hs6, hs9, hs12, hs13, hs14, hs20, hs21, hs22])) (v := Value.int .i64 kind) (by simp only [execOp, (F8.eval 215 (by omega)).trans (show _ = Value.pointer (some ⟨ob, 0, none⟩) from by simp [upd, hs6, hs9, hs12, hs13, hs14, hs20, hs21, hs22])]; simp [go_sem, o7]) fun F9 => ?_
                      refine syp F9 rfl (by omega) (want_yes F9 rfl (e := 214) rfl (by omega) (show _ = Value.bool false from by simp [upd, hs6, hs9, hs12, hs13, hs14, hs20, hs21, hs22])) (v := Value.bool false) (by simp only [execOp, (F9.eval 216 (by omega)).trans (show _ = Value.int .i64 kind from by simp [upd, hs6, hs9, hs12, hs13, hs14, hs20, hs21, hs22])]; simp [go_sem, Act.eval, n10]) fun F10 => ?_
                      refine syp F10 rfl (by omega) (want_yes F10 rfl (e := 214) rfl (by omega) (show _ = Value.bool false from by simp [upd, hs6, hs9, hs12, hs13, hs14, hs20, hs21, hs22])) (v := Value.bool false) (by simp only [execOp, (F10.eval 217 (by omega)).trans (show _ = Value.bool false from by simp [upd, hs6, hs9, hs12, hs13, hs14, hs20, hs21, hs22])]; first | rfl | simp [go_sem]) fun F11 => ?_
                      refine snp F11 rfl (by omega) (want_no F11 rfl (e := 218) rfl (by omega) (show _ = Value.bool false from by simp [upd, hs6, hs9, hs12, hs13, hs14, hs20, hs21, hs22]) (by decide)) fun F12 => ?_
                      refine snp F12 rfl (by omega) (want_no F12 rfl (e := 218) rfl (by omega) (show _ = Value.bool false from by simp [upd, hs6, hs9, hs12, hs13, hs14, hs20, hs21, hs22]) (by decide)) fun F13 => ?_
                      refine snp F13 rfl (by omega) (want_no F13 rfl (e := 218) rfl (by omega) (show _ = Value.bool false from by simp [upd, hs6, hs9, hs12, hs13, hs14, hs20, hs21, hs22]) (by decide)) fun F14 => ?_
                      refine snp F14 rfl (by omega) (want_no F14 rfl (e := 218) rfl (by omega) (show _ = Value.bool false from by simp [upd, hs6, hs9, hs12, hs13, hs14, hs20, hs21, hs22]) (by decide)) fun F15 => ?_
                      refine snp F15 rfl (by omega) (want_not F15 rfl (e := 222) rfl (by omega) (show _ = undef from by simp [upd, hs6, hs9, hs12, hs13, hs14, hs20, hs21, hs22])) fun F16 => ?_
                      refine snp F16 rfl (by omega) (want_not F16 rfl (e := 222) rfl (by omega) (show _ = undef from by simp [upd, hs6, hs9, hs12, hs13, hs14, hs20, hs21, hs22])) fun F17 => ?_
                      refine snp F17 rfl (by omega) (want_not F17 rfl (e := 222) rfl (by omega) (show _ = undef from by simp [upd, hs6, hs9, hs12, hs13, hs14, hs20, hs21, hs22])) fun F18 => ?_
                      refine snp F18 rfl (by omega) (want_no F18 rfl (e := 218) rfl (by omega) (show _ = Value.bool false from by simp [upd, hs6, hs9, hs12, hs13, hs14, hs20, hs21, hs22]) (by decide)) fun F19 => ?_
                      refine syp F19 rfl (by omega) (want_yes F19 rfl (e := 214) rfl (by omega) (show _ = Value.bool false from by simp [upd, hs6, hs9, hs12, hs13, hs14, hs20, hs21, hs22])) (v := Value.bool false) (by simp only [execOp, (F19.eval 218 (by omega)).trans (show _ = Value.bool false from by simp [upd, hs6, hs9, hs12, hs13, hs14, hs20, hs21, hs22])]; simp [go_sem, Act.eval]) fun F20 => ?_
                      refine syp F20 rfl (by omega) (wanted_none rfl) (v := Value.bool false) (by simp only [execOp, (F20.eval 214 (by omega)).trans (show _ = Value.bool false from by simp [upd, hs6, hs9, hs12, hs13, hs14, hs20, hs21, hs22]), (F20.eval 227 (by omega)).trans (show _ = Value.bool false from by simp [upd, hs6, hs9, hs12, hs13, hs14, hs20, hs21, hs22])]; simp [go_sem, Act.eval]) fun F21 => ?_
                      refine ⟨?_⟩
                      clear F0 F1 F2 F3 F4 F5 F6 F7 F8 F9 F10 F11 F12 F13 F14 F15 F16 F17 F18 F19 F20 F21 hs6 hs9 hs12 hs13 hs14 hs20 hs21 hs22 hh HB hb10 o0 o7
                      simp only [Act.put, List.setIfInBounds_toArray, List.set_cons_succ, List.set_cons_zero]
                      have hh := sound_any _ hB.l oks
                      have HB : Hid _ := hB
                      clear hB
                      go_wp2_with fail
                      refine hh.mono ?_
                      rintro e11 u11 ⟨rfl, hbs⟩
                      have hB := HB.out.more hbs
                      clear hh HB hbs
                      have HE : Hid _ := (show SL hl W _ from ⟨_, hB.l, oks, hB.q⟩)
                      clear hB
                      go_wp2_with fail
                      go_roundw
                      case rel => exact ⟨k + 1, by omega, by go_num, HE.out⟩
                      case measure => simp [intOf]; omega
                    · as_aux_lemma =>
                        have f6 : (kind == 6) = false := by simpa using h6
                        have f7 : (kind == 7) = false := by simpa using h7
                        have f10 : (kind == 10) = false := by simpa using h10
                        have b1 : 0 ≤ s.all ∧ s.all ≤ 1099511627776 := by rw [HALL.out]; have := hok.d0; have := hok.u0; have := hok.h0; have := hok.sum; have := hok.c2; omega
                        have b2 : 0 ≤ s2.all ∧ s2.all ≤ 1099511627776 := by have e : s2.all = s2.d + s2.u + s2.h := rfl; rw [e]; have := oks.d0; have := oks.u0; have := oks.h0; have := oks.sum; have := oks.c2; omega
                        have hdn := s.dn hok kind a c h6 h7 h10 HZ.out
                        rw [HS2.out] at hdn
                        have hsum : s2.all = s.all := hdn.1
                        have cc : s2.c = s.c := hdn.2.1
                        have cn : s2.n = s.n := hdn.2.2
                        have n10 : (kind != 10) = true := by simpa using h10
                        have q1 : IntKind.i64.wrap s.all = s.all := by rw [← hsum, IntKind.wrap_i64]; omega
                        have o0 := hB.o0
                        have o1 := hB.o1
                        have o2 := hB.o2
                        have o3 := hB.o3
                        have hh := sum_any _ hB.l oks
                        rw [hsum] at hh
                        have HB : Hid _ := hB
                        clear hB hsum h6 h7 h10 hdn b1 b2
                        have gc : (s2.c != s.c) = false := by simp [cc]
                        have gn : (s2.n != s.n) = false := by simp [cn]
                        clear cc cn
                        go_wp2_with fail
                        refine hh.mono ?_
                        rintro e10 v7 ⟨rfl, hb10⟩
                        have hB := HB.out.more hb10
                        clear hh HB hb10 o0 o1 o2 o3
                        have o0 := hB.o0
                        have o1 := hB.o1
                        have o2 := hB.o2
                        have o3 := hB.o3
                        have hh := sound_any _ hB.l oks
                        have HB : Hid _ := hB
                        clear hB
                        go_wp2_with fail
                        refine hh.mono ?_
                        rintro e11 u11 ⟨rfl, hbs⟩
                        have hB := HB.out.more hbs
                        clear hh HB o0 o1 o2 o3 hbs
                        have HE : Hid _ := (show SL hl W _ from ⟨_, hB.l, oks, hB.q⟩)
                        clear hB
                        go_wp2_with fail
                        go_roundw
                        case rel => exact ⟨k + 1, by omega, by go_num, HE.out⟩
                        case measure => simp [intOf]; omega
              · as_aux_lemma =>
                  have hse := s.dnext_err kind a c hz
                  rw [hse] at hh
                  have gz : (s.dcode kind a c != 0) = true := by simpa using hz
                  generalize s.dcode kind a c = ec at *
                  clear hse hz
                  go_wp2_with fail
                  refine hh.mono ?_
                  rintro e8 v5 ⟨rfl, hBa, hTa⟩
                  have hB := HB.out.step hBa hTa
                  clear hh HB hBa hTa o0 o1 o2 o3
                  have hh := cap_any _ hB.l
                  have HB : Hid _ := hB
                  clear hB
                  go_wp2_with fail
                  refine hh.mono ?_
                  rintro e9 v6 ⟨rfl, q6, rfl⟩
                  have hB := HB.out.drewN q6
                  clear hh HB  
                  generalize v5.drewN q6 = v6 at *
                  have HB : Hid _ := hB
                  clear hB
                  go_wp2_with fail
                  rename_i K hK
                  try rw [show ∀ a : Act, a.put none undef = a from fun _ => rfl]
                  have hX : SB S W.heap.size hl ob wb s kind who a c s.d s.u W ({ v6 with drawn := v6.drawn + 1 } : World) := HB.out.drew
                  refine wp_region_mix (fun wr => Blk wr ob #[.int .i64 kind, .int .i64 who, .int .i64 a, .int .i64 c] 45 ∧ Blk wr wb #[.int .i64 s.d, .int .i64 s.u] 29) (fun i => i == 1 || i == 3 || i == 7 || i == 21) 21 (by kernel_rfl) rfl (by kernel_rfl) (by kernel_rfl) (by kernel_rfl) ?_
                  generalize ({ v6 with drawn := v6.drawn + 1 } : World) = X at *
                  have hC0 : Blk X ob #[.int .i64 kind, .int .i64 who, .int .i64 a, .int .i64 c] 45 ∧ Blk X wb #[.int .i64 s.d, .int .i64 s.u] 29 := ⟨hX.o, hX.x⟩
                  refine withFrP (N := 232) rfl ?_
                  intro f0 F0 hff
                  have hs6 : f0 6 = Value.pointer (some ⟨hl, 0, none⟩) := hff 6
                  have hs10 : f0 10 = Value.pointer (some ⟨wb, 0, none⟩) := hff 10
                  have hs11 : f0 11 = Value.int .i64 s.h := hff 11
                  have hs12 : f0 12 = Value.int .i64 s.c := hff 12
                  have hs13 : f0 13 = Value.int .i64 s.n := hff 13
                  have hs20 : f0 20 = Value.int .i64 s.c := hff 20
                  have hs21 : f0 21 = Value.int .i64 s.n := hff 21
                  clear hff
                  refine lyp F0 rfl hC0 rfl (by omega) (wanted_none rfl) (v := Value.pointer (some ⟨hl, 0, none⟩)) (fun wr hwr => by simp only [execOp, (F0.eval 6 (by omega)).trans (show _ = Value.pointer (some ⟨hl, 0, none⟩) from by simp [upd, hs6, hs10, hs11, hs12, hs13, hs20, hs21])]; first | rfl | simp [go_sem]) fun Fp1 => ?_
                  have hi1 := rights_any _ hX.l
                  refine lcp Fp1 rfl hC0 rfl (by omega) (wanted_none rfl) (g := 16) (args := #[Value.pointer (some ⟨hl, 0, none⟩)]) (by simp only [execOp, resolve, invoke, List.map_toArray, List.map_cons, List.map_nil, (Fp1.eval 165 (by omega)).trans (show _ = Value.pointer (some ⟨hl, 0, none⟩) from by simp [upd, hs6, hs10, hs11, hs12, hs13, hs20, hs21])]; simp [go_sem, Act.eval]) hi1 ?_
                  rintro ex1 vp1 ⟨rfl, hb1⟩
                  refine ⟨_, rfl, fun Fp2 => ?_⟩
                  have hY1 := hX.more hb1
                  have hC1 : Blk _ ob #[.int .i64 kind, .int .i64 who, .int .i64 a, .int .i64 c] 45 ∧ Blk _ wb #[.int .i64 s.d, .int .i64 s.u] 29 := ⟨hY1.o, hY1.x⟩
                  refine lyp Fp2 rfl hC1 rfl (by omega) (wanted_none rfl) (v := Value.agg #[.int .i64 s.d, .int .i64 s.u]) (fun wr hwr => by simp only [execOp, (Fp2.eval 10 (by omega)).trans (show _ = Value.pointer (some ⟨wb, 0, none⟩) from by simp [upd, hs6, hs10, hs11, hs12, hs13, hs20, hs21])]; simp [go_sem, x0_of hwr.2, x1_of hwr.2]) fun Fp3 => ?_
                  refine lcp Fp3 rfl hC1 rfl (by omega) (wanted_none rfl) (g := 15) (args := #[Value.agg #[.int .i64 s.d, .int .i64 s.u], Value.agg #[.int .i64 s.d, .int .i64 s.u]]) (by simp only [execOp, resolve, invoke, List.map_toArray, List.map_cons, List.map_nil, (Fp3.eval 166 (by omega)).trans (show _ = Value.agg #[.int .i64 s.d, .int .i64 s.u] from by simp [upd, hs6, hs10, hs11, hs12, hs13, hs20, hs21]), (Fp3.eval 167 (by omega)).trans (show _ = Value.agg #[.int .i64 s.d, .int .i64 s.u] from by simp [upd, hs6, hs10, hs11, hs12, hs13, hs20, hs21])]; simp [go_sem, Act.eval]) (same_yes s.d s.u _) ?_
                  rintro ex2 vp2 ⟨rfl, hb2⟩
                  refine ⟨_, rfl, fun Fp4 => ?_⟩
                  have hY2 := hY1.more hb2
                  have hC2 : Blk _ ob #[.int .i64 kind, .int .i64 who, .int .i64 a, .int .i64 c] 45 ∧ Blk _ wb #[.int .i64 s.d, .int .i64 s.u] 29 := ⟨hY2.o, hY2.x⟩
                  refine lyp Fp4 rfl hC2 rfl (by omega) (wanted_none rfl) (v := Value.bool false) (fun wr hwr => by simp only [execOp, (Fp4.eval 168 (by omega)).trans (show _ = Value.bool true from by simp [upd, hs6, hs10, hs11, hs12, hs13, hs20, hs21])]; simp [go_sem, Act.eval]) fun Fp5 => ?_
                  refine lyp Fp5 rfl hC2 rfl (by omega) (wanted_none rfl) (v := Value.bool false) (fun wr hwr => by simp only [execOp, (Fp5.eval 169 (by omega)).trans (show _ = Value.bool false from by simp [upd, hs6, hs10, hs11, hs12, hs13, hs20, hs21])]; first | rfl | simp [go_sem]) fun Fp6 => ?_
                  refine lyp Fp6 rfl hC2 rfl (by omega) (want_yes Fp6 rfl (e := 170) rfl (by omega) (show _ = Value.bool false from by simp [upd, hs6, hs10, hs11, hs12, hs13, hs20, hs21])) (v := Value.pointer (some ⟨hl, 0, none⟩)) (fun wr hwr => by simp only [execOp, (Fp6.eval 6 (by omega)).trans (show _ = Value.pointer (some ⟨hl, 0, none⟩) from by simp [upd, hs6, hs10, hs11, hs12, hs13, hs20, hs21])]; first | rfl | simp [go_sem]) fun Fp7 => ?_
                  have hi3 := held_any _ hY2.l
                  refine lcp Fp7 rfl hC2 rfl (by omega) (want_yes Fp7 rfl (e := 170) rfl (by omega) (show _ = Value.bool false from by simp [upd, hs6, hs10, hs11, hs12, hs13, hs20, hs21])) (g := 18) (args := #[Value.pointer (some ⟨hl, 0, none⟩)]) (by simp only [execOp, resolve, invoke, List.map_toArray, List.map_cons, List.map_nil, (Fp7.eval 171 (by omega)).trans (show _ = Value.pointer (some ⟨hl, 0, none⟩) from by simp [upd, hs6, hs10, hs11, hs12, hs13, hs20, hs21])]; simp [go_sem, Act.eval]) hi3 ?_
                  rintro ex3 vp3 ⟨rfl, rfl⟩
                  refine ⟨_, rfl, fun Fp8 => ?_⟩
                  have hY3 := hY2
                  have hC3 : Blk _ ob #[.int .i64 kind, .int .i64 who, .int .i64 a, .int .i64 c] 45 ∧ Blk _ wb #[.int .i64 s.d, .int .i64 s.u] 29 := ⟨hY3.o, hY3.x⟩
                  refine lyp Fp8 rfl hC3 rfl (by omega) (want_yes Fp8 rfl (e := 170) rfl (by omega) (show _ = Value.bool false from by simp [upd, hs6, hs10, hs11, hs12, hs13, hs20, hs21])) (v := Value.int .i64 s.h) (fun wr hwr => by simp only [execOp, (Fp8.eval 11 (by omega)).trans (show _ = Value.int .i64 s.h from by simp [upd, hs6, hs10, hs11, hs12, hs13, hs20, hs21])]; first | rfl | simp [go_sem]) fun Fp9 => ?_
                  refine lyp Fp9 rfl hC3 rfl (by omega) (want_yes Fp9 rfl (e := 170) rfl (by omega) (show _ = Value.bool false from by simp [upd, hs6, hs10, hs11, hs12, hs13, hs20, hs21])) (v := Value.bool false) (fun wr hwr => by simp only [execOp, (Fp9.eval 172 (by omega)).trans (show _ = Value.int .i64 s.h from by simp [upd, hs6, hs10, hs11, hs12, hs13, hs20, hs21]), (Fp9.eval 173 (by omega)).trans (show _ = Value.int .i64 s.h from by simp [upd, hs6, hs10, hs11, hs12, hs13, hs20, hs21])]; simp [go_sem, Act.eval]) fun Fp10 => ?_
                  refine lyp Fp10 rfl hC3 rfl (by omega) (wanted_none rfl) (v := Value.bool false) (fun wr hwr => by simp only [execOp, (Fp10.eval 170 (by omega)).trans (show _ = Value.bool false from by simp [upd, hs6, hs10, hs11, hs12, hs13, hs20, hs21]), (Fp10.eval 174 (by omega)).trans (show _ = Value.bool false from by simp [upd, hs6, hs10, hs11, hs12, hs13, hs20, hs21])]; simp [go_sem, Act.eval]) fun Fp11 => ?_
                  refine lyp Fp11 rfl hC3 rfl (by omega) (wanted_none rfl) (v := Value.bool false) (fun wr hwr => by simp only [execOp, (Fp11.eval 175 (by omega)).trans (show _ = Value.bool false from by simp [upd, hs6, hs10, hs11, hs12, hs13, hs20, hs21])]; first | rfl | simp [go_sem]) fun Fp12 => ?_
                  refine lyp Fp12 rfl hC3 rfl (by omega) (want_yes Fp12 rfl (e := 176) rfl (by omega) (show _ = Value.bool false from by simp [upd, hs6, hs10, hs11, hs12, hs13, hs20, hs21])) (v := Value.int .i64 s.c) (fun wr hwr => by simp only [execOp, (Fp12.eval 20 (by omega)).trans (show _ = Value.int .i64 s.c from by simp [upd, hs6, hs10, hs11, hs12, hs13, hs20, hs21])]; first | rfl | simp [go_sem]) fun Fp13 => ?_
                  refine lyp Fp13 rfl hC3 rfl (by omega) (want_yes Fp13 rfl (e := 176) rfl (by omega) (show _ = Value.bool false from by simp [upd, hs6, hs10, hs11, hs12, hs13, hs20, hs21])) (v := Value.int .i64 s.c) (fun wr hwr => by simp only [execOp, (Fp13.eval 12 (by omega)).trans (show _ = Value.int .i64 s.c from by simp [upd, hs6, hs10, hs11, hs12, hs13, hs20, hs21])]; first | rfl | simp [go_sem]) fun Fp14 => ?_
                  refine lyp Fp14 rfl hC3 rfl (by omega) (want_yes Fp14 rfl (e := 176) rfl (by omega) (show _ = Value.bool false from by simp [upd, hs6, hs10, hs11, hs12, hs13, hs20, hs21])) (v := Value.bool false) (fun wr hwr => by simp only [execOp, (Fp14.eval 177 (by omega)).trans (show _ = Value.int .i64 s.c from by simp [upd, hs6, hs10, hs11, hs12, hs13, hs20, hs21]), (Fp14.eval 178 (by omega)).trans (show _ = Value.int .i64 s.c from by simp [upd, hs6, hs10, hs11, hs12, hs13, hs20, hs21])]; simp [go_sem, Act.eval]) fun Fp15 => ?_
                  refine lyp Fp15 rfl hC3 rfl (by omega) (wanted_none rfl) (v := Value.bool false) (fun wr hwr => by simp only [execOp, (Fp15.eval 176 (by omega)).trans (show _ = Value.bool false from by simp [upd, hs6, hs10, hs11, hs12, hs13, hs20, hs21]), (Fp15.eval 179 (by omega)).trans (show _ = Value.bool false from by simp [upd, hs6, hs10, hs11, hs12, hs13, hs20, hs21])]; simp [go_sem, Act.eval]) fun Fp16 => ?_
                  refine lyp Fp16 rfl hC3 rfl (by omega) (wanted_none rfl) (v := Value.bool false) (fun wr hwr => by simp only [execOp, (Fp16.eval 180 (by omega)).trans (show _ = Value.bool false from by simp [upd, hs6, hs10, hs11, hs12, hs13, hs20, hs21])]; first | rfl | simp [go_sem]) fun Fp17 => ?_
                  refine lyp Fp17 rfl hC3 rfl (by omega) (want_yes Fp17 rfl (e := 181) rfl (by omega) (show _ = Value.bool false from by simp [upd, hs6, hs10, hs11, hs12, hs13, hs20, hs21])) (v := Value.int .i64 s.n) (fun wr hwr => by simp only [execOp, (Fp17.eval 21 (by omega)).trans (show _ = Value.int .i64 s.n from by simp [upd, hs6, hs10, hs11, hs12, hs13, hs20, hs21])]; first | rfl | simp [go_sem]) fun Fp18 => ?_
                  refine lyp Fp18 rfl hC3 rfl (by omega) (want_yes Fp18 rfl (e := 181) rfl (by omega) (show _ = Value.bool false from by simp [upd, hs6, hs10, hs11, hs12, hs13, hs20, hs21])) (v := Value.int .i64 s.n) (fun wr hwr => by simp only [execOp, (Fp18.eval 13 (by omega)).trans (show _ = Value.int .i64 s.n from by simp [upd, hs6, hs10, hs11, hs12, hs13, hs20, hs21])]; first | rfl | simp [go_sem]) fun Fp19 => ?_
                  refine lyp Fp19 rfl hC3 rfl (by omega) (want_yes Fp19 rfl (e := 181) rfl (by omega) (show _ = Value.bool false from by simp [upd, hs6, hs10, hs11, hs12, hs13, hs20, hs21])) (v := Value.bool false) (fun wr hwr => by simp only [execOp, (Fp19.eval 182 (by omega)).trans (show _ = Value.int .i64 s.n from by simp [upd, hs6, hs10, hs11, hs12, hs13, hs20, hs21]), (Fp19.eval 183 (by omega)).trans (show _ = Value.int .i64 s.n from by simp [upd, hs6, hs10, hs11, hs12, hs13, hs20, hs21])]; simp [go_sem, Act.eval]) fun Fp20 => ?_
                  refine lyp Fp20 rfl hC3 rfl (by omega) (wanted_none rfl) (v := Value.bool false) (fun wr hwr => by simp only [execOp, (Fp20.eval 181 (by omega)).trans (show _ = Value.bool false from by simp [upd, hs6, hs10, hs11, hs12, hs13, hs20, hs21]), (Fp20.eval 184 (by omega)).trans (show _ = Value.bool false from by simp [upd, hs6, hs10, hs11, hs12, hs13, hs20, hs21])]; simp [go_sem, Act.eval]) fun Fp21 => ?_
                  refine ⟨fun _ => hC3, ?_⟩
                  refine hK _ _ ?_
                  clear F0 Fp1 Fp2 Fp3 Fp4 Fp5 Fp6 Fp7 Fp8 Fp9 Fp10 Fp11 Fp12 Fp13 Fp14 Fp15 Fp16 Fp17 Fp18 Fp19 Fp20 Fp21 hs6 hs10 hs11 hs12 hs13 hs20 hs21 hK hC0 hC1 hC2 hC3
                  simp only [Act.put, List.setIfInBounds_toArray, List.set_cons_succ, List.set_cons_zero]
                  have hB := hY3
                  clear HB hX hY1 hY2 hY3
                  have HE : Hid _ := (show SL hl W _ from ⟨_, hB.l, hok, hB.q⟩)
                  clear hB
                  go_wp2_with fail
                  go_roundw
                  case rel => exact ⟨k + 1, by omega, by go_num, HE.out⟩
                  case measure => simp [intOf]; omega
            · have g8 : (kind == 8) = false := by simpa using h8
              have g11 : (kind == 11) = false := by simpa using h11
              by_cases hr1 : kind < 1
              · as_aux_lemma =>
                  have o0 := hB.o0
                  have o1 := hB.o1
                  have o2 := hB.o2
                  have o3 := hB.o3
                  have hh := sound_any _ hB.l hok
                  have HB : Hid _ := hB
                  clear hB h8 h11 hdo
                  go_wp2_with fail
                  refine hh.mono ?_
                  rintro e11 u11 ⟨rfl, hbs⟩
                  have hB := HB.out.more hbs
                  clear hh HB o0 o1 o2 o3 hbs
                  have HE : Hid _ := (show SL hl W _ from ⟨_, hB.l, hok, hB.q⟩)
                  clear hB
                  go_wp2_with fail
                  go_roundw
                  case rel => exact ⟨k + 1, by omega, by go_num, HE.out⟩
                  case measure => simp [intOf]; omega
              · as_aux_lemma =>
                  have hr2 : 10 < kind := by omega
                  have o0 := hB.o0
                  have o1 := hB.o1
                  have o2 := hB.o2
                  have o3 := hB.o3
                  have hh := sound_any _ hB.l hok
                  have HB : Hid _ := hB
                  clear hB h8 h11 hdo
                  go_wp2_with fail
                  refine hh.mono ?_
                  rintro e11 u11 ⟨rfl, hbs⟩
                  have hB := HB.out.more hbs
                  clear hh HB o0 o1 o2 o3 hbs
                  have HE : Hid _ := (show SL hl W _ from ⟨_, hB.l, hok, hB.q⟩)
                  clear hB
                  go_wp2_with fail
                  go_roundw
                  case rel => exact ⟨k + 1, by omega, by go_num, HE.out⟩
                  case measure => simp [intOf]; omega
      · obtain ⟨s, _, _, hq⟩ := hR
        have HE : Hid _ := hq
        clear hq
        go_wp2_with fail
        go_ret
        exact ⟨rfl, HE.out⟩
    · obtain ⟨s, _, _, hq⟩ := hR
      have HE : Hid _ := hq
      clear hq
      go_wp2_with fail
      go_ret
      exact ⟨rfl, HE.out⟩
end Go.Proofs.YtgnkkpcklljffaaDoor
