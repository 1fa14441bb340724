import Derived.Test.YtjmbhaoehfdpoaaDoorT1
namespace Go.Proofs.YtjmbhaoehfdpoaaDoor
open Go.RowKit Go.PlainAid Go.MapKept
set_option linter.unusedVariables false
set_option linter.unusedSimpArgs false
theorem PS.box36 {L0 : Nat} {i : PIx} {gv0 vv0 : Value} {w0 : World} {ver : Nat} {L : GL} {A : List RE} {gv : Value} {s s' : Led.LS} {VL VA : List Ent} {vv : Value} {w w' : World} {bx : Nat} {C : Array Value} (h : PS L0 i gv0 vv0 w0 ver L A gv s s' VL VA vv w) (hB : Blk w bx C 36) (hl : w0.heap.size ≤ bx) (hc : Chg (fun k => k = bx) w w') : PS L0 i gv0 vv0 w0 ver L A gv s s' VL VA vv w' :=
  ⟨hc.blk h.box (fun e => Blk.ne_t h.box hB (by decide) e),
   ⟨hc.blk h.gs.blk (fun e => Blk.ne_t h.gs.blk hB (by decide) e), h.gs.map.same (hc.block _ h.gs.map.lt (fun e => h.gs.map.ne_b hB e.symm))⟩,
   h.rg.keep (hc.block _ h.rg.blk.lt (fun e => Blk.ne_t h.rg.blk hB (by decide) e)) (fun g hg => hc.block _ (ownsRow_lt h.rg.row hg).2 (fun e => by obtain ⟨c1, k1⟩ := ownsRow_type h.rg.row hg; exact Blk.ne_t (show Blk w g c1 99 from k1) hB (by decide) e)),
   hc.blk h.ld (fun e => Blk.ne_t h.ld hB (by decide) e),
   hc.blk h.rl (fun e => Blk.ne_t h.rl hB (by decide) e),
   ⟨hc.blk h.vw.blk (fun e => Blk.ne_t h.vw.blk hB (by decide) e), h.vw.map.same (hc.block _ h.vw.map.lt (fun e => h.vw.map.ne_b hB e.symm))⟩,
   h.rv.keep (hc.block _ h.rv.blk.lt (fun e => Blk.ne_t h.rv.blk hB (by decide) e)) (fun g hg => hc.block _ (ownsRow_lt h.rv.row hg).2 (fun e => by obtain ⟨c1, k1⟩ := ownsRow_type h.rv.row hg; exact Blk.ne_t (show Blk w g c1 130 from k1) hB (by decide) e)),
   h.ne, h.chg.trans hc (fun j hj e => absurd hj (by omega)), h.ga, h.va⟩
set_option maxRecDepth 100000 in
set_option maxHeartbeats 6400000 in
theorem ticks_any {L0 M : Nat} {i : PIx} {x : PVl} (n : List UInt8) (w : World) (h : PI L0 M i x w) (hM : M ≤ 300) (hc : newCode i.me i.N = 0) :
    Calls Tryd.prog 30 #[.pointer (some ⟨i.pb, 0, none⟩), .string ⟨n.toArray⟩] w fun e w' => e = .returned (.bool true) ∧ ∃ x', PI L0 M i x' w' ∧ PNew i x.gv x.vv x'.gv x'.vv w w' := by
  have hnc : ¬ (i.N : Int) < 2 ∧ ¬ 16 < (i.N : Int) ∧ ¬ i.me < 0 ∧ ¬ (i.N : Int) ≤ i.me := by
    unfold newCode at hc
    split at hc
    · cases hc
    · split at hc
      · cases hc
      · omega
  have hN : i.N ≤ 16 := by omega
  have hme : IntKind.i64.wrap i.me = i.me := by rw [IntKind.wrap_i64]; omega
  have hgl := h.gl
  have hal := h.al
  obtain ⟨o1, o2, o3, o4, o5, o6⟩ := h.ok
  have hok := h.lo' n
  unfold okR at hok
  have w1 : IntKind.i64.wrap ((lk n x.L).1 - x.s.d) = (lk n x.L).1 - x.s.d := by rw [IntKind.wrap_i64]; omega
  have w2 : IntKind.i64.wrap ((lk n x.L).2 - x.s.u) = (lk n x.L).2 - x.s.u := by rw [IntKind.wrap_i64]; omega
  have hkn := h.ag.known n i.N
  have hab := h.ag.about n i.N
  have hd : ∀ e ∈ x.VL, 0 ≤ e.d ∧ e.d ≤ 1099511627776 := fun e he => by have k := right_good (h.ag.rt e he); have k1 := k.d; have k2 := k.u; have k3 := k.h; have k4 := k.s; have k5 := k.c; omega
  have hld : ∀ k : Int, 0 ≤ (lastD k n x.VA).d ∧ (lastD k n x.VA).d ≤ 1099511627776 := fun k => by
    rw [← h.ag.d k n]
    unfold lookD
    cases hq : look k n x.VL with
    | none => simp [zed]
    | some e => exact hd e (look_key hq).1
  obtain ⟨T1, T2, T3, T4, hT⟩ : ∃ T1 T2 T3 T4, tickA i.me (knownL n x.VL i.N) i.N (byd (lk n x.L).1 x.s.d) (byd (lk n x.L).2 x.s.u) = (T1, T2, T3, T4) := ⟨_, _, _, _, rfl⟩
  obtain ⟨L1, hL1⟩ : ∃ L1, L1 = (tickR i.me n x.L (knownL n x.VL i.N) i.N (byd (lk n x.L).1 x.s.d) (byd (lk n x.L).2 x.s.u)).2 := ⟨_, rfl⟩
  obtain ⟨A1, hA1⟩ : ∃ A1, A1 = rtickN i.me n x.A (knownL n x.VL i.N) i.N (byd (lk n x.L).1 x.s.d) (byd (lk n x.L).2 x.s.u) := ⟨_, rfl⟩
  obtain ⟨S1, hS1⟩ : ∃ S1, S1 = aboutS n x.VL i.N := ⟨_, rfl⟩
  obtain ⟨S2, hS2⟩ : ∃ S2, S2 = aboutK n x.VL i.N := ⟨_, rfl⟩
  have HTI : Hid (∀ W, PS L0 i x.gv x.vv w x.ver x.L x.A x.gv x.s x.s x.VL x.VA x.vv W → Calls Tryd.prog 13 #[.pointer (some ⟨i.gb, 0, none⟩), .string ⟨n.toArray⟩, .pointer (some ⟨i.lb, 0, none⟩), .pointer (some ⟨i.hb, 0, none⟩)] W fun e w' => e = .returned (.tuple #[.int .i64 T1, .agg #[.int .i64 T2, .int .i64 T3], .bool T4]) ∧ PS L0 i x.gv x.vv w x.ver L1 x.A x.gv x.s x.s x.VL x.VA x.vv w' ∧ (∀ b C, Blk W b C 36 → Blk w' b C 36) ∧ W.heap.size ≤ w'.heap.size) := fun W hp => by
    refine (tick_any n W hp.gs hp.ld hp.vw hme hN w1 w2).mono ?_
    rintro e w' ⟨rfl, hg, hcc⟩
    refine ⟨by rw [tickR_fst, hT]; rfl, hp.setG (by rw [hL1]; exact hg) hcc, (fun b C hb => hcc.blk hb (hp.gs.map.ne_b hb)), hcc.size⟩
  have HTR : Hid (∀ W, PS L0 i x.gv x.vv w x.ver L1 x.A x.gv x.s x.s x.VL x.VA x.vv W → Calls Tryd.prog 44 #[.pointer (some ⟨i.qb, 0, none⟩), .string ⟨n.toArray⟩, .pointer (some ⟨i.kb, 0, none⟩), .pointer (some ⟨i.rb, 0, none⟩)] W fun e w' => e = .returned (.tuple #[.int .i64 T1, .agg #[.int .i64 T2, .int .i64 T3], .bool T4]) ∧ PS L0 i x.gv x.vv w x.ver L1 A1 x.gv x.s x.s x.VL x.VA x.vv w' ∧ (∀ b C, Blk W b C 36 → Blk w' b C 36) ∧ W.heap.size ≤ w'.heap.size) := fun W hp => by
    refine (rtick_any n W hp.rg hp.rl hp.rv hme hN (by omega) (by omega) (by rw [← h.lg]; exact w1) (by rw [← h.lg]; exact w2)).mono ?_
    rintro e w' ⟨rfl, hg, hcc⟩
    rw [← hkn, ← h.lg] at hg ⊢
    refine ⟨by rw [hT]; rfl, hp.setR1 (by rw [hA1]; exact hg) (fun g hg => Or.inl hg) (hcc.mono (fun k _ e => Or.inr e)), (fun b C hb => hcc.blk hb (fun e => hp.rg.own_ne hb (by decide) e)), hcc.size⟩
  have HAB : Hid (∀ W, PS L0 i x.gv x.vv w x.ver L1 A1 x.gv x.s x.s x.VL x.VA x.vv W → Calls Tryd.prog 45 #[.pointer (some ⟨i.hb, 0, none⟩), .string ⟨n.toArray⟩] W fun e w' => e = .returned (.tuple #[.int .i64 S1, .bool S2]) ∧ Below W.heap.size W w') := fun W hp => by rw [hS1, hS2]; exact about_any n W hp.vw hN hd
  have HRA : Hid (∀ W, PS L0 i x.gv x.vv w x.ver L1 A1 x.gv x.s x.s x.VL x.VA x.vv W → Calls Tryd.prog 46 #[.pointer (some ⟨i.rb, 0, none⟩), .string ⟨n.toArray⟩] W fun e w' => e = .returned (.tuple #[.int .i64 S1, .bool S2]) ∧ Below W.heap.size W w') := fun W hp => by rw [hS1, hS2, hab.1, hab.2]; exact rabout_any n W hp.rv hN (by omega) hld
  have HSM : Hid (∀ a b W, Calls Tryd.prog 15 #[.agg #[.int .i64 a, .int .i64 b], .agg #[.int .i64 a, .int .i64 b]] W fun r w' => r = .returned (.bool true) ∧ Below W.heap.size W w') := fun a b W => by
    have := Led.same_any a b a b W
    simpa using this
  have HFIN : Hid (∀ W, PS L0 i x.gv x.vv w x.ver L1 A1 x.gv x.s x.s x.VL x.VA x.vv W → ∃ x', PI L0 M i x' W ∧ PNew i x.gv x.vv x'.gv x'.vv w W) := fun W hp => by
    refine ⟨⟨x.ver, L1, A1, x.gv, x.s, x.VL, x.VA, x.vv⟩, ⟨hp.box, hp.gs, hp.rg, hp.ld, hp.rl, h.ok, hp.vw, hp.rv, h.ag, h.al, h.ver, ?_, ?_, ?_, ?_, hp.ne, h.lo⟩, hp.new⟩
    · rw [hL1, tickR_snd]
      split
      · exact h.kd.rmK
      · exact h.kd
    · intro m
      show okR (lk m L1)
      rw [hL1, tickR_snd]
      split
      · exact clr_ok n h.kd h.lo' m
      · exact h.lo' m
    · intro m
      show lk m L1 = rlk m A1
      rw [hL1, tickR_snd, hA1]
      unfold rtickN
      split
      · exact clr_lg n h.kd h.lg m
      · exact h.lg m
    · show A1.length ≤ M
      rw [hA1, rtick_len]
      exact h.gl
  have HPw : Hid (PS L0 i x.gv x.vv w x.ver x.L x.A x.gv x.s x.s x.VL x.VA x.vv w) := h.ps
  clear h hM hc hnc hN hme hgl hal o1 o2 o3 o4 o5 o6 hok w1 w2 hkn hab hd hld hT hL1 hA1 hS1 hS2
  go_enter Tryd.func30, Tryd.ntmps30
  go_wp2_with fail
  rename_i K hK
  try rw [show ∀ a : Act, a.put none undef = a from fun _ => rfl]
  have hrest1 : ∀ (a : Act) (f' : Nat → Value) (Y1 : World) (bx : Nat), Fr 105 a f' → f' 0 = Value.pointer (some ⟨i.pb, 0, none⟩) → f' 1 = Value.string ⟨n.toArray⟩ → f' 5 = Value.int .i64 T1 → f' 6 = Value.pointer (some ⟨bx, 0, none⟩) → f' 7 = Value.bool T4 → Blk Y1 bx #[.int .i64 T2, .int .i64 T3] 36 → PS L0 i x.gv x.vv w x.ver L1 x.A x.gv x.s x.s x.VL x.VA x.vv Y1 → K a Y1 := by
    intro a f' Y1 bx F' k0 k1 k5 k6 k7 hBx hPx
    refine hK _ _ ?_
    rw [F'.lit, show ((List.range 105).map f').toArray = #[f' 0, f' 1, f' 2, f' 3, f' 4, f' 5, f' 6, f' 7, f' 8, f' 9, f' 10, f' 11, f' 12, f' 13, f' 14, f' 15, f' 16, f' 17, f' 18, f' 19, f' 20, f' 21, f' 22, f' 23, f' 24, f' 25, f' 26, f' 27, f' 28, f' 29, f' 30, f' 31, f' 32, f' 33, f' 34, f' 35, f' 36, f' 37, f' 38, f' 39, f' 40, f' 41, f' 42, f' 43, f' 44, f' 45, f' 46, f' 47, f' 48, f' 49, f' 50, f' 51, f' 52, f' 53, f' 54, f' 55, f' 56, f' 57, f' 58, f' 59, f' 60, f' 61, f' 62, f' 63, f' 64, f' 65, f' 66, f' 67, f' 68, f' 69, f' 70, f' 71, f' 72, f' 73, f' 74, f' 75, f' 76, f' 77, f' 78, f' 79, f' 80, f' 81, f' 82, f' 83, f' 84, f' 85, f' 86, f' 87, f' 88, f' 89, f' 90, f' 91, f' 92, f' 93, f' 94, f' 95, f' 96, f' 97, f' 98, f' 99, f' 100, f' 101, f' 102, f' 103, f' 104] from rfl, k0, k1, k5, k6, k7]
    have HBX : Hid (Blk Y1 bx #[.int .i64 T2, .int .i64 T3] 36) := hBx
    have HPY1 : Hid (PS L0 i x.gv x.vv w x.ver L1 x.A x.gv x.s x.s x.VL x.VA x.vv Y1) := hPx
    clear hK F' k0 k1 k5 k6 k7 hBx hPx
    go_wp2_with fail
    rename_i K hK
    try rw [show ∀ a : Act, a.put none undef = a from fun _ => rfl]
    have hrest2 : ∀ (a : Act) (g' : Nat → Value) (Y2 : World) (cx : Nat), Fr 105 a g' → g' 0 = Value.pointer (some ⟨i.pb, 0, none⟩) → g' 1 = Value.string ⟨n.toArray⟩ → g' 5 = Value.int .i64 T1 → g' 6 = Value.pointer (some ⟨bx, 0, none⟩) → g' 7 = Value.bool T4 → g' 8 = Value.int .i64 T1 → g' 9 = Value.pointer (some ⟨cx, 0, none⟩) → g' 10 = Value.bool T4 → Blk Y2 cx #[.int .i64 T2, .int .i64 T3] 36 → PS L0 i x.gv x.vv w x.ver L1 A1 x.gv x.s x.s x.VL x.VA x.vv Y2 → Blk Y2 bx #[.int .i64 T2, .int .i64 T3] 36 → K a Y2 := by
      intro a g' Y2 cx F' k0 k1 k5 k6 k7 k8 k9 k10 hCx hPx hBx
      refine hK _ _ ?_
      rw [F'.lit, show ((List.range 105).map g').toArray = #[g' 0, g' 1, g' 2, g' 3, g' 4, g' 5, g' 6, g' 7, g' 8, g' 9, g' 10, g' 11, g' 12, g' 13, g' 14, g' 15, g' 16, g' 17, g' 18, g' 19, g' 20, g' 21, g' 22, g' 23, g' 24, g' 25, g' 26, g' 27, g' 28, g' 29, g' 30, g' 31, g' 32, g' 33, g' 34, g' 35, g' 36, g' 37, g' 38, g' 39, g' 40, g' 41, g' 42, g' 43, g' 44, g' 45, g' 46, g' 47, g' 48, g' 49, g' 50, g' 51, g' 52, g' 53, g' 54, g' 55, g' 56, g' 57, g' 58, g' 59, g' 60, g' 61, g' 62, g' 63, g' 64, g' 65, g' 66, g' 67, g' 68, g' 69, g' 70, g' 71, g' 72, g' 73, g' 74, g' 75, g' 76, g' 77, g' 78, g' 79, g' 80, g' 81, g' 82, g' 83, g' 84, g' 85, g' 86, g' 87, g' 88, g' 89, g' 90, g' 91, g' 92, g' 93, g' 94, g' 95, g' 96, g' 97, g' 98, g' 99, g' 100, g' 101, g' 102, g' 103, g' 104] from rfl, k0, k1, k5, k6, k7, k8, k9, k10]
      have HC2 : Hid (Blk Y2 cx #[.int .i64 T2, .int .i64 T3] 36) := hCx
      have HB2 : Hid (Blk Y2 bx #[.int .i64 T2, .int .i64 T3] 36) := hBx
      have HP2 : Hid (PS L0 i x.gv x.vv w x.ver L1 A1 x.gv x.s x.s x.VL x.VA x.vv Y2) := hPx
      have p5 : Y2.cell? ⟨i.pb, 5, none⟩ = some (.pointer (some ⟨i.hb, 0, none⟩)) := hPx.box.cell 5
      clear hK F' k0 k1 k5 k6 k7 k8 k9 k10 hBx hPx hCx
      go_wp2_with fail
      refine Calls.mono (HAB.out Y2 HP2.out) ?_
      rintro e9 V3 ⟨rfl, hb3⟩
      have HP3 : Hid (PS L0 i x.gv x.vv w x.ver L1 A1 x.gv x.s x.s x.VL x.VA x.vv V3) := HP2.out.more hb3
      have HB3 : Hid (Blk V3 bx #[.int .i64 T2, .int .i64 T3] 36) := HB2.out.below hb3 HB2.out.lt
      have HC3 : Hid (Blk V3 cx #[.int .i64 T2, .int .i64 T3] 36) := HC2.out.below hb3 HC2.out.lt
      have p8 : V3.cell? ⟨i.pb, 8, none⟩ = some (.pointer (some ⟨i.rb, 0, none⟩)) := HP3.out.box.cell 8
      clear hb3 HP2 HB2 HC2 p5
      go_wp2_with fail
      refine Calls.mono (HRA.out V3 HP3.out) ?_
      rintro e9 V4 ⟨rfl, hb4⟩
      have HP4 : Hid (PS L0 i x.gv x.vv w x.ver L1 A1 x.gv x.s x.s x.VL x.VA x.vv V4) := HP3.out.more hb4
      have HB4 : Hid (Blk V4 bx #[.int .i64 T2, .int .i64 T3] 36) := HB3.out.below hb4 HB3.out.lt
      have HC4 : Hid (Blk V4 cx #[.int .i64 T2, .int .i64 T3] 36) := HC3.out.below hb4 HC3.out.lt
      have HRL : Hid (∀ W, Below V4.heap.size V4 W → Calls Tryd.prog 21 #[.pointer (some ⟨i.lb, 0, none⟩)] W fun r w' => r = .returned (.agg #[.int .i64 x.s.d, .int .i64 x.s.u]) ∧ Below W.heap.size W w') := fun W hb => Led.rights_any W (HP4.out.more hb).ld
      have HRK : Hid (∀ W, Below V4.heap.size V4 W → Calls Tryd.prog 33 #[.pointer (some ⟨i.kb, 0, none⟩)] W fun r w' => r = .returned (.agg #[.int .i64 x.s.d, .int .i64 x.s.u]) ∧ Below W.heap.size W w') := fun W hb => Led.rrights_any W (HP4.out.more hb).rl
      clear hb4 HP3 HB3 HC3 p8
      go_wp2_with fail
      rename_i K hK
      try rw [show ∀ a : Act, a.put none undef = a from fun _ => rfl]
      refine wp_region_mix (fun wq => Blk wq i.pb (pbox i x.ver) 55 ∧ Blk wq bx #[.int .i64 T2, .int .i64 T3] 36 ∧ Blk wq cx #[.int .i64 T2, .int .i64 T3] 36) (fun i => i == 6 || i == 18 || i == 23 || i == 24 || i == 99) 99 (by kernel_rfl) rfl (by kernel_rfl) (by kernel_rfl) (by kernel_rfl) ?_
      refine withFrP (N := 105) rfl ?_
      intro f0 F0 hff
      have ee0 : f0 0 = Value.pointer (some ⟨i.pb, 0, none⟩) := hff 0
      have ee5 : f0 5 = Value.int .i64 T1 := hff 5
      have ee8 : f0 8 = Value.int .i64 T1 := hff 8
      have ee6 : f0 6 = Value.pointer (some ⟨bx, 0, none⟩) := hff 6
      have ee9 : f0 9 = Value.pointer (some ⟨cx, 0, none⟩) := hff 9
      have ee7 : f0 7 = Value.bool T4 := hff 7
      have ee10 : f0 10 = Value.bool T4 := hff 10
      have ee11 : f0 11 = Value.int .i64 S1 := hff 11
      have ee13 : f0 13 = Value.int .i64 S1 := hff 13
      have ee12 : f0 12 = Value.bool S2 := hff 12
      have ee14 : f0 14 = Value.bool S2 := hff 14
      clear hff
      have hbD : Below V4.heap.size V4 (({ V4 with drawn := V4.drawn + 1 } : World)) := Below.drew (Below.refl _ _)
      have HCC : (fun wq => Blk wq i.pb (pbox i x.ver) 55 ∧ Blk wq bx #[.int .i64 T2, .int .i64 T3] 36 ∧ Blk wq cx #[.int .i64 T2, .int .i64 T3] 36) (({ V4 with drawn := V4.drawn + 1 } : World)) := ⟨HP4.out.box, HB4.out, HC4.out⟩
      refine lyp F0 rfl HCC rfl (by omega) (wanted_none rfl) (v := Value.int .i64 T1) (fun wr hwr => by simp only [execOp, (F0.eval 5 (by omega)).trans (show _ = Value.int .i64 T1 from by simp [upd, ee0, ee5, ee8, ee6, ee9, ee7, ee10, ee11, ee13, ee12, ee14])]; first | rfl | simp [go_sem]) fun F1 => ?_
      refine lyp F1 rfl HCC rfl (by omega) (wanted_none rfl) (v := Value.int .i64 T1) (fun wr hwr => by simp only [execOp, (F1.eval 8 (by omega)).trans (show _ = Value.int .i64 T1 from by simp [upd, ee0, ee5, ee8, ee6, ee9, ee7, ee10, ee11, ee13, ee12, ee14])]; first | rfl | simp [go_sem]) fun F2 => ?_
      refine lyp F2 rfl HCC rfl (by omega) (wanted_none rfl) (v := Value.bool true) (fun wr hwr => by simp only [execOp, (F2.eval 69 (by omega)).trans (show _ = Value.int .i64 T1 from by simp [upd, ee0, ee5, ee8, ee6, ee9, ee7, ee10, ee11, ee13, ee12, ee14]), (F2.eval 70 (by omega)).trans (show _ = Value.int .i64 T1 from by simp [upd, ee0, ee5, ee8, ee6, ee9, ee7, ee10, ee11, ee13, ee12, ee14])]; simp [go_sem]) fun F3 => ?_
      refine lyp F3 rfl HCC rfl (by omega) (wanted_none rfl) (v := Value.bool true) (fun wr hwr => by simp only [execOp, (F3.eval 71 (by omega)).trans (show _ = Value.bool true from by simp [upd, ee0, ee5, ee8, ee6, ee9, ee7, ee10, ee11, ee13, ee12, ee14])]; first | rfl | simp [go_sem]) fun F4 => ?_
      refine lyp F4 rfl HCC rfl (by omega) (want_yes F4 rfl (e := 72) rfl (by omega) (show _ = Value.bool true from by simp [upd, ee0, ee5, ee8, ee6, ee9, ee7, ee10, ee11, ee13, ee12, ee14])) (v := Value.agg #[.int .i64 T2, .int .i64 T3]) (fun wr hwr => by simp only [execOp, (F4.eval 6 (by omega)).trans (show _ = Value.pointer (some ⟨bx, 0, none⟩) from by simp [upd, ee0, ee5, ee8, ee6, ee9, ee7, ee10, ee11, ee13, ee12, ee14])]; simp [go_sem, show wr.cell? ⟨bx, 0, none⟩ = some (.int .i64 T2) from hwr.2.1.cell 0, show wr.cell? ⟨bx, 1, none⟩ = some (.int .i64 T3) from hwr.2.1.cell 1]) fun F5 => ?_
      refine lyp F5 rfl HCC rfl (by omega) (want_yes F5 rfl (e := 72) rfl (by omega) (show _ = Value.bool true from by simp [upd, ee0, ee5, ee8, ee6, ee9, ee7, ee10, ee11, ee13, ee12, ee14])) (v := Value.agg #[.int .i64 T2, .int .i64 T3]) (fun wr hwr => by simp only [execOp, (F5.eval 9 (by omega)).trans (show _ = Value.pointer (some ⟨cx, 0, none⟩) from by simp [upd, ee0, ee5, ee8, ee6, ee9, ee7, ee10, ee11, ee13, ee12, ee14])]; simp [go_sem, show wr.cell? ⟨cx, 0, none⟩ = some (.int .i64 T2) from hwr.2.2.cell 0, show wr.cell? ⟨cx, 1, none⟩ = some (.int .i64 T3) from hwr.2.2.cell 1]) fun F6 => ?_
      refine lcp F6 rfl HCC rfl (by omega) (want_yes F6 rfl (e := 72) rfl (by omega) (show _ = Value.bool true from by simp [upd, ee0, ee5, ee8, ee6, ee9, ee7, ee10, ee11, ee13, ee12, ee14])) (g := 15) (args := #[Value.agg #[.int .i64 T2, .int .i64 T3], Value.agg #[.int .i64 T2, .int .i64 T3]]) (by simp only [execOp, resolve, invoke, List.map_toArray, List.map_cons, List.map_nil, (F6.eval 73 (by omega)).trans (show _ = Value.agg #[.int .i64 T2, .int .i64 T3] from by simp [upd, ee0, ee5, ee8, ee6, ee9, ee7, ee10, ee11, ee13, ee12, ee14]), (F6.eval 74 (by omega)).trans (show _ = Value.agg #[.int .i64 T2, .int .i64 T3] from by simp [upd, ee0, ee5, ee8, ee6, ee9, ee7, ee10, ee11, ee13, ee12, ee14])]; simp [go_sem, Act.eval]) (HSM.out T2 T3 (({ V4 with drawn := V4.drawn + 1 } : World))) ?_
      rintro e9 u1 ⟨rfl, hb1⟩
      have hbX1 : Below V4.heap.size V4 u1 := (hbD).trans (hb1.mono (hbD).size)
      refine ⟨_, rfl, fun F7 => ?_⟩
      have HC1x : (fun wq => Blk wq i.pb (pbox i x.ver) 55 ∧ Blk wq bx #[.int .i64 T2, .int .i64 T3] 36 ∧ Blk wq cx #[.int .i64 T2, .int .i64 T3] 36) u1 := ⟨HCC.1.below hb1 HCC.1.lt, HCC.2.1.below hb1 HCC.2.1.lt, HCC.2.2.below hb1 HCC.2.2.lt⟩
      refine lyp F7 rfl HC1x rfl (by omega) (wanted_none rfl) (v := Value.bool true) (fun wr hwr => by simp only [execOp, (F7.eval 72 (by omega)).trans (show _ = Value.bool true from by simp [upd, ee0, ee5, ee8, ee6, ee9, ee7, ee10, ee11, ee13, ee12, ee14]), (F7.eval 75 (by omega)).trans (show _ = Value.bool true from by simp [upd, ee0, ee5, ee8, ee6, ee9, ee7, ee10, ee11, ee13, ee12, ee14])]; simp [go_sem, Act.eval]) fun F8 => ?_
      refine lyp F8 rfl HC1x rfl (by omega) (wanted_none rfl) (v := Value.bool true) (fun wr hwr => by simp only [execOp, (F8.eval 76 (by omega)).trans (show _ = Value.bool true from by simp [upd, ee0, ee5, ee8, ee6, ee9, ee7, ee10, ee11, ee13, ee12, ee14])]; first | rfl | simp [go_sem]) fun F9 => ?_
      refine lyp F9 rfl HC1x rfl (by omega) (want_yes F9 rfl (e := 77) rfl (by omega) (show _ = Value.bool true from by simp [upd, ee0, ee5, ee8, ee6, ee9, ee7, ee10, ee11, ee13, ee12, ee14])) (v := Value.bool T4) (fun wr hwr => by simp only [execOp, (F9.eval 7 (by omega)).trans (show _ = Value.bool T4 from by simp [upd, ee0, ee5, ee8, ee6, ee9, ee7, ee10, ee11, ee13, ee12, ee14])]; first | rfl | simp [go_sem]) fun F10 => ?_
      refine lyp F10 rfl HC1x rfl (by omega) (want_yes F10 rfl (e := 77) rfl (by omega) (show _ = Value.bool true from by simp [upd, ee0, ee5, ee8, ee6, ee9, ee7, ee10, ee11, ee13, ee12, ee14])) (v := Value.bool T4) (fun wr hwr => by simp only [execOp, (F10.eval 10 (by omega)).trans (show _ = Value.bool T4 from by simp [upd, ee0, ee5, ee8, ee6, ee9, ee7, ee10, ee11, ee13, ee12, ee14])]; first | rfl | simp [go_sem]) fun F11 => ?_
      refine lyp F11 rfl HC1x rfl (by omega) (want_yes F11 rfl (e := 77) rfl (by omega) (show _ = Value.bool true from by simp [upd, ee0, ee5, ee8, ee6, ee9, ee7, ee10, ee11, ee13, ee12, ee14])) (v := Value.bool true) (fun wr hwr => by simp only [execOp, (F11.eval 78 (by omega)).trans (show _ = Value.bool T4 from by simp [upd, ee0, ee5, ee8, ee6, ee9, ee7, ee10, ee11, ee13, ee12, ee14]), (F11.eval 79 (by omega)).trans (show _ = Value.bool T4 from by simp [upd, ee0, ee5, ee8, ee6, ee9, ee7, ee10, ee11, ee13, ee12, ee14])]; simp [go_sem]) fun F12 => ?_
      refine lyp F12 rfl HC1x rfl (by omega) (wanted_none rfl) (v := Value.bool true) (fun wr hwr => by simp only [execOp, (F12.eval 77 (by omega)).trans (show _ = Value.bool true from by simp [upd, ee0, ee5, ee8, ee6, ee9, ee7, ee10, ee11, ee13, ee12, ee14]), (F12.eval 80 (by omega)).trans (show _ = Value.bool true from by simp [upd, ee0, ee5, ee8, ee6, ee9, ee7, ee10, ee11, ee13, ee12, ee14])]; simp [go_sem, Act.eval]) fun F13 => ?_
      refine lyp F13 rfl HC1x rfl (by omega) (wanted_none rfl) (v := Value.bool true) (fun wr hwr => by simp only [execOp, (F13.eval 81 (by omega)).trans (show _ = Value.bool true from by simp [upd, ee0, ee5, ee8, ee6, ee9, ee7, ee10, ee11, ee13, ee12, ee14])]; first | rfl | simp [go_sem]) fun F14 => ?_
      refine lyp F14 rfl HC1x rfl (by omega) (want_yes F14 rfl (e := 82) rfl (by omega) (show _ = Value.bool true from by simp [upd, ee0, ee5, ee8, ee6, ee9, ee7, ee10, ee11, ee13, ee12, ee14])) (v := Value.pointer (some ⟨i.pb, 0, none⟩)) (fun wr hwr => by simp only [execOp, (F14.eval 0 (by omega)).trans (show _ = Value.pointer (some ⟨i.pb, 0, none⟩) from by simp [upd, ee0, ee5, ee8, ee6, ee9, ee7, ee10, ee11, ee13, ee12, ee14])]; first | rfl | simp [go_sem]) fun F15 => ?_
      refine lyp F15 rfl HC1x rfl (by omega) (want_yes F15 rfl (e := 82) rfl (by omega) (show _ = Value.bool true from by simp [upd, ee0, ee5, ee8, ee6, ee9, ee7, ee10, ee11, ee13, ee12, ee14])) (v := Value.pointer (some ⟨i.pb, 0, none⟩)) (fun wr hwr => by simp only [execOp, (F15.eval 83 (by omega)).trans (show _ = Value.pointer (some ⟨i.pb, 0, none⟩) from by simp [upd, ee0, ee5, ee8, ee6, ee9, ee7, ee10, ee11, ee13, ee12, ee14])]; simp [go_sem]) fun F16 => ?_
      refine lyp F16 rfl HC1x rfl (by omega) (want_yes F16 rfl (e := 82) rfl (by omega) (show _ = Value.bool true from by simp [upd, ee0, ee5, ee8, ee6, ee9, ee7, ee10, ee11, ee13, ee12, ee14])) (v := Value.pointer (some ⟨i.pb, 4, none⟩)) (fun wr hwr => by simp only [execOp, (F16.eval 84 (by omega)).trans (show _ = Value.pointer (some ⟨i.pb, 0, none⟩) from by simp [upd, ee0, ee5, ee8, ee6, ee9, ee7, ee10, ee11, ee13, ee12, ee14])]; simp [go_sem]) fun F17 => ?_
      refine lyp F17 rfl HC1x rfl (by omega) (want_yes F17 rfl (e := 82) rfl (by omega) (show _ = Value.bool true from by simp [upd, ee0, ee5, ee8, ee6, ee9, ee7, ee10, ee11, ee13, ee12, ee14])) (v := Value.pointer (some ⟨i.lb, 0, none⟩)) (fun wr hwr => by simp only [execOp, (F17.eval 85 (by omega)).trans (show _ = Value.pointer (some ⟨i.pb, 4, none⟩) from by simp [upd, ee0, ee5, ee8, ee6, ee9, ee7, ee10, ee11, ee13, ee12, ee14])]; simp [go_sem, show wr.cell? ⟨i.pb, 4, none⟩ = some (.pointer (some ⟨i.lb, 0, none⟩)) from Blk.cell hwr.1 4]) fun F18 => ?_
      refine lcp F18 rfl HC1x rfl (by omega) (want_yes F18 rfl (e := 82) rfl (by omega) (show _ = Value.bool true from by simp [upd, ee0, ee5, ee8, ee6, ee9, ee7, ee10, ee11, ee13, ee12, ee14])) (g := 21) (args := #[Value.pointer (some ⟨i.lb, 0, none⟩)]) (by simp only [execOp, resolve, invoke, List.map_toArray, List.map_cons, List.map_nil, (F18.eval 86 (by omega)).trans (show _ = Value.pointer (some ⟨i.lb, 0, none⟩) from by simp [upd, ee0, ee5, ee8, ee6, ee9, ee7, ee10, ee11, ee13, ee12, ee14])]; simp [go_sem, Act.eval]) (HRL.out (u1) (hbX1)) ?_
      rintro e9 u2 ⟨rfl, hb2⟩
      have hbX2 : Below V4.heap.size V4 u2 := (hbX1).trans (hb2.mono (hbX1).size)
      refine ⟨_, rfl, fun F19 => ?_⟩
      have HC2x : (fun wq => Blk wq i.pb (pbox i x.ver) 55 ∧ Blk wq bx #[.int .i64 T2, .int .i64 T3] 36 ∧ Blk wq cx #[.int .i64 T2, .int .i64 T3] 36) u2 := ⟨HC1x.1.below hb2 HC1x.1.lt, HC1x.2.1.below hb2 HC1x.2.1.lt, HC1x.2.2.below hb2 HC1x.2.2.lt⟩
      refine lyp F19 rfl HC2x rfl (by omega) (want_yes F19 rfl (e := 82) rfl (by omega) (show _ = Value.bool true from by simp [upd, ee0, ee5, ee8, ee6, ee9, ee7, ee10, ee11, ee13, ee12, ee14])) (v := Value.pointer (some ⟨i.pb, 0, none⟩)) (fun wr hwr => by simp only [execOp, (F19.eval 0 (by omega)).trans (show _ = Value.pointer (some ⟨i.pb, 0, none⟩) from by simp [upd, ee0, ee5, ee8, ee6, ee9, ee7, ee10, ee11, ee13, ee12, ee14])]; first | rfl | simp [go_sem]) fun F20 => ?_
      refine lyp F20 rfl HC2x rfl (by omega) (want_yes F20 rfl (e := 82) rfl (by omega) (show _ = Value.bool true from by simp [upd, ee0, ee5, ee8, ee6, ee9, ee7, ee10, ee11, ee13, ee12, ee14])) (v := Value.pointer (some ⟨i.pb, 0, none⟩)) (fun wr hwr => by simp only [execOp, (F20.eval 88 (by omega)).trans (show _ = Value.pointer (some ⟨i.pb, 0, none⟩) from by simp [upd, ee0, ee5, ee8, ee6, ee9, ee7, ee10, ee11, ee13, ee12, ee14])]; simp [go_sem]) fun F21 => ?_
      refine lyp F21 rfl HC2x rfl (by omega) (want_yes F21 rfl (e := 82) rfl (by omega) (show _ = Value.bool true from by simp [upd, ee0, ee5, ee8, ee6, ee9, ee7, ee10, ee11, ee13, ee12, ee14])) (v := Value.pointer (some ⟨i.pb, 7, none⟩)) (fun wr hwr => by simp only [execOp, (F21.eval 89 (by omega)).trans (show _ = Value.pointer (some ⟨i.pb, 0, none⟩) from by simp [upd, ee0, ee5, ee8, ee6, ee9, ee7, ee10, ee11, ee13, ee12, ee14])]; simp [go_sem]) fun F22 => ?_
      refine lyp F22 rfl HC2x rfl (by omega) (want_yes F22 rfl (e := 82) rfl (by omega) (show _ = Value.bool true from by simp [upd, ee0, ee5, ee8, ee6, ee9, ee7, ee10, ee11, ee13, ee12, ee14])) (v := Value.pointer (some ⟨i.kb, 0, none⟩)) (fun wr hwr => by simp only [execOp, (F22.eval 90 (by omega)).trans (show _ = Value.pointer (some ⟨i.pb, 7, none⟩) from by simp [upd, ee0, ee5, ee8, ee6, ee9, ee7, ee10, ee11, ee13, ee12, ee14])]; simp [go_sem, show wr.cell? ⟨i.pb, 7, none⟩ = some (.pointer (some ⟨i.kb, 0, none⟩)) from Blk.cell hwr.1 7]) fun F23 => ?_
      refine lcp F23 rfl HC2x rfl (by omega) (want_yes F23 rfl (e := 82) rfl (by omega) (show _ = Value.bool true from by simp [upd, ee0, ee5, ee8, ee6, ee9, ee7, ee10, ee11, ee13, ee12, ee14])) (g := 33) (args := #[Value.pointer (some ⟨i.kb, 0, none⟩)]) (by simp only [execOp, resolve, invoke, List.map_toArray, List.map_cons, List.map_nil, (F23.eval 91 (by omega)).trans (show _ = Value.pointer (some ⟨i.kb, 0, none⟩) from by simp [upd, ee0, ee5, ee8, ee6, ee9, ee7, ee10, ee11, ee13, ee12, ee14])]; simp [go_sem, Act.eval]) (HRK.out (u2) (hbX2)) ?_
      rintro e9 u3 ⟨rfl, hb3⟩
      have hbX3 : Below V4.heap.size V4 u3 := (hbX2).trans (hb3.mono (hbX2).size)
      refine ⟨_, rfl, fun F24 => ?_⟩
      have HC3x : (fun wq => Blk wq i.pb (pbox i x.ver) 55 ∧ Blk wq bx #[.int .i64 T2, .int .i64 T3] 36 ∧ Blk wq cx #[.int .i64 T2, .int .i64 T3] 36) u3 := ⟨HC2x.1.below hb3 HC2x.1.lt, HC2x.2.1.below hb3 HC2x.2.1.lt, HC2x.2.2.below hb3 HC2x.2.2.lt⟩
      refine lcp F24 rfl HC3x rfl (by omega) (want_yes F24 rfl (e := 82) rfl (by omega) (show _ = Value.bool true from by simp [upd, ee0, ee5, ee8, ee6, ee9, ee7, ee10, ee11, ee13, ee12, ee14])) (g := 15) (args := #[Value.agg #[.int .i64 x.s.d, .int .i64 x.s.u], Value.agg #[.int .i64 x.s.d, .int .i64 x.s.u]]) (by simp only [execOp, resolve, invoke, List.map_toArray, List.map_cons, List.map_nil, (F24.eval 87 (by omega)).trans (show _ = Value.agg #[.int .i64 x.s.d, .int .i64 x.s.u] from by simp [upd, ee0, ee5, ee8, ee6, ee9, ee7, ee10, ee11, ee13, ee12, ee14]), (F24.eval 92 (by omega)).trans (show _ = Value.agg #[.int .i64 x.s.d, .int .i64 x.s.u] from by simp [upd, ee0, ee5, ee8, ee6, ee9, ee7, ee10, ee11, ee13, ee12, ee14])]; simp [go_sem, Act.eval]) (HSM.out x.s.d x.s.u (u3)) ?_
      rintro e9 u4 ⟨rfl, hb4⟩
      have hbX4 : Below V4.heap.size V4 u4 := (hbX3).trans (hb4.mono (hbX3).size)
      refine ⟨_, rfl, fun F25 => ?_⟩
      have HC4x : (fun wq => Blk wq i.pb (pbox i x.ver) 55 ∧ Blk wq bx #[.int .i64 T2, .int .i64 T3] 36 ∧ Blk wq cx #[.int .i64 T2, .int .i64 T3] 36) u4 := ⟨HC3x.1.below hb4 HC3x.1.lt, HC3x.2.1.below hb4 HC3x.2.1.lt, HC3x.2.2.below hb4 HC3x.2.2.lt⟩
      refine lyp F25 rfl HC4x rfl (by omega) (wanted_none rfl) (v := Value.bool true) (fun wr hwr => by simp only [execOp, (F25.eval 82 (by omega)).trans (show _ = Value.bool true from by simp [upd, ee0, ee5, ee8, ee6, ee9, ee7, ee10, ee11, ee13, ee12, ee14]), (F25.eval 93 (by omega)).trans (show _ = Value.bool true from by simp [upd, ee0, ee5, ee8, ee6, ee9, ee7, ee10, ee11, ee13, ee12, ee14])]; simp [go_sem, Act.eval]) fun F26 => ?_
      refine lyp F26 rfl HC4x rfl (by omega) (wanted_none rfl) (v := Value.bool true) (fun wr hwr => by simp only [execOp, (F26.eval 94 (by omega)).trans (show _ = Value.bool true from by simp [upd, ee0, ee5, ee8, ee6, ee9, ee7, ee10, ee11, ee13, ee12, ee14])]; first | rfl | simp [go_sem]) fun F27 => ?_
      refine lyp F27 rfl HC4x rfl (by omega) (want_yes F27 rfl (e := 95) rfl (by omega) (show _ = Value.bool true from by simp [upd, ee0, ee5, ee8, ee6, ee9, ee7, ee10, ee11, ee13, ee12, ee14])) (v := Value.int .i64 S1) (fun wr hwr => by simp only [execOp, (F27.eval 11 (by omega)).trans (show _ = Value.int .i64 S1 from by simp [upd, ee0, ee5, ee8, ee6, ee9, ee7, ee10, ee11, ee13, ee12, ee14])]; first | rfl | simp [go_sem]) fun F28 => ?_
      refine lyp F28 rfl HC4x rfl (by omega) (want_yes F28 rfl (e := 95) rfl (by omega) (show _ = Value.bool true from by simp [upd, ee0, ee5, ee8, ee6, ee9, ee7, ee10, ee11, ee13, ee12, ee14])) (v := Value.int .i64 S1) (fun wr hwr => by simp only [execOp, (F28.eval 13 (by omega)).trans (show _ = Value.int .i64 S1 from by simp [upd, ee0, ee5, ee8, ee6, ee9, ee7, ee10, ee11, ee13, ee12, ee14])]; first | rfl | simp [go_sem]) fun F29 => ?_
      refine lyp F29 rfl HC4x rfl (by omega) (want_yes F29 rfl (e := 95) rfl (by omega) (show _ = Value.bool true from by simp [upd, ee0, ee5, ee8, ee6, ee9, ee7, ee10, ee11, ee13, ee12, ee14])) (v := Value.bool true) (fun wr hwr => by simp only [execOp, (F29.eval 96 (by omega)).trans (show _ = Value.int .i64 S1 from by simp [upd, ee0, ee5, ee8, ee6, ee9, ee7, ee10, ee11, ee13, ee12, ee14]), (F29.eval 97 (by omega)).trans (show _ = Value.int .i64 S1 from by simp [upd, ee0, ee5, ee8, ee6, ee9, ee7, ee10, ee11, ee13, ee12, ee14])]; simp [go_sem]) fun F30 => ?_
      refine lyp F30 rfl HC4x rfl (by omega) (wanted_none rfl) (v := Value.bool true) (fun wr hwr => by simp only [execOp, (F30.eval 95 (by omega)).trans (show _ = Value.bool true from by simp [upd, ee0, ee5, ee8, ee6, ee9, ee7, ee10, ee11, ee13, ee12, ee14]), (F30.eval 98 (by omega)).trans (show _ = Value.bool true from by simp [upd, ee0, ee5, ee8, ee6, ee9, ee7, ee10, ee11, ee13, ee12, ee14])]; simp [go_sem, Act.eval]) fun F31 => ?_
      refine lyp F31 rfl HC4x rfl (by omega) (wanted_none rfl) (v := Value.bool true) (fun wr hwr => by simp only [execOp, (F31.eval 99 (by omega)).trans (show _ = Value.bool true from by simp [upd, ee0, ee5, ee8, ee6, ee9, ee7, ee10, ee11, ee13, ee12, ee14])]; first | rfl | simp [go_sem]) fun F32 => ?_
      refine lyp F32 rfl HC4x rfl (by omega) (want_yes F32 rfl (e := 100) rfl (by omega) (show _ = Value.bool true from by simp [upd, ee0, ee5, ee8, ee6, ee9, ee7, ee10, ee11, ee13, ee12, ee14])) (v := Value.bool S2) (fun wr hwr => by simp only [execOp, (F32.eval 12 (by omega)).trans (show _ = Value.bool S2 from by simp [upd, ee0, ee5, ee8, ee6, ee9, ee7, ee10, ee11, ee13, ee12, ee14])]; first | rfl | simp [go_sem]) fun F33 => ?_
      refine lyp F33 rfl HC4x rfl (by omega) (want_yes F33 rfl (e := 100) rfl (by omega) (show _ = Value.bool true from by simp [upd, ee0, ee5, ee8, ee6, ee9, ee7, ee10, ee11, ee13, ee12, ee14])) (v := Value.bool S2) (fun wr hwr => by simp only [execOp, (F33.eval 14 (by omega)).trans (show _ = Value.bool S2 from by simp [upd, ee0, ee5, ee8, ee6, ee9, ee7, ee10, ee11, ee13, ee12, ee14])]; first | rfl | simp [go_sem]) fun F34 => ?_
      refine lyp F34 rfl HC4x rfl (by omega) (want_yes F34 rfl (e := 100) rfl (by omega) (show _ = Value.bool true from by simp [upd, ee0, ee5, ee8, ee6, ee9, ee7, ee10, ee11, ee13, ee12, ee14])) (v := Value.bool true) (fun wr hwr => by simp only [execOp, (F34.eval 101 (by omega)).trans (show _ = Value.bool S2 from by simp [upd, ee0, ee5, ee8, ee6, ee9, ee7, ee10, ee11, ee13, ee12, ee14]), (F34.eval 102 (by omega)).trans (show _ = Value.bool S2 from by simp [upd, ee0, ee5, ee8, ee6, ee9, ee7, ee10, ee11, ee13, ee12, ee14])]; simp [go_sem]) fun F35 => ?_
      refine lyp F35 rfl HC4x rfl (by omega) (wanted_none rfl) (v := Value.bool true) (fun wr hwr => by simp only [execOp, (F35.eval 100 (by omega)).trans (show _ = Value.bool true from by simp [upd, ee0, ee5, ee8, ee6, ee9, ee7, ee10, ee11, ee13, ee12, ee14]), (F35.eval 103 (by omega)).trans (show _ = Value.bool true from by simp [upd, ee0, ee5, ee8, ee6, ee9, ee7, ee10, ee11, ee13, ee12, ee14])]; simp [go_sem, Act.eval]) fun F36 => ?_
      refine lyp F36 rfl HC4x rfl (by omega) (wanted_none rfl) (v := Value.bool true) (fun wr hwr => by simp only [execOp, (F36.eval 104 (by omega)).trans (show _ = Value.bool true from by simp [upd, ee0, ee5, ee8, ee6, ee9, ee7, ee10, ee11, ee13, ee12, ee14])]; first | rfl | simp [go_sem]) fun F37 => ?_
      refine ⟨fun _ => HC4x, ?_⟩
      first | refine hK _ _ ?_ | skip
      clear F0 F1 F2 F3 F4 F5 F6 F7 F8 F9 F10 F11 F12 F13 F14 F15 F16 F17 F18 F19 F20 F21 F22 F23 F24 F25 F26 F27 F28 F29 F30 F31 F32 F33 F34 F35 F36 F37 ee0 ee5 ee8 ee6 ee9 ee7 ee10 ee11 ee13 ee12 ee14 HCC hbD
      simp only [Act.put, List.setIfInBounds_toArray, List.set_cons_succ, List.set_cons_zero]
      have HBL : Hid (Below V4.heap.size V4 u4) := hbX4
      go_wp2_with fail
      go_ret
      exact ⟨rfl, HFIN.out _ (HP4.out.more HBL.out)⟩
    refine wp_region_plan (fun wq => Blk wq i.pb (pbox i x.ver) 55) (fun i => i == 13 || i == 18 || i == 20 || i == 99) 99 (.one 0 (.one 1 (.one 2 (.one 3 (.one 4 (.one 5 (.one 6 (.one 7 (.one 8 (.one 9 (.one 10 (.one 11 (.one 12 (.two 13 18 (.one 14 (.one 15 (.one 16 (.one 17 (.one 18 (.one 19 (.one 20 (.one 21 (.done))))))))) (.one 13 (.one 14 (.one 15 (.one 16 (.one 17 (.one 19 (.one 20 (.one 21 (.done))))))))))))))))))))))) (by kernel_rfl) rfl (by kernel_rfl) (by kernel_rfl) rfl (by kernel_rfl) ?_
    refine withFrG (N := 105) rfl ?_
    intro a0 f0 F0 hff
    have hs0 : f0 0 = Value.pointer (some ⟨i.pb, 0, none⟩) := hff 0
    have hs1 : f0 1 = Value.string ⟨n.toArray⟩ := hff 1
    have hs5 : f0 5 = Value.int .i64 T1 := hff 5
    have hs6 : f0 6 = Value.pointer (some ⟨bx, 0, none⟩) := hff 6
    have hs7 : f0 7 = Value.bool T4 := hff 7
    clear hff
    have hC0 : (fun wq => Blk wq i.pb (pbox i x.ver) 55) ({ Y1 with drawn := Y1.drawn + 1 } : World) := HPY1.out.box
    refine py (k := 0) rfl F0 rfl hC0 rfl (by omega) (wanted_none rfl) (v := Value.pointer (some ⟨i.pb, 0, none⟩)) (fun wr hwr => by simp only [execOp, (F0.eval 0 (by omega)).trans (show _ = Value.pointer (some ⟨i.pb, 0, none⟩) from by simp [upd, hs0, hs1, hs5, hs6, hs7])]; first | rfl | simp [go_sem]) fun a1 F1 => ?_
    refine py (k := 1) rfl F1 rfl hC0 rfl (by omega) (wanted_none rfl) (v := Value.pointer (some ⟨i.pb, 0, none⟩)) (fun wr hwr => by simp only [execOp, (F1.eval 34 (by omega)).trans (show _ = Value.pointer (some ⟨i.pb, 0, none⟩) from by simp [upd, hs0, hs1, hs5, hs6, hs7])]; simp [go_sem]) fun a2 F2 => ?_
    refine py (k := 2) rfl F2 rfl hC0 rfl (by omega) (wanted_none rfl) (v := Value.pointer (some ⟨i.pb, 6, none⟩)) (fun wr hwr => by simp only [execOp, (F2.eval 35 (by omega)).trans (show _ = Value.pointer (some ⟨i.pb, 0, none⟩) from by simp [upd, hs0, hs1, hs5, hs6, hs7])]; simp [go_sem]) fun a3 F3 => ?_
    refine py (k := 3) rfl F3 rfl hC0 rfl (by omega) (wanted_none rfl) (v := Value.pointer (some ⟨i.qb, 0, none⟩)) (fun wr hwr => by simp only [execOp, (F3.eval 36 (by omega)).trans (show _ = Value.pointer (some ⟨i.pb, 6, none⟩) from by simp [upd, hs0, hs1, hs5, hs6, hs7])]; simp [go_sem, show wr.cell? ⟨i.pb, 6, none⟩ = some (.pointer (some ⟨i.qb, 0, none⟩)) from Blk.cell hwr 6]) fun a4 F4 => ?_
    refine py (k := 4) rfl F4 rfl hC0 rfl (by omega) (wanted_none rfl) (v := Value.string ⟨n.toArray⟩) (fun wr hwr => by simp only [execOp, (F4.eval 1 (by omega)).trans (show _ = Value.string ⟨n.toArray⟩ from by simp [upd, hs0, hs1, hs5, hs6, hs7])]; first | rfl | simp [go_sem]) fun a5 F5 => ?_
    refine py (k := 5) rfl F5 rfl hC0 rfl (by omega) (wanted_none rfl) (v := Value.pointer (some ⟨i.pb, 0, none⟩)) (fun wr hwr => by simp only [execOp, (F5.eval 0 (by omega)).trans (show _ = Value.pointer (some ⟨i.pb, 0, none⟩) from by simp [upd, hs0, hs1, hs5, hs6, hs7])]; first | rfl | simp [go_sem]) fun a6 F6 => ?_
    refine py (k := 6) rfl F6 rfl hC0 rfl (by omega) (wanted_none rfl) (v := Value.pointer (some ⟨i.pb, 0, none⟩)) (fun wr hwr => by simp only [execOp, (F6.eval 39 (by omega)).trans (show _ = Value.pointer (some ⟨i.pb, 0, none⟩) from by simp [upd, hs0, hs1, hs5, hs6, hs7])]; simp [go_sem]) fun a7 F7 => ?_
    refine py (k := 7) rfl F7 rfl hC0 rfl (by omega) (wanted_none rfl) (v := Value.pointer (some ⟨i.pb, 7, none⟩)) (fun wr hwr => by simp only [execOp, (F7.eval 40 (by omega)).trans (show _ = Value.pointer (some ⟨i.pb, 0, none⟩) from by simp [upd, hs0, hs1, hs5, hs6, hs7])]; simp [go_sem]) fun a8 F8 => ?_
    refine py (k := 8) rfl F8 rfl hC0 rfl (by omega) (wanted_none rfl) (v := Value.pointer (some ⟨i.kb, 0, none⟩)) (fun wr hwr => by simp only [execOp, (F8.eval 41 (by omega)).trans (show _ = Value.pointer (some ⟨i.pb, 7, none⟩) from by simp [upd, hs0, hs1, hs5, hs6, hs7])]; simp [go_sem, show wr.cell? ⟨i.pb, 7, none⟩ = some (.pointer (some ⟨i.kb, 0, none⟩)) from Blk.cell hwr 7]) fun a9 F9 => ?_
    refine py (k := 9) rfl F9 rfl hC0 rfl (by omega) (wanted_none rfl) (v := Value.pointer (some ⟨i.pb, 0, none⟩)) (fun wr hwr => by simp only [execOp, (F9.eval 0 (by omega)).trans (show _ = Value.pointer (some ⟨i.pb, 0, none⟩) from by simp [upd, hs0, hs1, hs5, hs6, hs7])]; first | rfl | simp [go_sem]) fun a10 F10 => ?_
    refine py (k := 10) rfl F10 rfl hC0 rfl (by omega) (wanted_none rfl) (v := Value.pointer (some ⟨i.pb, 0, none⟩)) (fun wr hwr => by simp only [execOp, (F10.eval 43 (by omega)).trans (show _ = Value.pointer (some ⟨i.pb, 0, none⟩) from by simp [upd, hs0, hs1, hs5, hs6, hs7])]; simp [go_sem]) fun a11 F11 => ?_
    refine py (k := 11) rfl F11 rfl hC0 rfl (by omega) (wanted_none rfl) (v := Value.pointer (some ⟨i.pb, 8, none⟩)) (fun wr hwr => by simp only [execOp, (F11.eval 44 (by omega)).trans (show _ = Value.pointer (some ⟨i.pb, 0, none⟩) from by simp [upd, hs0, hs1, hs5, hs6, hs7])]; simp [go_sem]) fun a12 F12 => ?_
    refine py (k := 12) rfl F12 rfl hC0 rfl (by omega) (wanted_none rfl) (v := Value.pointer (some ⟨i.rb, 0, none⟩)) (fun wr hwr => by simp only [execOp, (F12.eval 45 (by omega)).trans (show _ = Value.pointer (some ⟨i.pb, 8, none⟩) from by simp [upd, hs0, hs1, hs5, hs6, hs7])]; simp [go_sem, show wr.cell? ⟨i.pb, 8, none⟩ = some (.pointer (some ⟨i.rb, 0, none⟩)) from Blk.cell hwr 8]) fun a13 F13 => ?_
    refine pfork hC0 ?_ ?_
    · have hPD := PS.more HPY1.out (Below.drew (Below.refl Y1.heap.size Y1))
      refine pc' (k := 13) rfl F13 rfl rfl (by omega) (wanted_none rfl) (g := 44) (args := #[Value.pointer (some ⟨i.qb, 0, none⟩), Value.string ⟨n.toArray⟩, Value.pointer (some ⟨i.kb, 0, none⟩), Value.pointer (some ⟨i.rb, 0, none⟩)]) (by simp only [execOp, resolve, invoke, List.map_toArray, List.map_cons, List.map_nil, (F13.eval 37 (by omega)).trans (show _ = Value.pointer (some ⟨i.qb, 0, none⟩) from by simp [upd, hs0, hs1, hs5, hs6, hs7]), (F13.eval 38 (by omega)).trans (show _ = Value.string ⟨n.toArray⟩ from by simp [upd, hs0, hs1, hs5, hs6, hs7]), (F13.eval 42 (by omega)).trans (show _ = Value.pointer (some ⟨i.kb, 0, none⟩) from by simp [upd, hs0, hs1, hs5, hs6, hs7]), (F13.eval 46 (by omega)).trans (show _ = Value.pointer (some ⟨i.rb, 0, none⟩) from by simp [upd, hs0, hs1, hs5, hs6, hs7])]; simp [go_sem, Act.eval]) (HTR.out ({ Y1 with drawn := Y1.drawn + 1 } : World) (PS.more HPY1.out (Below.drew (Below.refl Y1.heap.size Y1)))) ?_
      rintro e9 V1 ⟨rfl, hP1, h36, hsz⟩
      refine ⟨_, rfl, fun aA1 FA1 => ?_⟩
      have hxb1 := h36 _ _ (HBX.out)
      refine py (k := 14) rfl FA1 rfl hP1.box rfl (by omega) (wanted_none rfl) (v := Value.tuple #[.int .i64 T1, .agg #[.int .i64 T2, .int .i64 T3], .bool T4]) (fun wr hwr => by simp only [execOp, (FA1.eval 47 (by omega)).trans (show _ = Value.tuple #[.int .i64 T1, .agg #[.int .i64 T2, .int .i64 T3], .bool T4] from by simp [upd, hs0, hs1, hs5, hs6, hs7])]; first | rfl | simp [go_sem]) fun aA2 FA2 => ?_
      refine py (k := 15) rfl FA2 rfl hP1.box rfl (by omega) (wanted_none rfl) (v := Value.int .i64 T1) (fun wr hwr => by simp only [execOp, (FA2.eval 33 (by omega)).trans (show _ = Value.tuple #[.int .i64 T1, .agg #[.int .i64 T2, .int .i64 T3], .bool T4] from by simp [upd, hs0, hs1, hs5, hs6, hs7])]; simp [go_sem]) fun aA3 FA3 => ?_
      refine py (k := 16) rfl FA3 rfl hP1.box rfl (by omega) (wanted_none rfl) (v := Value.agg #[.int .i64 T2, .int .i64 T3]) (fun wr hwr => by simp only [execOp, (FA3.eval 33 (by omega)).trans (show _ = Value.tuple #[.int .i64 T1, .agg #[.int .i64 T2, .int .i64 T3], .bool T4] from by simp [upd, hs0, hs1, hs5, hs6, hs7])]; simp [go_sem]) fun aA4 FA4 => ?_
      refine py (k := 17) rfl FA4 rfl hP1.box rfl (by omega) (wanted_none rfl) (v := Value.bool T4) (fun wr hwr => by simp only [execOp, (FA4.eval 33 (by omega)).trans (show _ = Value.tuple #[.int .i64 T1, .agg #[.int .i64 T2, .int .i64 T3], .bool T4] from by simp [upd, hs0, hs1, hs5, hs6, hs7])]; simp [go_sem]) fun aA5 FA5 => ?_
      refine pe (k := 18) rfl FA5 rfl hP1.box rfl (by omega) (wanted_none rfl) (v := Value.pointer (some ⟨V1.heap.size, 0, none⟩)) (w1 := V1.alloc (.cells #[.int .i64 0, .int .i64 0] 36)) (by simp only [execOp]; simp [go_sem, zero36]) fun aA6 FA6 => ?_
      have hBz : Blk (V1.alloc (.cells #[.int .i64 0, .int .i64 0] 36)) V1.heap.size #[.int .i64 0, .int .i64 0] 36 := heap_alloc_new V1 _
      have hbz : Below V1.heap.size V1 (V1.alloc (.cells #[.int .i64 0, .int .i64 0] 36)) := (Below.refl _ _).alloc (Nat.le_refl _) _
      have hPz := PS.more (hP1) hbz
      have hlz : w.heap.size ≤ V1.heap.size := (PS.chg (hP1)).size
      have hzb := Blk.below hxb1 hbz hxb1.lt
      refine py (k := 19) rfl FA6 rfl hPz.box rfl (by omega) (wanted_none rfl) (v := Value.int .i64 T1) (fun wr hwr => by simp only [execOp, (FA6.eval 48 (by omega)).trans (show _ = Value.int .i64 T1 from by simp [upd, hs0, hs1, hs5, hs6, hs7])]; first | rfl | simp [go_sem]) fun aA7 FA7 => ?_
      obtain ⟨Y, hY⟩ : ∃ Y, Y = ((World.setCell (V1.alloc (.cells #[.int .i64 0, .int .i64 0] 36)) ⟨V1.heap.size, 0, none⟩ (.int .i64 T2)).setCell ⟨V1.heap.size, 1, none⟩ (.int .i64 T3)) := ⟨_, rfl⟩
      have hBy : Blk Y V1.heap.size #[.int .i64 T2, .int .i64 T3] 36 := by rw [hY]; exact (Blk.set hBz 0 (.int .i64 T2)).set 1 (.int .i64 T3)
      have hc2 : Chg (fun k => k = V1.heap.size) (V1.alloc (.cells #[.int .i64 0, .int .i64 0] 36)) Y := by rw [hY]; exact (setCell_chg _ _ 0 _).trans (setCell_chg _ _ 1 _) (fun _ _ e => e)
      have hPY := PS.box36 (hPz) hBz hlz hc2
      have hyb : Blk Y bx #[.int .i64 T2, .int .i64 T3] 36 := hc2.blk (hzb) (fun e => by have h1 := HBX.out.lt; have h2 : V1.heap.size = V1.heap.size := rfl; exact absurd e (Nat.ne_of_lt (Nat.lt_of_lt_of_le h1 hsz)))
      refine ps (k := 20) rfl rfl (hPz.box) rfl (wanted_none rfl) (w1 := Y) (by rw [hY]; exact storeR hBz T2 T3 rfl ((FA7.eval 9 (by omega)).trans (show _ = Value.pointer (some ⟨V1.heap.size, 0, none⟩) from by simp [upd, hs0, hs1, hs5, hs6, hs7])) ((FA7.eval 49 (by omega)).trans (show _ = Value.agg #[.int .i64 T2, .int .i64 T3] from by simp [upd, hs0, hs1, hs5, hs6, hs7]))) ?_
      refine py (k := 21) rfl FA7 rfl hPY.box rfl (by omega) (wanted_none rfl) (v := Value.bool T4) (fun wr hwr => by simp only [execOp, (FA7.eval 50 (by omega)).trans (show _ = Value.bool T4 from by simp [upd, hs0, hs1, hs5, hs6, hs7])]; first | rfl | simp [go_sem]) fun aA8 FA8 => ?_
      refine pdone (fun _ => hPY.box) ?_
      exact hrest2 _ _ Y V1.heap.size FA8 (show _ = Value.pointer (some ⟨i.pb, 0, none⟩) from by simp [upd, hs0, hs1, hs5, hs6, hs7]) (show _ = Value.string ⟨n.toArray⟩ from by simp [upd, hs0, hs1, hs5, hs6, hs7]) (show _ = Value.int .i64 T1 from by simp [upd, hs0, hs1, hs5, hs6, hs7]) (show _ = Value.pointer (some ⟨bx, 0, none⟩) from by simp [upd, hs0, hs1, hs5, hs6, hs7]) (show _ = Value.bool T4 from by simp [upd, hs0, hs1, hs5, hs6, hs7]) (show _ = Value.int .i64 T1 from by simp [upd, hs0, hs1, hs5, hs6, hs7]) (show _ = Value.pointer (some ⟨V1.heap.size, 0, none⟩) from by simp [upd, hs0, hs1, hs5, hs6, hs7]) (show _ = Value.bool T4 from by simp [upd, hs0, hs1, hs5, hs6, hs7]) hBy hPY hyb
    · refine pe' (k := 18) rfl F13 rfl rfl (by omega) (wanted_none rfl) (v := Value.pointer (some ⟨({ Y1 with drawn := Y1.drawn + 1 } : World).heap.size, 0, none⟩)) (w1 := ({ Y1 with drawn := Y1.drawn + 1 } : World).alloc (.cells #[.int .i64 0, .int .i64 0] 36)) (by simp only [execOp]; simp [go_sem, zero36]) fun aD1 FD1 => ?_
      have hBz : Blk (({ Y1 with drawn := Y1.drawn + 1 } : World).alloc (.cells #[.int .i64 0, .int .i64 0] 36)) ({ Y1 with drawn := Y1.drawn + 1 } : World).heap.size #[.int .i64 0, .int .i64 0] 36 := heap_alloc_new ({ Y1 with drawn := Y1.drawn + 1 } : World) _
      have hbz : Below ({ Y1 with drawn := Y1.drawn + 1 } : World).heap.size ({ Y1 with drawn := Y1.drawn + 1 } : World) (({ Y1 with drawn := Y1.drawn + 1 } : World).alloc (.cells #[.int .i64 0, .int .i64 0] 36)) := (Below.refl _ _).alloc (Nat.le_refl _) _
      have hPz := PS.more (PS.more HPY1.out (Below.drew (Below.refl Y1.heap.size Y1))) hbz
      have hlz : w.heap.size ≤ ({ Y1 with drawn := Y1.drawn + 1 } : World).heap.size := (PS.chg (PS.more HPY1.out (Below.drew (Below.refl Y1.heap.size Y1)))).size
      have hzb := Blk.below (show Blk ({ Y1 with drawn := Y1.drawn + 1 } : World) bx #[.int .i64 T2, .int .i64 T3] 36 from HBX.out) hbz (Blk.lt (HBX.out))
      refine pc (k := 13) rfl FD1 rfl hPz.box rfl (by omega) (wanted_none rfl) (g := 44) (args := #[Value.pointer (some ⟨i.qb, 0, none⟩), Value.string ⟨n.toArray⟩, Value.pointer (some ⟨i.kb, 0, none⟩), Value.pointer (some ⟨i.rb, 0, none⟩)]) (by simp only [execOp, resolve, invoke, List.map_toArray, List.map_cons, List.map_nil, (FD1.eval 37 (by omega)).trans (show _ = Value.pointer (some ⟨i.qb, 0, none⟩) from by simp [upd, hs0, hs1, hs5, hs6, hs7]), (FD1.eval 38 (by omega)).trans (show _ = Value.string ⟨n.toArray⟩ from by simp [upd, hs0, hs1, hs5, hs6, hs7]), (FD1.eval 42 (by omega)).trans (show _ = Value.pointer (some ⟨i.kb, 0, none⟩) from by simp [upd, hs0, hs1, hs5, hs6, hs7]), (FD1.eval 46 (by omega)).trans (show _ = Value.pointer (some ⟨i.rb, 0, none⟩) from by simp [upd, hs0, hs1, hs5, hs6, hs7])]; simp [go_sem, Act.eval]) (HTR.out (({ Y1 with drawn := Y1.drawn + 1 } : World).alloc (.cells #[.int .i64 0, .int .i64 0] 36)) hPz) ?_
      rintro e9 V1 ⟨rfl, hP1, h36, hsz⟩
      refine ⟨_, rfl, fun aD2 FD2 => ?_⟩
      have hBa := h36 _ _ hBz
      have hxb1 := h36 _ _ hzb
      refine py (k := 14) rfl FD2 rfl hP1.box rfl (by omega) (wanted_none rfl) (v := Value.tuple #[.int .i64 T1, .agg #[.int .i64 T2, .int .i64 T3], .bool T4]) (fun wr hwr => by simp only [execOp, (FD2.eval 47 (by omega)).trans (show _ = Value.tuple #[.int .i64 T1, .agg #[.int .i64 T2, .int .i64 T3], .bool T4] from by simp [upd, hs0, hs1, hs5, hs6, hs7])]; first | rfl | simp [go_sem]) fun aD3 FD3 => ?_
      refine py (k := 15) rfl FD3 rfl hP1.box rfl (by omega) (wanted_none rfl) (v := Value.int .i64 T1) (fun wr hwr => by simp only [execOp, (FD3.eval 33 (by omega)).trans (show _ = Value.tuple #[.int .i64 T1, .agg #[.int .i64 T2, .int .i64 T3], .bool T4] from by simp [upd, hs0, hs1, hs5, hs6, hs7])]; simp [go_sem]) fun aD4 FD4 => ?_
      refine py (k := 16) rfl FD4 rfl hP1.box rfl (by omega) (wanted_none rfl) (v := Value.agg #[.int .i64 T2, .int .i64 T3]) (fun wr hwr => by simp only [execOp, (FD4.eval 33 (by omega)).trans (show _ = Value.tuple #[.int .i64 T1, .agg #[.int .i64 T2, .int .i64 T3], .bool T4] from by simp [upd, hs0, hs1, hs5, hs6, hs7])]; simp [go_sem]) fun aD5 FD5 => ?_
      refine py (k := 17) rfl FD5 rfl hP1.box rfl (by omega) (wanted_none rfl) (v := Value.bool T4) (fun wr hwr => by simp only [execOp, (FD5.eval 33 (by omega)).trans (show _ = Value.tuple #[.int .i64 T1, .agg #[.int .i64 T2, .int .i64 T3], .bool T4] from by simp [upd, hs0, hs1, hs5, hs6, hs7])]; simp [go_sem]) fun aD6 FD6 => ?_
      refine py (k := 19) rfl FD6 rfl hP1.box rfl (by omega) (wanted_none rfl) (v := Value.int .i64 T1) (fun wr hwr => by simp only [execOp, (FD6.eval 48 (by omega)).trans (show _ = Value.int .i64 T1 from by simp [upd, hs0, hs1, hs5, hs6, hs7])]; first | rfl | simp [go_sem]) fun aD7 FD7 => ?_
      obtain ⟨Y, hY⟩ : ∃ Y, Y = ((World.setCell V1 ⟨({ Y1 with drawn := Y1.drawn + 1 } : World).heap.size, 0, none⟩ (.int .i64 T2)).setCell ⟨({ Y1 with drawn := Y1.drawn + 1 } : World).heap.size, 1, none⟩ (.int .i64 T3)) := ⟨_, rfl⟩
      have hBy : Blk Y ({ Y1 with drawn := Y1.drawn + 1 } : World).heap.size #[.int .i64 T2, .int .i64 T3] 36 := by rw [hY]; exact (Blk.set hBa 0 (.int .i64 T2)).set 1 (.int .i64 T3)
      have hc2 : Chg (fun k => k = ({ Y1 with drawn := Y1.drawn + 1 } : World).heap.size) V1 Y := by rw [hY]; exact (setCell_chg _ _ 0 _).trans (setCell_chg _ _ 1 _) (fun _ _ e => e)
      have hPY := PS.box36 (hP1) hBa hlz hc2
      have hyb : Blk Y bx #[.int .i64 T2, .int .i64 T3] 36 := hc2.blk (hxb1) (fun e => by have h1 := HBX.out.lt; have h2 : ({ Y1 with drawn := Y1.drawn + 1 } : World).heap.size = ({ Y1 with drawn := Y1.drawn + 1 } : World).heap.size := rfl; exact absurd e (Nat.ne_of_lt (Nat.lt_of_lt_of_le h1 (Nat.le_refl _))))
      refine ps (k := 20) rfl rfl (hP1.box) rfl (wanted_none rfl) (w1 := Y) (by rw [hY]; exact storeR hBa T2 T3 rfl ((FD7.eval 9 (by omega)).trans (show _ = Value.pointer (some ⟨({ Y1 with drawn := Y1.drawn + 1 } : World).heap.size, 0, none⟩) from by simp [upd, hs0, hs1, hs5, hs6, hs7])) ((FD7.eval 49 (by omega)).trans (show _ = Value.agg #[.int .i64 T2, .int .i64 T3] from by simp [upd, hs0, hs1, hs5, hs6, hs7]))) ?_
      refine py (k := 21) rfl FD7 rfl hPY.box rfl (by omega) (wanted_none rfl) (v := Value.bool T4) (fun wr hwr => by simp only [execOp, (FD7.eval 50 (by omega)).trans (show _ = Value.bool T4 from by simp [upd, hs0, hs1, hs5, hs6, hs7])]; first | rfl | simp [go_sem]) fun aD8 FD8 => ?_
      refine pdone (fun _ => hPY.box) ?_
      exact hrest2 _ _ Y ({ Y1 with drawn := Y1.drawn + 1 } : World).heap.size FD8 (show _ = Value.pointer (some ⟨i.pb, 0, none⟩) from by simp [upd, hs0, hs1, hs5, hs6, hs7]) (show _ = Value.string ⟨n.toArray⟩ from by simp [upd, hs0, hs1, hs5, hs6, hs7]) (show _ = Value.int .i64 T1 from by simp [upd, hs0, hs1, hs5, hs6, hs7]) (show _ = Value.pointer (some ⟨bx, 0, none⟩) from by simp [upd, hs0, hs1, hs5, hs6, hs7]) (show _ = Value.bool T4 from by simp [upd, hs0, hs1, hs5, hs6, hs7]) (show _ = Value.int .i64 T1 from by simp [upd, hs0, hs1, hs5, hs6, hs7]) (show _ = Value.pointer (some ⟨({ Y1 with drawn := Y1.drawn + 1 } : World).heap.size, 0, none⟩) from by simp [upd, hs0, hs1, hs5, hs6, hs7]) (show _ = Value.bool T4 from by simp [upd, hs0, hs1, hs5, hs6, hs7]) hBy hPY hyb
  refine wp_region_plan (fun wq => Blk wq i.pb (pbox i x.ver) 55) (fun i => i == 13 || i == 18 || i == 20 || i == 99) 99 (.one 0 (.one 1 (.one 2 (.one 3 (.one 4 (.one 5 (.one 6 (.one 7 (.one 8 (.one 9 (.one 10 (.one 11 (.one 12 (.two 13 18 (.one 14 (.one 15 (.one 16 (.one 17 (.one 18 (.one 19 (.one 20 (.one 21 (.done))))))))) (.one 13 (.one 14 (.one 15 (.one 16 (.one 17 (.one 19 (.one 20 (.one 21 (.done))))))))))))))))))))))) (by kernel_rfl) rfl (by kernel_rfl) (by kernel_rfl) rfl (by kernel_rfl) ?_
  refine withFrG (N := 105) rfl ?_
  intro a0 f0 F0 hff
  have hs0 : f0 0 = Value.pointer (some ⟨i.pb, 0, none⟩) := hff 0
  have hs1 : f0 1 = Value.string ⟨n.toArray⟩ := hff 1
  clear hff
  have hC0 : (fun wq => Blk wq i.pb (pbox i x.ver) 55) ({ w with drawn := w.drawn + 1 } : World) := HPw.out.box
  refine py (k := 0) rfl F0 rfl hC0 rfl (by omega) (wanted_none rfl) (v := Value.pointer (some ⟨i.pb, 0, none⟩)) (fun wr hwr => by simp only [execOp, (F0.eval 0 (by omega)).trans (show _ = Value.pointer (some ⟨i.pb, 0, none⟩) from by simp [upd, hs0, hs1])]; first | rfl | simp [go_sem]) fun a1 F1 => ?_
  refine py (k := 1) rfl F1 rfl hC0 rfl (by omega) (wanted_none rfl) (v := Value.pointer (some ⟨i.pb, 0, none⟩)) (fun wr hwr => by simp only [execOp, (F1.eval 16 (by omega)).trans (show _ = Value.pointer (some ⟨i.pb, 0, none⟩) from by simp [upd, hs0, hs1])]; simp [go_sem]) fun a2 F2 => ?_
  refine py (k := 2) rfl F2 rfl hC0 rfl (by omega) (wanted_none rfl) (v := Value.pointer (some ⟨i.pb, 3, none⟩)) (fun wr hwr => by simp only [execOp, (F2.eval 17 (by omega)).trans (show _ = Value.pointer (some ⟨i.pb, 0, none⟩) from by simp [upd, hs0, hs1])]; simp [go_sem]) fun a3 F3 => ?_
  refine py (k := 3) rfl F3 rfl hC0 rfl (by omega) (wanted_none rfl) (v := Value.pointer (some ⟨i.gb, 0, none⟩)) (fun wr hwr => by simp only [execOp, (F3.eval 18 (by omega)).trans (show _ = Value.pointer (some ⟨i.pb, 3, none⟩) from by simp [upd, hs0, hs1])]; simp [go_sem, show wr.cell? ⟨i.pb, 3, none⟩ = some (.pointer (some ⟨i.gb, 0, none⟩)) from Blk.cell hwr 3]) fun a4 F4 => ?_
  refine py (k := 4) rfl F4 rfl hC0 rfl (by omega) (wanted_none rfl) (v := Value.string ⟨n.toArray⟩) (fun wr hwr => by simp only [execOp, (F4.eval 1 (by omega)).trans (show _ = Value.string ⟨n.toArray⟩ from by simp [upd, hs0, hs1])]; first | rfl | simp [go_sem]) fun a5 F5 => ?_
  refine py (k := 5) rfl F5 rfl hC0 rfl (by omega) (wanted_none rfl) (v := Value.pointer (some ⟨i.pb, 0, none⟩)) (fun wr hwr => by simp only [execOp, (F5.eval 0 (by omega)).trans (show _ = Value.pointer (some ⟨i.pb, 0, none⟩) from by simp [upd, hs0, hs1])]; first | rfl | simp [go_sem]) fun a6 F6 => ?_
  refine py (k := 6) rfl F6 rfl hC0 rfl (by omega) (wanted_none rfl) (v := Value.pointer (some ⟨i.pb, 0, none⟩)) (fun wr hwr => by simp only [execOp, (F6.eval 21 (by omega)).trans (show _ = Value.pointer (some ⟨i.pb, 0, none⟩) from by simp [upd, hs0, hs1])]; simp [go_sem]) fun a7 F7 => ?_
  refine py (k := 7) rfl F7 rfl hC0 rfl (by omega) (wanted_none rfl) (v := Value.pointer (some ⟨i.pb, 4, none⟩)) (fun wr hwr => by simp only [execOp, (F7.eval 22 (by omega)).trans (show _ = Value.pointer (some ⟨i.pb, 0, none⟩) from by simp [upd, hs0, hs1])]; simp [go_sem]) fun a8 F8 => ?_
  refine py (k := 8) rfl F8 rfl hC0 rfl (by omega) (wanted_none rfl) (v := Value.pointer (some ⟨i.lb, 0, none⟩)) (fun wr hwr => by simp only [execOp, (F8.eval 23 (by omega)).trans (show _ = Value.pointer (some ⟨i.pb, 4, none⟩) from by simp [upd, hs0, hs1])]; simp [go_sem, show wr.cell? ⟨i.pb, 4, none⟩ = some (.pointer (some ⟨i.lb, 0, none⟩)) from Blk.cell hwr 4]) fun a9 F9 => ?_
  refine py (k := 9) rfl F9 rfl hC0 rfl (by omega) (wanted_none rfl) (v := Value.pointer (some ⟨i.pb, 0, none⟩)) (fun wr hwr => by simp only [execOp, (F9.eval 0 (by omega)).trans (show _ = Value.pointer (some ⟨i.pb, 0, none⟩) from by simp [upd, hs0, hs1])]; first | rfl | simp [go_sem]) fun a10 F10 => ?_
  refine py (k := 10) rfl F10 rfl hC0 rfl (by omega) (wanted_none rfl) (v := Value.pointer (some ⟨i.pb, 0, none⟩)) (fun wr hwr => by simp only [execOp, (F10.eval 25 (by omega)).trans (show _ = Value.pointer (some ⟨i.pb, 0, none⟩) from by simp [upd, hs0, hs1])]; simp [go_sem]) fun a11 F11 => ?_
  refine py (k := 11) rfl F11 rfl hC0 rfl (by omega) (wanted_none rfl) (v := Value.pointer (some ⟨i.pb, 5, none⟩)) (fun wr hwr => by simp only [execOp, (F11.eval 26 (by omega)).trans (show _ = Value.pointer (some ⟨i.pb, 0, none⟩) from by simp [upd, hs0, hs1])]; simp [go_sem]) fun a12 F12 => ?_
  refine py (k := 12) rfl F12 rfl hC0 rfl (by omega) (wanted_none rfl) (v := Value.pointer (some ⟨i.hb, 0, none⟩)) (fun wr hwr => by simp only [execOp, (F12.eval 27 (by omega)).trans (show _ = Value.pointer (some ⟨i.pb, 5, none⟩) from by simp [upd, hs0, hs1])]; simp [go_sem, show wr.cell? ⟨i.pb, 5, none⟩ = some (.pointer (some ⟨i.hb, 0, none⟩)) from Blk.cell hwr 5]) fun a13 F13 => ?_
  refine pfork hC0 ?_ ?_
  · have hPD := PS.more HPw.out (Below.drew (Below.refl w.heap.size w))
    refine pc' (k := 13) rfl F13 rfl rfl (by omega) (wanted_none rfl) (g := 13) (args := #[Value.pointer (some ⟨i.gb, 0, none⟩), Value.string ⟨n.toArray⟩, Value.pointer (some ⟨i.lb, 0, none⟩), Value.pointer (some ⟨i.hb, 0, none⟩)]) (by simp only [execOp, resolve, invoke, List.map_toArray, List.map_cons, List.map_nil, (F13.eval 19 (by omega)).trans (show _ = Value.pointer (some ⟨i.gb, 0, none⟩) from by simp [upd, hs0, hs1]), (F13.eval 20 (by omega)).trans (show _ = Value.string ⟨n.toArray⟩ from by simp [upd, hs0, hs1]), (F13.eval 24 (by omega)).trans (show _ = Value.pointer (some ⟨i.lb, 0, none⟩) from by simp [upd, hs0, hs1]), (F13.eval 28 (by omega)).trans (show _ = Value.pointer (some ⟨i.hb, 0, none⟩) from by simp [upd, hs0, hs1])]; simp [go_sem, Act.eval]) (HTI.out ({ w with drawn := w.drawn + 1 } : World) (PS.more HPw.out (Below.drew (Below.refl w.heap.size w)))) ?_
    rintro e9 V1 ⟨rfl, hP1, h36, hsz⟩
    refine ⟨_, rfl, fun aA1 FA1 => ?_⟩
    refine py (k := 14) rfl FA1 rfl hP1.box rfl (by omega) (wanted_none rfl) (v := Value.tuple #[.int .i64 T1, .agg #[.int .i64 T2, .int .i64 T3], .bool T4]) (fun wr hwr => by simp only [execOp, (FA1.eval 29 (by omega)).trans (show _ = Value.tuple #[.int .i64 T1, .agg #[.int .i64 T2, .int .i64 T3], .bool T4] from by simp [upd, hs0, hs1])]; first | rfl | simp [go_sem]) fun aA2 FA2 => ?_
    refine py (k := 15) rfl FA2 rfl hP1.box rfl (by omega) (wanted_none rfl) (v := Value.int .i64 T1) (fun wr hwr => by simp only [execOp, (FA2.eval 15 (by omega)).trans (show _ = Value.tuple #[.int .i64 T1, .agg #[.int .i64 T2, .int .i64 T3], .bool T4] from by simp [upd, hs0, hs1])]; simp [go_sem]) fun aA3 FA3 => ?_
    refine py (k := 16) rfl FA3 rfl hP1.box rfl (by omega) (wanted_none rfl) (v := Value.agg #[.int .i64 T2, .int .i64 T3]) (fun wr hwr => by simp only [execOp, (FA3.eval 15 (by omega)).trans (show _ = Value.tuple #[.int .i64 T1, .agg #[.int .i64 T2, .int .i64 T3], .bool T4] from by simp [upd, hs0, hs1])]; simp [go_sem]) fun aA4 FA4 => ?_
    refine py (k := 17) rfl FA4 rfl hP1.box rfl (by omega) (wanted_none rfl) (v := Value.bool T4) (fun wr hwr => by simp only [execOp, (FA4.eval 15 (by omega)).trans (show _ = Value.tuple #[.int .i64 T1, .agg #[.int .i64 T2, .int .i64 T3], .bool T4] from by simp [upd, hs0, hs1])]; simp [go_sem]) fun aA5 FA5 => ?_
    refine pe (k := 18) rfl FA5 rfl hP1.box rfl (by omega) (wanted_none rfl) (v := Value.pointer (some ⟨V1.heap.size, 0, none⟩)) (w1 := V1.alloc (.cells #[.int .i64 0, .int .i64 0] 36)) (by simp only [execOp]; simp [go_sem, zero36]) fun aA6 FA6 => ?_
    have hBz : Blk (V1.alloc (.cells #[.int .i64 0, .int .i64 0] 36)) V1.heap.size #[.int .i64 0, .int .i64 0] 36 := heap_alloc_new V1 _
    have hbz : Below V1.heap.size V1 (V1.alloc (.cells #[.int .i64 0, .int .i64 0] 36)) := (Below.refl _ _).alloc (Nat.le_refl _) _
    have hPz := PS.more (hP1) hbz
    have hlz : w.heap.size ≤ V1.heap.size := (PS.chg (hP1)).size
    refine py (k := 19) rfl FA6 rfl hPz.box rfl (by omega) (wanted_none rfl) (v := Value.int .i64 T1) (fun wr hwr => by simp only [execOp, (FA6.eval 30 (by omega)).trans (show _ = Value.int .i64 T1 from by simp [upd, hs0, hs1])]; first | rfl | simp [go_sem]) fun aA7 FA7 => ?_
    obtain ⟨Y, hY⟩ : ∃ Y, Y = ((World.setCell (V1.alloc (.cells #[.int .i64 0, .int .i64 0] 36)) ⟨V1.heap.size, 0, none⟩ (.int .i64 T2)).setCell ⟨V1.heap.size, 1, none⟩ (.int .i64 T3)) := ⟨_, rfl⟩
    have hBy : Blk Y V1.heap.size #[.int .i64 T2, .int .i64 T3] 36 := by rw [hY]; exact (Blk.set hBz 0 (.int .i64 T2)).set 1 (.int .i64 T3)
    have hc2 : Chg (fun k => k = V1.heap.size) (V1.alloc (.cells #[.int .i64 0, .int .i64 0] 36)) Y := by rw [hY]; exact (setCell_chg _ _ 0 _).trans (setCell_chg _ _ 1 _) (fun _ _ e => e)
    have hPY := PS.box36 (hPz) hBz hlz hc2
    refine ps (k := 20) rfl rfl (hPz.box) rfl (wanted_none rfl) (w1 := Y) (by rw [hY]; exact storeR hBz T2 T3 rfl ((FA7.eval 6 (by omega)).trans (show _ = Value.pointer (some ⟨V1.heap.size, 0, none⟩) from by simp [upd, hs0, hs1])) ((FA7.eval 31 (by omega)).trans (show _ = Value.agg #[.int .i64 T2, .int .i64 T3] from by simp [upd, hs0, hs1]))) ?_
    refine py (k := 21) rfl FA7 rfl hPY.box rfl (by omega) (wanted_none rfl) (v := Value.bool T4) (fun wr hwr => by simp only [execOp, (FA7.eval 32 (by omega)).trans (show _ = Value.bool T4 from by simp [upd, hs0, hs1])]; first | rfl | simp [go_sem]) fun aA8 FA8 => ?_
    refine pdone (fun _ => hPY.box) ?_
    exact hrest1 _ _ Y V1.heap.size FA8 (show _ = Value.pointer (some ⟨i.pb, 0, none⟩) from by simp [upd, hs0, hs1]) (show _ = Value.string ⟨n.toArray⟩ from by simp [upd, hs0, hs1]) (show _ = Value.int .i64 T1 from by simp [upd, hs0, hs1]) (show _ = Value.pointer (some ⟨V1.heap.size, 0, none⟩) from by simp [upd, hs0, hs1]) (show _ = Value.bool T4 from by simp [upd, hs0, hs1]) hBy hPY
  · refine pe' (k := 18) rfl F13 rfl rfl (by omega) (wanted_none rfl) (v := Value.pointer (some ⟨({ w with drawn := w.drawn + 1 } : World).heap.size, 0, none⟩)) (w1 := ({ w with drawn := w.drawn + 1 } : World).alloc (.cells #[.int .i64 0, .int .i64 0] 36)) (by simp only [execOp]; simp [go_sem, zero36]) fun aD1 FD1 => ?_
    have hBz : Blk (({ w with drawn := w.drawn + 1 } : World).alloc (.cells #[.int .i64 0, .int .i64 0] 36)) ({ w with drawn := w.drawn + 1 } : World).heap.size #[.int .i64 0, .int .i64 0] 36 := heap_alloc_new ({ w with drawn := w.drawn + 1 } : World) _
    have hbz : Below ({ w with drawn := w.drawn + 1 } : World).heap.size ({ w with drawn := w.drawn + 1 } : World) (({ w with drawn := w.drawn + 1 } : World).alloc (.cells #[.int .i64 0, .int .i64 0] 36)) := (Below.refl _ _).alloc (Nat.le_refl _) _
    have hPz := PS.more (PS.more HPw.out (Below.drew (Below.refl w.heap.size w))) hbz
    have hlz : w.heap.size ≤ ({ w with drawn := w.drawn + 1 } : World).heap.size := (PS.chg (PS.more HPw.out (Below.drew (Below.refl w.heap.size w)))).size
    refine pc (k := 13) rfl FD1 rfl hPz.box rfl (by omega) (wanted_none rfl) (g := 13) (args := #[Value.pointer (some ⟨i.gb, 0, none⟩), Value.string ⟨n.toArray⟩, Value.pointer (some ⟨i.lb, 0, none⟩), Value.pointer (some ⟨i.hb, 0, none⟩)]) (by simp only [execOp, resolve, invoke, List.map_toArray, List.map_cons, List.map_nil, (FD1.eval 19 (by omega)).trans (show _ = Value.pointer (some ⟨i.gb, 0, none⟩) from by simp [upd, hs0, hs1]), (FD1.eval 20 (by omega)).trans (show _ = Value.string ⟨n.toArray⟩ from by simp [upd, hs0, hs1]), (FD1.eval 24 (by omega)).trans (show _ = Value.pointer (some ⟨i.lb, 0, none⟩) from by simp [upd, hs0, hs1]), (FD1.eval 28 (by omega)).trans (show _ = Value.pointer (some ⟨i.hb, 0, none⟩) from by simp [upd, hs0, hs1])]; simp [go_sem, Act.eval]) (HTI.out (({ w with drawn := w.drawn + 1 } : World).alloc (.cells #[.int .i64 0, .int .i64 0] 36)) hPz) ?_
    rintro e9 V1 ⟨rfl, hP1, h36, hsz⟩
    refine ⟨_, rfl, fun aD2 FD2 => ?_⟩
    have hBa := h36 _ _ hBz
    refine py (k := 14) rfl FD2 rfl hP1.box rfl (by omega) (wanted_none rfl) (v := Value.tuple #[.int .i64 T1, .agg #[.int .i64 T2, .int .i64 T3], .bool T4]) (fun wr hwr => by simp only [execOp, (FD2.eval 29 (by omega)).trans (show _ = Value.tuple #[.int .i64 T1, .agg #[.int .i64 T2, .int .i64 T3], .bool T4] from by simp [upd, hs0, hs1])]; first | rfl | simp [go_sem]) fun aD3 FD3 => ?_
    refine py (k := 15) rfl FD3 rfl hP1.box rfl (by omega) (wanted_none rfl) (v := Value.int .i64 T1) (fun wr hwr => by simp only [execOp, (FD3.eval 15 (by omega)).trans (show _ = Value.tuple #[.int .i64 T1, .agg #[.int .i64 T2, .int .i64 T3], .bool T4] from by simp [upd, hs0, hs1])]; simp [go_sem]) fun aD4 FD4 => ?_
    refine py (k := 16) rfl FD4 rfl hP1.box rfl (by omega) (wanted_none rfl) (v := Value.agg #[.int .i64 T2, .int .i64 T3]) (fun wr hwr => by simp only [execOp, (FD4.eval 15 (by omega)).trans (show _ = Value.tuple #[.int .i64 T1, .agg #[.int .i64 T2, .int .i64 T3], .bool T4] from by simp [upd, hs0, hs1])]; simp [go_sem]) fun aD5 FD5 => ?_
    refine py (k := 17) rfl FD5 rfl hP1.box rfl (by omega) (wanted_none rfl) (v := Value.bool T4) (fun wr hwr => by simp only [execOp, (FD5.eval 15 (by omega)).trans (show _ = Value.tuple #[.int .i64 T1, .agg #[.int .i64 T2, .int .i64 T3], .bool T4] from by simp [upd, hs0, hs1])]; simp [go_sem]) fun aD6 FD6 => ?_
    refine py (k := 19) rfl FD6 rfl hP1.box rfl (by omega) (wanted_none rfl) (v := Value.int .i64 T1) (fun wr hwr => by simp only [execOp, (FD6.eval 30 (by omega)).trans (show _ = Value.int .i64 T1 from by simp [upd, hs0, hs1])]; first | rfl | simp [go_sem]) fun aD7 FD7 => ?_
    obtain ⟨Y, hY⟩ : ∃ Y, Y = ((World.setCell V1 ⟨({ w with drawn := w.drawn + 1 } : World).heap.size, 0, none⟩ (.int .i64 T2)).setCell ⟨({ w with drawn := w.drawn + 1 } : World).heap.size, 1, none⟩ (.int .i64 T3)) := ⟨_, rfl⟩
    have hBy : Blk Y ({ w with drawn := w.drawn + 1 } : World).heap.size #[.int .i64 T2, .int .i64 T3] 36 := by rw [hY]; exact (Blk.set hBa 0 (.int .i64 T2)).set 1 (.int .i64 T3)
    have hc2 : Chg (fun k => k = ({ w with drawn := w.drawn + 1 } : World).heap.size) V1 Y := by rw [hY]; exact (setCell_chg _ _ 0 _).trans (setCell_chg _ _ 1 _) (fun _ _ e => e)
    have hPY := PS.box36 (hP1) hBa hlz hc2
    refine ps (k := 20) rfl rfl (hP1.box) rfl (wanted_none rfl) (w1 := Y) (by rw [hY]; exact storeR hBa T2 T3 rfl ((FD7.eval 6 (by omega)).trans (show _ = Value.pointer (some ⟨({ w with drawn := w.drawn + 1 } : World).heap.size, 0, none⟩) from by simp [upd, hs0, hs1])) ((FD7.eval 31 (by omega)).trans (show _ = Value.agg #[.int .i64 T2, .int .i64 T3] from by simp [upd, hs0, hs1]))) ?_
    refine py (k := 21) rfl FD7 rfl hPY.box rfl (by omega) (wanted_none rfl) (v := Value.bool T4) (fun wr hwr => by simp only [execOp, (FD7.eval 32 (by omega)).trans (show _ = Value.bool T4 from by simp [upd, hs0, hs1])]; first | rfl | simp [go_sem]) fun aD8 FD8 => ?_
    refine pdone (fun _ => hPY.box) ?_
    exact hrest1 _ _ Y ({ w with drawn := w.drawn + 1 } : World).heap.size FD8 (show _ = Value.pointer (some ⟨i.pb, 0, none⟩) from by simp [upd, hs0, hs1]) (show _ = Value.string ⟨n.toArray⟩ from by simp [upd, hs0, hs1]) (show _ = Value.int .i64 T1 from by simp [upd, hs0, hs1]) (show _ = Value.pointer (some ⟨({ w with drawn := w.drawn + 1 } : World).heap.size, 0, none⟩) from by simp [upd, hs0, hs1]) (show _ = Value.bool T4 from by simp [upd, hs0, hs1]) hBy hPY
end Go.Proofs.YtjmbhaoehfdpoaaDoor
