import Derived.Test.YtneiomimjgfbpaaJoinI
namespace Go.Proofs.Ytneiomimjgfbpaa
open Go.RowKit Go.PlainAid
set_option linter.unusedSimpArgs false
set_option linter.unusedVariables false
set_option maxRecDepth 100000 in
set_option maxHeartbeats 3200000 in
theorem rmsg0_any (hb : Nat) (ao : Option Addr) (n cap : Nat) (bs : List UInt8) (st : Nat × Bool) (w : World) (hS : RdB w hb ao n cap bs st) (hsm : n ≤ 140737488355328) (hrm : n ≤ cap) (hnil : ao = none → n = 0 ∧ cap = 0) (hform : ao = none ∨ ∃ b off, ao = some ⟨b, off, none⟩) (hab : ∀ b o, ao = some ⟨b, o, none⟩ → b < w.heap.size) (r0 : Int × Nat × Bool) (h0 : rstep (num 1 10) 0 bs st = r0) (hk : r0.1 = 0) :
    Calls Try.prog 87 #[.pointer (some ⟨hb, 0, none⟩)] w fun e w' => MsgAns w (p0 bs r0.2) e w' ∧ RdB w' hb ao n cap bs (p0 bs r0.2).2 ∧ RX hb w w' := by
  have HN : Hid (∀ r1 r2 r3 r4 r5 r6 r7, nstep [] bs r0.2 = r1 → rstep (num 1 1099511627776) 0 bs r1.2 = r2 → rstep (num 0 1099511627776) 0 bs r2.2 = r3 → rstep (num 1 1099511627776) 0 bs r3.2 = r4 → rstep (num 0 15) 0 bs r4.2 = r5 → rstep (num 0 1099511627776) 0 bs r5.2 = r6 → rstep (num 0 1099511627776) 0 bs r6.2 = r7 → p0 bs r0.2 = ({ Msg.zero with kind := 0, name := r1.1, cap := r2.1, recaps := r3.1, round := r4.1, rank := r5.1, down := r6.1, up := r7.1 }, r7.2)) := by
    intro r1 r2 r3 r4 r5 r6 r7 hr1 hr2 hr3 hr4 hr5 hr6 hr7
    subst hr1 hr2 hr3 hr4 hr5 hr6 hr7
    rfl
  have hlt := hS.blk.lt
  generalize hpp : p0 bs r0.2 = pp at *
  clear hpp
  refine calls_of_wp Try.func87 rfl ?_
  have e : Try.f87.ntmps - (#[Value.pointer (some ⟨hb, 0, none⟩)] : Array Value).size = 84 := by rw [Try.ntmps87]; rfl
  rw [e]
  have hF0 := m_frame (.pointer (some ⟨hb, 0, none⟩)) 84
  generalize ({ tmps := #[Value.pointer (some ⟨hb, 0, none⟩)] ++ Array.replicate 84 undef, defers := [] } : Act) = a0 at *
  refine mstart hF0 rfl hS hsm rfl rfl rfl rfl rfl rfl rfl rfl rfl rfl rfl rfl rfl rfl rfl rfl rfl rfl (fun ev W hcst hfn h => by simp only [execOp, resolve, invoke, List.map_toArray, List.map_cons, List.map_nil, h, hcst, hfn]; simp [go_sem]) rfl rfl rfl rfl rfl ?_
  clear hS hF0 e
  rw [h0, hk]
  clear h0 hk
  intro a f W hF h0 h2 h3 h8 hS
  obtain ⟨cc0, HC0, hs0, h00⟩ : ∃ cc : Array Value, Hid (cc = kindM 0) ∧ cc.size = 20 ∧ cc[0]? = some (.int .i64 0) := ⟨_, rfl, rfl, rfl⟩
  rw [← HC0.out] at hS
  refine wp_block ?_
  refine wp_seq ?_
  refine wp_region_list ?_
  refine m_swt (d := 9) false hF h0 h2 h3 h8 (by omega) (by omega) rfl rfl rfl rfl (fun ev hcst h => by simp only [execOp, h, hcst]; simp [go_sem]) (fun ev h => by simp only [execOp, h]; rfl) ?_
  intro a f hF h0 h2 h3 h8 hp
  show Code.wp _ _ _ _ _
  refine wp_cond_false ((hF.eval 9 (by omega)).trans hp) ?_
  clear hp
  refine wp_seq ?_
  refine wp_region_list ?_
  refine m_swt (d := 18) false hF h0 h2 h3 h8 (by omega) (by omega) rfl rfl rfl rfl (fun ev hcst h => by simp only [execOp, h, hcst]; simp [go_sem]) (fun ev h => by simp only [execOp, h]; rfl) ?_
  intro a f hF h0 h2 h3 h8 hp
  show Code.wp _ _ _ _ _
  refine wp_cond_false ((hF.eval 18 (by omega)).trans hp) ?_
  clear hp
  refine wp_seq ?_
  refine wp_region_list ?_
  refine m_swt (d := 44) false hF h0 h2 h3 h8 (by omega) (by omega) rfl rfl rfl rfl (fun ev hcst h => by simp only [execOp, h, hcst]; simp [go_sem]) (fun ev h => by simp only [execOp, h]; rfl) ?_
  intro a f hF h0 h2 h3 h8 hp
  show Code.wp _ _ _ _ _
  refine wp_cond_false ((hF.eval 44 (by omega)).trans hp) ?_
  clear hp
  refine wp_skip ?_
  show Code.wp _ _ _ _ _
  refine wp_seq ?_
  refine wp_region_list ?_
  have hc : Calls Try.prog 100 #[_, .string ⟨#[]⟩] W _ := rname2_any hb ao n cap bs [] r0.2 W hS.rd hsm hrm hnil hform
  refine m_fld (d := 50) hF h0 h2 h3 h8 (by omega) (by omega) rfl rfl rfl rfl rfl rfl rfl rfl rfl (fun ev hcst hfn h => by simp only [execOp, resolve, invoke, List.map_toArray, List.map_cons, List.map_nil, h, hcst, hfn]; simp [go_sem]) hc ?_
  rintro e x ⟨rfl, hT, hX⟩
  replace HN : Hid _ := fun r2 r3 r4 r5 r6 r7 => HN.out _ r2 r3 r4 r5 r6 r7 rfl
  generalize nstep [] bs r0.2 = r1 at *
  unfold Str
  have hD := hS.rw hlt hT (RX.of hX)
  obtain ⟨u1, hu1⟩ := arr20 hs0 1 (by decide)
  have c1 : x.cell? ⟨w.heap.size + 1, 1, none⟩ = some u1 := (hD.blk.cell 1).trans hu1
  have z1 := hD.blk.frozen 1
  have hS2 : DX w hb ao n cap bs r1.2 zeroC (cc0.setIfInBounds 1 (.string ⟨r1.1.toArray⟩)) 35 (x.setCell ⟨w.heap.size + 1, 1, none⟩ (.string ⟨r1.1.toArray⟩)) := (hD.set hlt hab 1 _)
  refine ⟨_, PA (w.heap.size + 1) 1, (x.setCell ⟨w.heap.size + 1, 1, none⟩ (.string ⟨r1.1.toArray⟩)), rfl, fun ev h => by simp only [execOp, h]; simp [go_sem], fun ev h h' => by simp only [execOp, h, h']; simp [go_sem, c1, z1], ?_⟩
  obtain ⟨cc1, HC1, hs1, h01⟩ : ∃ cc : Array Value, Hid (cc = (cc0.setIfInBounds 1 (.string ⟨r1.1.toArray⟩))) ∧ cc.size = 20 ∧ cc[0]? = some (.int .i64 0) := ⟨_, rfl, (set20 hs0 1 _), (set0 h00 1 _ (by decide))⟩
  rw [← HC1.out] at hS2
  clear hD hS hc hT hX hs0 h00 c1 z1 hu1 hF h0 h2 h3 h8
  generalize (x.setCell ⟨w.heap.size + 1, 1, none⟩ (.string ⟨r1.1.toArray⟩)) = W at *
  have hS := hS2
  clear hS2
  intro a f hF h0 h2 h3 h8
  show Code.wp _ _ _ _ _
  refine wp_seq ?_
  refine wp_region_list ?_
  have hc := rnum_any hb ao n cap bs r1.2 1 1099511627776 (by omega) (by omega) W hS.rd hsm
  refine m_fld (d := 53) hF h0 h2 h3 h8 (by omega) (by omega) rfl rfl rfl rfl rfl rfl rfl rfl rfl (fun ev hcst hfn h => by simp only [execOp, resolve, invoke, List.map_toArray, List.map_cons, List.map_nil, h, hcst, hfn]; simp [go_sem]) hc ?_
  rintro e x ⟨rfl, hT, hX⟩
  replace HN : Hid _ := fun r3 r4 r5 r6 r7 => HN.out _ r3 r4 r5 r6 r7 rfl
  generalize rstep (num 1 1099511627776) 0 bs r1.2 = r2 at *
  have hD := hS.rw hlt hT (RX.of hX)
  obtain ⟨u2, hu2⟩ := arr20 hs1 2 (by decide)
  have c2 : x.cell? ⟨w.heap.size + 1, 2, none⟩ = some u2 := (hD.blk.cell 2).trans hu2
  have z2 := hD.blk.frozen 2
  have hS2 : DX w hb ao n cap bs r2.2 zeroC (cc1.setIfInBounds 2 (.int .i64 r2.1)) 35 (x.setCell ⟨w.heap.size + 1, 2, none⟩ (.int .i64 r2.1)) := (hD.set hlt hab 2 _)
  refine ⟨_, PA (w.heap.size + 1) 2, (x.setCell ⟨w.heap.size + 1, 2, none⟩ (.int .i64 r2.1)), rfl, fun ev h => by simp only [execOp, h]; simp [go_sem], fun ev h h' => by simp only [execOp, h, h']; simp [go_sem, c2, z2], ?_⟩
  obtain ⟨cc2, HC2, hs2, h02⟩ : ∃ cc : Array Value, Hid (cc = (cc1.setIfInBounds 2 (.int .i64 r2.1))) ∧ cc.size = 20 ∧ cc[0]? = some (.int .i64 0) := ⟨_, rfl, (set20 hs1 2 _), (set0 h01 2 _ (by decide))⟩
  rw [← HC2.out] at hS2
  clear hD hS hc hT hX hs1 h01 c2 z2 hu2 hF h0 h2 h3 h8
  generalize (x.setCell ⟨w.heap.size + 1, 2, none⟩ (.int .i64 r2.1)) = W at *
  have hS := hS2
  clear hS2
  intro a f hF h0 h2 h3 h8
  show Code.wp _ _ _ _ _
  refine wp_seq ?_
  refine wp_region_list ?_
  have hc := rnum_any hb ao n cap bs r2.2 0 1099511627776 (by omega) (by omega) W hS.rd hsm
  refine m_fld (d := 56) hF h0 h2 h3 h8 (by omega) (by omega) rfl rfl rfl rfl rfl rfl rfl rfl rfl (fun ev hcst hfn h => by simp only [execOp, resolve, invoke, List.map_toArray, List.map_cons, List.map_nil, h, hcst, hfn]; simp [go_sem]) hc ?_
  rintro e x ⟨rfl, hT, hX⟩
  replace HN : Hid _ := fun r4 r5 r6 r7 => HN.out _ r4 r5 r6 r7 rfl
  generalize rstep (num 0 1099511627776) 0 bs r2.2 = r3 at *
  have hD := hS.rw hlt hT (RX.of hX)
  obtain ⟨u3, hu3⟩ := arr20 hs2 3 (by decide)
  have c3 : x.cell? ⟨w.heap.size + 1, 3, none⟩ = some u3 := (hD.blk.cell 3).trans hu3
  have z3 := hD.blk.frozen 3
  have hS2 : DX w hb ao n cap bs r3.2 zeroC (cc2.setIfInBounds 3 (.int .i64 r3.1)) 35 (x.setCell ⟨w.heap.size + 1, 3, none⟩ (.int .i64 r3.1)) := (hD.set hlt hab 3 _)
  refine ⟨_, PA (w.heap.size + 1) 3, (x.setCell ⟨w.heap.size + 1, 3, none⟩ (.int .i64 r3.1)), rfl, fun ev h => by simp only [execOp, h]; simp [go_sem], fun ev h h' => by simp only [execOp, h, h']; simp [go_sem, c3, z3], ?_⟩
  obtain ⟨cc3, HC3, hs3, h03⟩ : ∃ cc : Array Value, Hid (cc = (cc2.setIfInBounds 3 (.int .i64 r3.1))) ∧ cc.size = 20 ∧ cc[0]? = some (.int .i64 0) := ⟨_, rfl, (set20 hs2 3 _), (set0 h02 3 _ (by decide))⟩
  rw [← HC3.out] at hS2
  clear hD hS hc hT hX hs2 h02 c3 z3 hu3 hF h0 h2 h3 h8
  generalize (x.setCell ⟨w.heap.size + 1, 3, none⟩ (.int .i64 r3.1)) = W at *
  have hS := hS2
  clear hS2
  intro a f hF h0 h2 h3 h8
  show Code.wp _ _ _ _ _
  refine wp_seq ?_
  refine wp_seq ?_
  refine wp_region_list ?_
  have k0 : W.cell? ⟨w.heap.size + 1, 0, none⟩ = some (.int .i64 0) := (hS.blk.cell 0).trans h03
  refine m_tst (d := 59) (p1 := PA (w.heap.size + 1) 0) (u := .int .i64 0) true hF h0 h2 h3 h8 (by omega) (by omega) rfl rfl rfl rfl rfl rfl (fun ev h => by simp only [execOp, h]; simp [go_sem]) (fun ev h => by simp only [execOp, h]; simp [go_sem, k0]) (fun ev hcst h => by simp only [execOp, h, hcst]; simp [go_sem]) ?_
  clear k0 hF h0 h2 h3 h8
  intro a f hF h0 h2 h3 h8 hp
  refine wpList_nil ?_
  show Code.wp _ _ _ _ _
  refine wp_cond_true ((hF.eval 61 (by omega)).trans hp) ?_
  clear hp
  refine wp_region_list ?_
  have hc := repoch2_any hb ao n cap bs r3.2 W hS.rd hsm (fun b o e => by have := hab b o e; have := hS.rx.size; omega) _ _ rfl rfl
  refine m_fld (d := 62) hF h0 h2 h3 h8 (by omega) (by omega) rfl rfl rfl rfl rfl rfl rfl rfl rfl (fun ev hcst hfn h => by simp only [execOp, resolve, invoke, List.map_toArray, List.map_cons, List.map_nil, h, hcst, hfn]; simp [go_sem]) hc ?_
  rintro e x ⟨rfl, hT, hX⟩
  replace HN : Hid _ := fun r5 r6 r7 => HN.out _ r5 r6 r7 rfl
  generalize rstep (num 1 1099511627776) 0 bs r3.2 = r4 at *
  replace HN : Hid _ := fun r6 r7 => HN.out _ r6 r7 rfl
  generalize rstep (num 0 15) 0 bs r4.2 = r5 at *
  unfold two
  have hD := hS.rw hlt hT (hX)
  obtain ⟨u4, hu4⟩ := arr20 hs3 4 (by decide)
  have c4 : x.cell? ⟨w.heap.size + 1, 4, none⟩ = some u4 := (hD.blk.cell 4).trans hu4
  have z4 := hD.blk.frozen 4
  obtain ⟨u5, hu5⟩ := arr20 hs3 5 (by decide)
  have c5 : x.cell? ⟨w.heap.size + 1, 5, none⟩ = some u5 := (hD.blk.cell 5).trans hu5
  have z5 := hD.blk.frozen 5
  have hS2 : DX w hb ao n cap bs r5.2 zeroC ((cc3.setIfInBounds 4 (.int .i64 r4.1)).setIfInBounds 5 (.int .i64 r5.1)) 35 ((x.setCell ⟨w.heap.size + 1, 4, none⟩ (.int .i64 r4.1)).setCell ⟨w.heap.size + 1, 5, none⟩ (.int .i64 r5.1)) := ((hD.set hlt hab 4 _).set hlt hab 5 _)
  refine ⟨_, PA (w.heap.size + 1) 4, ((x.setCell ⟨w.heap.size + 1, 4, none⟩ (.int .i64 r4.1)).setCell ⟨w.heap.size + 1, 5, none⟩ (.int .i64 r5.1)), rfl, fun ev h => by simp only [execOp, h]; simp [go_sem], fun ev h h' => by simp only [execOp, h, h']; simp [go_sem, c4, z4, c5, z5], ?_⟩
  obtain ⟨cc4, HC4, hs4, h04⟩ : ∃ cc : Array Value, Hid (cc = ((cc3.setIfInBounds 4 (.int .i64 r4.1)).setIfInBounds 5 (.int .i64 r5.1))) ∧ cc.size = 20 ∧ cc[0]? = some (.int .i64 0) := ⟨_, rfl, (set20 (set20 hs3 4 _) 5 _), (set0 (set0 h03 4 _ (by decide)) 5 _ (by decide))⟩
  rw [← HC4.out] at hS2
  clear hD hS hc hT hX hs3 h03 c4 z4 hu4 c5 z5 hu5 hF h0 h2 h3 h8
  generalize ((x.setCell ⟨w.heap.size + 1, 4, none⟩ (.int .i64 r4.1)).setCell ⟨w.heap.size + 1, 5, none⟩ (.int .i64 r5.1)) = W at *
  have hS := hS2
  clear hS2
  intro a f hF h0 h2 h3 h8
  show Code.wp _ _ _ _ _
  refine wp_seq ?_
  refine wp_seq ?_
  refine wp_region_list ?_
  have k0 : W.cell? ⟨w.heap.size + 1, 0, none⟩ = some (.int .i64 0) := (hS.blk.cell 0).trans h04
  refine m_tst (d := 65) (p1 := PA (w.heap.size + 1) 0) (u := .int .i64 0) false hF h0 h2 h3 h8 (by omega) (by omega) rfl rfl rfl rfl rfl rfl (fun ev h => by simp only [execOp, h]; simp [go_sem]) (fun ev h => by simp only [execOp, h]; simp [go_sem, k0]) (fun ev hcst h => by simp only [execOp, h, hcst]; simp [go_sem]) ?_
  clear k0 hF h0 h2 h3 h8
  intro a f hF h0 h2 h3 h8 hp
  refine wpList_nil ?_
  show Code.wp _ _ _ _ _
  refine wp_cond_false ((hF.eval 67 (by omega)).trans hp) ?_
  clear hp
  refine wp_skip ?_
  show Code.wp _ _ _ _ _
  refine wp_seq ?_
  refine wp_seq ?_
  refine wp_region_list ?_
  have k0 : W.cell? ⟨w.heap.size + 1, 0, none⟩ = some (.int .i64 0) := (hS.blk.cell 0).trans h04
  refine m_tst (d := 72) (p1 := PA (w.heap.size + 1) 0) (u := .int .i64 0) true hF h0 h2 h3 h8 (by omega) (by omega) rfl rfl rfl rfl rfl rfl (fun ev h => by simp only [execOp, h]; simp [go_sem]) (fun ev h => by simp only [execOp, h]; simp [go_sem, k0]) (fun ev hcst h => by simp only [execOp, h, hcst]; simp [go_sem]) ?_
  clear k0 hF h0 h2 h3 h8
  intro a f hF h0 h2 h3 h8 hp
  refine wpList_nil ?_
  show Code.wp _ _ _ _ _
  refine wp_cond_true ((hF.eval 74 (by omega)).trans hp) ?_
  clear hp
  refine wp_region_list ?_
  have hc := rrights2_any hb ao n cap bs r5.2 W hS.rd hsm (fun b o e => by have := hab b o e; have := hS.rx.size; omega) _ _ rfl rfl
  refine m_fld (d := 75) hF h0 h2 h3 h8 (by omega) (by omega) rfl rfl rfl rfl rfl rfl rfl rfl rfl (fun ev hcst hfn h => by simp only [execOp, resolve, invoke, List.map_toArray, List.map_cons, List.map_nil, h, hcst, hfn]; simp [go_sem]) hc ?_
  rintro e x ⟨rfl, hT, hX⟩
  replace HN : Hid _ := fun r7 => HN.out _ r7 rfl
  generalize rstep (num 0 1099511627776) 0 bs r5.2 = r6 at *
  replace HN : Hid _ := HN.out _  rfl
  generalize rstep (num 0 1099511627776) 0 bs r6.2 = r7 at *
  unfold two
  have hD := hS.rw hlt hT (hX)
  obtain ⟨u8, hu8⟩ := arr20 hs4 8 (by decide)
  have c8 : x.cell? ⟨w.heap.size + 1, 8, none⟩ = some u8 := (hD.blk.cell 8).trans hu8
  have z8 := hD.blk.frozen 8
  obtain ⟨u9, hu9⟩ := arr20 hs4 9 (by decide)
  have c9 : x.cell? ⟨w.heap.size + 1, 9, none⟩ = some u9 := (hD.blk.cell 9).trans hu9
  have z9 := hD.blk.frozen 9
  have hS2 : DX w hb ao n cap bs r7.2 zeroC ((cc4.setIfInBounds 8 (.int .i64 r6.1)).setIfInBounds 9 (.int .i64 r7.1)) 35 ((x.setCell ⟨w.heap.size + 1, 8, none⟩ (.int .i64 r6.1)).setCell ⟨w.heap.size + 1, 9, none⟩ (.int .i64 r7.1)) := ((hD.set hlt hab 8 _).set hlt hab 9 _)
  refine ⟨_, PA (w.heap.size + 1) 8, ((x.setCell ⟨w.heap.size + 1, 8, none⟩ (.int .i64 r6.1)).setCell ⟨w.heap.size + 1, 9, none⟩ (.int .i64 r7.1)), rfl, fun ev h => by simp only [execOp, h]; simp [go_sem], fun ev h h' => by simp only [execOp, h, h']; simp [go_sem, c8, z8, c9, z9], ?_⟩
  obtain ⟨cc5, HC5, hs5, h05⟩ : ∃ cc : Array Value, Hid (cc = ((cc4.setIfInBounds 8 (.int .i64 r6.1)).setIfInBounds 9 (.int .i64 r7.1))) ∧ cc.size = 20 ∧ cc[0]? = some (.int .i64 0) := ⟨_, rfl, (set20 (set20 hs4 8 _) 9 _), (set0 (set0 h04 8 _ (by decide)) 9 _ (by decide))⟩
  rw [← HC5.out] at hS2
  clear hD hS hc hT hX hs4 h04 c8 z8 hu8 c9 z9 hu9 hF h0 h2 h3 h8
  generalize ((x.setCell ⟨w.heap.size + 1, 8, none⟩ (.int .i64 r6.1)).setCell ⟨w.heap.size + 1, 9, none⟩ (.int .i64 r7.1)) = W at *
  have hS := hS2
  clear hS2
  intro a f hF h0 h2 h3 h8
  show Code.wp _ _ _ _ _
  refine wp_seq ?_
  refine wp_seq ?_
  refine wp_region_list ?_
  have k0 : W.cell? ⟨w.heap.size + 1, 0, none⟩ = some (.int .i64 0) := (hS.blk.cell 0).trans h05
  refine m_tst (d := 78) (p1 := PA (w.heap.size + 1) 0) (u := .int .i64 0) false hF h0 h2 h3 h8 (by omega) (by omega) rfl rfl rfl rfl rfl rfl (fun ev h => by simp only [execOp, h]; simp [go_sem]) (fun ev h => by simp only [execOp, h]; simp [go_sem, k0]) (fun ev hcst h => by simp only [execOp, h, hcst]; simp [go_sem]) ?_
  clear k0 hF h0 h2 h3 h8
  intro a f hF h0 h2 h3 h8 hp
  refine wpList_nil ?_
  show Code.wp _ _ _ _ _
  refine wp_cond_false ((hF.eval 80 (by omega)).trans hp) ?_
  clear hp
  refine wp_skip ?_
  show Code.wp _ _ _ _ _
  obtain ⟨DD, HDD⟩ : ∃ DD : Array Value, Hid (DD = msgCells { Msg.zero with kind := 0, name := r1.1, cap := r2.1, recaps := r3.1, round := r4.1, rank := r5.1, down := r6.1, up := r7.1 } (.slice none 0 0)) := ⟨_, rfl⟩
  have hcD : cc5 = DD := by
    rw [HDD.out, HC5.out, HC4.out, HC3.out, HC2.out, HC1.out, HC0.out]
    rfl
  rw [hcD] at hS
  have hall : DD.all (·.oneCell') = true := by rw [HDD.out]; simp [msgCells, Str, Value.oneCell', Msg.zero]
  have hfin : RdB (W.setRow w.heap.size DD) hb ao n cap bs r7.2 := hS.rd.row _ _ (by omega) (fun b o e => by have := hab b o e; omega)
  have hfx : RX hb w (W.setRow w.heap.size DD) := ⟨hS.rx.os, hS.rx.tape, hS.rx.output, by simpa [World.setRow] using hS.rx.size, fun k h1 h2 => (setRow_other _ _ _ _ (by omega)).trans (hS.rx.block k h1 h2)⟩
  have hans : MsgAns w pp (.returned (.agg DD)) (W.setRow w.heap.size DD) := ⟨{ Msg.zero with kind := 0, name := r1.1, cap := r2.1, recaps := r3.1, round := r4.1, rank := r5.1, down := r6.1, up := r7.1 }, none, 0, by rw [HDD.out]; rfl, World.ownsRow_nil _ _ _ _, by simp [Msg.zero], fun _ => by rw [HN.out]⟩
  have hszD : DD.size = 20 := by rw [HDD.out]; rfl
  refine m_end (d := 84) (Post := fun e z => MsgAns w pp e z ∧ RdB z hb ao n cap bs pp.2 ∧ RX hb w z) hF h2 h3 hS.res hS.blk hszD hall (by omega) (by omega) rfl rfl rfl rfl rfl rfl ?_ ?_
  · refine ⟨hans, ?_, hfx⟩
    rw [HN.out]
    exact hfin
  · intro a' W' hbp
    exact hbp
set_option maxRecDepth 100000 in
set_option maxHeartbeats 3200000 in
theorem rmsg5_any (hb : Nat) (ao : Option Addr) (n cap : Nat) (bs : List UInt8) (st : Nat × Bool) (w : World) (hS : RdB w hb ao n cap bs st) (hsm : n ≤ 140737488355328) (hrm : n ≤ cap) (hnil : ao = none → n = 0 ∧ cap = 0) (hform : ao = none ∨ ∃ b off, ao = some ⟨b, off, none⟩) (hab : ∀ b o, ao = some ⟨b, o, none⟩ → b < w.heap.size) (r0 : Int × Nat × Bool) (h0 : rstep (num 1 10) 0 bs st = r0) (hk : r0.1 = 5) :
    Calls Try.prog 87 #[.pointer (some ⟨hb, 0, none⟩)] w fun e w' => MsgAns w (p5 bs r0.2) e w' ∧ RdB w' hb ao n cap bs (p5 bs r0.2).2 ∧ RX hb w w' := by
  have HN : Hid (∀ r1 r2 r3 r4 r5 r6 r7, nstep [] bs r0.2 = r1 → rstep (num 1 1099511627776) 0 bs r1.2 = r2 → rstep (num 0 1099511627776) 0 bs r2.2 = r3 → rstep (num 1 1099511627776) 0 bs r3.2 = r4 → rstep (num 0 15) 0 bs r4.2 = r5 → rstep (num 0 1099511627776) 0 bs r5.2 = r6 → rstep (num 0 1099511627776) 0 bs r6.2 = r7 → p5 bs r0.2 = ({ Msg.zero with kind := 5, name := r1.1, cap := r2.1, recaps := r3.1, round := r4.1, rank := r5.1, down := r6.1, up := r7.1 }, r7.2)) := by
    intro r1 r2 r3 r4 r5 r6 r7 hr1 hr2 hr3 hr4 hr5 hr6 hr7
    subst hr1 hr2 hr3 hr4 hr5 hr6 hr7
    rfl
  have hlt := hS.blk.lt
  generalize hpp : p5 bs r0.2 = pp at *
  clear hpp
  refine calls_of_wp Try.func87 rfl ?_
  have e : Try.f87.ntmps - (#[Value.pointer (some ⟨hb, 0, none⟩)] : Array Value).size = 84 := by rw [Try.ntmps87]; rfl
  rw [e]
  have hF0 := m_frame (.pointer (some ⟨hb, 0, none⟩)) 84
  generalize ({ tmps := #[Value.pointer (some ⟨hb, 0, none⟩)] ++ Array.replicate 84 undef, defers := [] } : Act) = a0 at *
  refine mstart hF0 rfl hS hsm rfl rfl rfl rfl rfl rfl rfl rfl rfl rfl rfl rfl rfl rfl rfl rfl rfl rfl (fun ev W hcst hfn h => by simp only [execOp, resolve, invoke, List.map_toArray, List.map_cons, List.map_nil, h, hcst, hfn]; simp [go_sem]) rfl rfl rfl rfl rfl ?_
  clear hS hF0 e
  rw [h0, hk]
  clear h0 hk
  intro a f W hF h0 h2 h3 h8 hS
  obtain ⟨cc0, HC0, hs0, h00⟩ : ∃ cc : Array Value, Hid (cc = kindM 5) ∧ cc.size = 20 ∧ cc[0]? = some (.int .i64 5) := ⟨_, rfl, rfl, rfl⟩
  rw [← HC0.out] at hS
  refine wp_block ?_
  refine wp_seq ?_
  refine wp_region_list ?_
  refine m_swt (d := 9) false hF h0 h2 h3 h8 (by omega) (by omega) rfl rfl rfl rfl (fun ev hcst h => by simp only [execOp, h, hcst]; simp [go_sem]) (fun ev h => by simp only [execOp, h]; rfl) ?_
  intro a f hF h0 h2 h3 h8 hp
  show Code.wp _ _ _ _ _
  refine wp_cond_false ((hF.eval 9 (by omega)).trans hp) ?_
  clear hp
  refine wp_seq ?_
  refine wp_region_list ?_
  refine m_swt (d := 18) false hF h0 h2 h3 h8 (by omega) (by omega) rfl rfl rfl rfl (fun ev hcst h => by simp only [execOp, h, hcst]; simp [go_sem]) (fun ev h => by simp only [execOp, h]; rfl) ?_
  intro a f hF h0 h2 h3 h8 hp
  show Code.wp _ _ _ _ _
  refine wp_cond_false ((hF.eval 18 (by omega)).trans hp) ?_
  clear hp
  refine wp_seq ?_
  refine wp_region_list ?_
  refine m_swt (d := 44) false hF h0 h2 h3 h8 (by omega) (by omega) rfl rfl rfl rfl (fun ev hcst h => by simp only [execOp, h, hcst]; simp [go_sem]) (fun ev h => by simp only [execOp, h]; rfl) ?_
  intro a f hF h0 h2 h3 h8 hp
  show Code.wp _ _ _ _ _
  refine wp_cond_false ((hF.eval 44 (by omega)).trans hp) ?_
  clear hp
  refine wp_skip ?_
  show Code.wp _ _ _ _ _
  refine wp_seq ?_
  refine wp_region_list ?_
  have hc : Calls Try.prog 100 #[_, .string ⟨#[]⟩] W _ := rname2_any hb ao n cap bs [] r0.2 W hS.rd hsm hrm hnil hform
  refine m_fld (d := 50) hF h0 h2 h3 h8 (by omega) (by omega) rfl rfl rfl rfl rfl rfl rfl rfl rfl (fun ev hcst hfn h => by simp only [execOp, resolve, invoke, List.map_toArray, List.map_cons, List.map_nil, h, hcst, hfn]; simp [go_sem]) hc ?_
  rintro e x ⟨rfl, hT, hX⟩
  replace HN : Hid _ := fun r2 r3 r4 r5 r6 r7 => HN.out _ r2 r3 r4 r5 r6 r7 rfl
  generalize nstep [] bs r0.2 = r1 at *
  unfold Str
  have hD := hS.rw hlt hT (RX.of hX)
  obtain ⟨u1, hu1⟩ := arr20 hs0 1 (by decide)
  have c1 : x.cell? ⟨w.heap.size + 1, 1, none⟩ = some u1 := (hD.blk.cell 1).trans hu1
  have z1 := hD.blk.frozen 1
  have hS2 : DX w hb ao n cap bs r1.2 zeroC (cc0.setIfInBounds 1 (.string ⟨r1.1.toArray⟩)) 35 (x.setCell ⟨w.heap.size + 1, 1, none⟩ (.string ⟨r1.1.toArray⟩)) := (hD.set hlt hab 1 _)
  refine ⟨_, PA (w.heap.size + 1) 1, (x.setCell ⟨w.heap.size + 1, 1, none⟩ (.string ⟨r1.1.toArray⟩)), rfl, fun ev h => by simp only [execOp, h]; simp [go_sem], fun ev h h' => by simp only [execOp, h, h']; simp [go_sem, c1, z1], ?_⟩
  obtain ⟨cc1, HC1, hs1, h01⟩ : ∃ cc : Array Value, Hid (cc = (cc0.setIfInBounds 1 (.string ⟨r1.1.toArray⟩))) ∧ cc.size = 20 ∧ cc[0]? = some (.int .i64 5) := ⟨_, rfl, (set20 hs0 1 _), (set0 h00 1 _ (by decide))⟩
  rw [← HC1.out] at hS2
  clear hD hS hc hT hX hs0 h00 c1 z1 hu1 hF h0 h2 h3 h8
  generalize (x.setCell ⟨w.heap.size + 1, 1, none⟩ (.string ⟨r1.1.toArray⟩)) = W at *
  have hS := hS2
  clear hS2
  intro a f hF h0 h2 h3 h8
  show Code.wp _ _ _ _ _
  refine wp_seq ?_
  refine wp_region_list ?_
  have hc := rnum_any hb ao n cap bs r1.2 1 1099511627776 (by omega) (by omega) W hS.rd hsm
  refine m_fld (d := 53) hF h0 h2 h3 h8 (by omega) (by omega) rfl rfl rfl rfl rfl rfl rfl rfl rfl (fun ev hcst hfn h => by simp only [execOp, resolve, invoke, List.map_toArray, List.map_cons, List.map_nil, h, hcst, hfn]; simp [go_sem]) hc ?_
  rintro e x ⟨rfl, hT, hX⟩
  replace HN : Hid _ := fun r3 r4 r5 r6 r7 => HN.out _ r3 r4 r5 r6 r7 rfl
  generalize rstep (num 1 1099511627776) 0 bs r1.2 = r2 at *
  have hD := hS.rw hlt hT (RX.of hX)
  obtain ⟨u2, hu2⟩ := arr20 hs1 2 (by decide)
  have c2 : x.cell? ⟨w.heap.size + 1, 2, none⟩ = some u2 := (hD.blk.cell 2).trans hu2
  have z2 := hD.blk.frozen 2
  have hS2 : DX w hb ao n cap bs r2.2 zeroC (cc1.setIfInBounds 2 (.int .i64 r2.1)) 35 (x.setCell ⟨w.heap.size + 1, 2, none⟩ (.int .i64 r2.1)) := (hD.set hlt hab 2 _)
  refine ⟨_, PA (w.heap.size + 1) 2, (x.setCell ⟨w.heap.size + 1, 2, none⟩ (.int .i64 r2.1)), rfl, fun ev h => by simp only [execOp, h]; simp [go_sem], fun ev h h' => by simp only [execOp, h, h']; simp [go_sem, c2, z2], ?_⟩
  obtain ⟨cc2, HC2, hs2, h02⟩ : ∃ cc : Array Value, Hid (cc = (cc1.setIfInBounds 2 (.int .i64 r2.1))) ∧ cc.size = 20 ∧ cc[0]? = some (.int .i64 5) := ⟨_, rfl, (set20 hs1 2 _), (set0 h01 2 _ (by decide))⟩
  rw [← HC2.out] at hS2
  clear hD hS hc hT hX hs1 h01 c2 z2 hu2 hF h0 h2 h3 h8
  generalize (x.setCell ⟨w.heap.size + 1, 2, none⟩ (.int .i64 r2.1)) = W at *
  have hS := hS2
  clear hS2
  intro a f hF h0 h2 h3 h8
  show Code.wp _ _ _ _ _
  refine wp_seq ?_
  refine wp_region_list ?_
  have hc := rnum_any hb ao n cap bs r2.2 0 1099511627776 (by omega) (by omega) W hS.rd hsm
  refine m_fld (d := 56) hF h0 h2 h3 h8 (by omega) (by omega) rfl rfl rfl rfl rfl rfl rfl rfl rfl (fun ev hcst hfn h => by simp only [execOp, resolve, invoke, List.map_toArray, List.map_cons, List.map_nil, h, hcst, hfn]; simp [go_sem]) hc ?_
  rintro e x ⟨rfl, hT, hX⟩
  replace HN : Hid _ := fun r4 r5 r6 r7 => HN.out _ r4 r5 r6 r7 rfl
  generalize rstep (num 0 1099511627776) 0 bs r2.2 = r3 at *
  have hD := hS.rw hlt hT (RX.of hX)
  obtain ⟨u3, hu3⟩ := arr20 hs2 3 (by decide)
  have c3 : x.cell? ⟨w.heap.size + 1, 3, none⟩ = some u3 := (hD.blk.cell 3).trans hu3
  have z3 := hD.blk.frozen 3
  have hS2 : DX w hb ao n cap bs r3.2 zeroC (cc2.setIfInBounds 3 (.int .i64 r3.1)) 35 (x.setCell ⟨w.heap.size + 1, 3, none⟩ (.int .i64 r3.1)) := (hD.set hlt hab 3 _)
  refine ⟨_, PA (w.heap.size + 1) 3, (x.setCell ⟨w.heap.size + 1, 3, none⟩ (.int .i64 r3.1)), rfl, fun ev h => by simp only [execOp, h]; simp [go_sem], fun ev h h' => by simp only [execOp, h, h']; simp [go_sem, c3, z3], ?_⟩
  obtain ⟨cc3, HC3, hs3, h03⟩ : ∃ cc : Array Value, Hid (cc = (cc2.setIfInBounds 3 (.int .i64 r3.1))) ∧ cc.size = 20 ∧ cc[0]? = some (.int .i64 5) := ⟨_, rfl, (set20 hs2 3 _), (set0 h02 3 _ (by decide))⟩
  rw [← HC3.out] at hS2
  clear hD hS hc hT hX hs2 h02 c3 z3 hu3 hF h0 h2 h3 h8
  generalize (x.setCell ⟨w.heap.size + 1, 3, none⟩ (.int .i64 r3.1)) = W at *
  have hS := hS2
  clear hS2
  intro a f hF h0 h2 h3 h8
  show Code.wp _ _ _ _ _
  refine wp_seq ?_
  refine wp_seq ?_
  refine wp_region_list ?_
  have k0 : W.cell? ⟨w.heap.size + 1, 0, none⟩ = some (.int .i64 5) := (hS.blk.cell 0).trans h03
  refine m_tst (d := 59) (p1 := PA (w.heap.size + 1) 0) (u := .int .i64 5) true hF h0 h2 h3 h8 (by omega) (by omega) rfl rfl rfl rfl rfl rfl (fun ev h => by simp only [execOp, h]; simp [go_sem]) (fun ev h => by simp only [execOp, h]; simp [go_sem, k0]) (fun ev hcst h => by simp only [execOp, h, hcst]; simp [go_sem]) ?_
  clear k0 hF h0 h2 h3 h8
  intro a f hF h0 h2 h3 h8 hp
  refine wpList_nil ?_
  show Code.wp _ _ _ _ _
  refine wp_cond_true ((hF.eval 61 (by omega)).trans hp) ?_
  clear hp
  refine wp_region_list ?_
  have hc := repoch2_any hb ao n cap bs r3.2 W hS.rd hsm (fun b o e => by have := hab b o e; have := hS.rx.size; omega) _ _ rfl rfl
  refine m_fld (d := 62) hF h0 h2 h3 h8 (by omega) (by omega) rfl rfl rfl rfl rfl rfl rfl rfl rfl (fun ev hcst hfn h => by simp only [execOp, resolve, invoke, List.map_toArray, List.map_cons, List.map_nil, h, hcst, hfn]; simp [go_sem]) hc ?_
  rintro e x ⟨rfl, hT, hX⟩
  replace HN : Hid _ := fun r5 r6 r7 => HN.out _ r5 r6 r7 rfl
  generalize rstep (num 1 1099511627776) 0 bs r3.2 = r4 at *
  replace HN : Hid _ := fun r6 r7 => HN.out _ r6 r7 rfl
  generalize rstep (num 0 15) 0 bs r4.2 = r5 at *
  unfold two
  have hD := hS.rw hlt hT (hX)
  obtain ⟨u4, hu4⟩ := arr20 hs3 4 (by decide)
  have c4 : x.cell? ⟨w.heap.size + 1, 4, none⟩ = some u4 := (hD.blk.cell 4).trans hu4
  have z4 := hD.blk.frozen 4
  obtain ⟨u5, hu5⟩ := arr20 hs3 5 (by decide)
  have c5 : x.cell? ⟨w.heap.size + 1, 5, none⟩ = some u5 := (hD.blk.cell 5).trans hu5
  have z5 := hD.blk.frozen 5
  have hS2 : DX w hb ao n cap bs r5.2 zeroC ((cc3.setIfInBounds 4 (.int .i64 r4.1)).setIfInBounds 5 (.int .i64 r5.1)) 35 ((x.setCell ⟨w.heap.size + 1, 4, none⟩ (.int .i64 r4.1)).setCell ⟨w.heap.size + 1, 5, none⟩ (.int .i64 r5.1)) := ((hD.set hlt hab 4 _).set hlt hab 5 _)
  refine ⟨_, PA (w.heap.size + 1) 4, ((x.setCell ⟨w.heap.size + 1, 4, none⟩ (.int .i64 r4.1)).setCell ⟨w.heap.size + 1, 5, none⟩ (.int .i64 r5.1)), rfl, fun ev h => by simp only [execOp, h]; simp [go_sem], fun ev h h' => by simp only [execOp, h, h']; simp [go_sem, c4, z4, c5, z5], ?_⟩
  obtain ⟨cc4, HC4, hs4, h04⟩ : ∃ cc : Array Value, Hid (cc = ((cc3.setIfInBounds 4 (.int .i64 r4.1)).setIfInBounds 5 (.int .i64 r5.1))) ∧ cc.size = 20 ∧ cc[0]? = some (.int .i64 5) := ⟨_, rfl, (set20 (set20 hs3 4 _) 5 _), (set0 (set0 h03 4 _ (by decide)) 5 _ (by decide))⟩
  rw [← HC4.out] at hS2
  clear hD hS hc hT hX hs3 h03 c4 z4 hu4 c5 z5 hu5 hF h0 h2 h3 h8
  generalize ((x.setCell ⟨w.heap.size + 1, 4, none⟩ (.int .i64 r4.1)).setCell ⟨w.heap.size + 1, 5, none⟩ (.int .i64 r5.1)) = W at *
  have hS := hS2
  clear hS2
  intro a f hF h0 h2 h3 h8
  show Code.wp _ _ _ _ _
  refine wp_seq ?_
  refine wp_seq ?_
  refine wp_region_list ?_
  have k0 : W.cell? ⟨w.heap.size + 1, 0, none⟩ = some (.int .i64 5) := (hS.blk.cell 0).trans h04
  refine m_tst (d := 65) (p1 := PA (w.heap.size + 1) 0) (u := .int .i64 5) false hF h0 h2 h3 h8 (by omega) (by omega) rfl rfl rfl rfl rfl rfl (fun ev h => by simp only [execOp, h]; simp [go_sem]) (fun ev h => by simp only [execOp, h]; simp [go_sem, k0]) (fun ev hcst h => by simp only [execOp, h, hcst]; simp [go_sem]) ?_
  clear k0 hF h0 h2 h3 h8
  intro a f hF h0 h2 h3 h8 hp
  refine wpList_nil ?_
  show Code.wp _ _ _ _ _
  refine wp_cond_false ((hF.eval 67 (by omega)).trans hp) ?_
  clear hp
  refine wp_skip ?_
  show Code.wp _ _ _ _ _
  refine wp_seq ?_
  refine wp_seq ?_
  refine wp_region_list ?_
  have k0 : W.cell? ⟨w.heap.size + 1, 0, none⟩ = some (.int .i64 5) := (hS.blk.cell 0).trans h04
  refine m_tst (d := 72) (p1 := PA (w.heap.size + 1) 0) (u := .int .i64 5) true hF h0 h2 h3 h8 (by omega) (by omega) rfl rfl rfl rfl rfl rfl (fun ev h => by simp only [execOp, h]; simp [go_sem]) (fun ev h => by simp only [execOp, h]; simp [go_sem, k0]) (fun ev hcst h => by simp only [execOp, h, hcst]; simp [go_sem]) ?_
  clear k0 hF h0 h2 h3 h8
  intro a f hF h0 h2 h3 h8 hp
  refine wpList_nil ?_
  show Code.wp _ _ _ _ _
  refine wp_cond_true ((hF.eval 74 (by omega)).trans hp) ?_
  clear hp
  refine wp_region_list ?_
  have hc := rrights2_any hb ao n cap bs r5.2 W hS.rd hsm (fun b o e => by have := hab b o e; have := hS.rx.size; omega) _ _ rfl rfl
  refine m_fld (d := 75) hF h0 h2 h3 h8 (by omega) (by omega) rfl rfl rfl rfl rfl rfl rfl rfl rfl (fun ev hcst hfn h => by simp only [execOp, resolve, invoke, List.map_toArray, List.map_cons, List.map_nil, h, hcst, hfn]; simp [go_sem]) hc ?_
  rintro e x ⟨rfl, hT, hX⟩
  replace HN : Hid _ := fun r7 => HN.out _ r7 rfl
  generalize rstep (num 0 1099511627776) 0 bs r5.2 = r6 at *
  replace HN : Hid _ := HN.out _  rfl
  generalize rstep (num 0 1099511627776) 0 bs r6.2 = r7 at *
  unfold two
  have hD := hS.rw hlt hT (hX)
  obtain ⟨u8, hu8⟩ := arr20 hs4 8 (by decide)
  have c8 : x.cell? ⟨w.heap.size + 1, 8, none⟩ = some u8 := (hD.blk.cell 8).trans hu8
  have z8 := hD.blk.frozen 8
  obtain ⟨u9, hu9⟩ := arr20 hs4 9 (by decide)
  have c9 : x.cell? ⟨w.heap.size + 1, 9, none⟩ = some u9 := (hD.blk.cell 9).trans hu9
  have z9 := hD.blk.frozen 9
  have hS2 : DX w hb ao n cap bs r7.2 zeroC ((cc4.setIfInBounds 8 (.int .i64 r6.1)).setIfInBounds 9 (.int .i64 r7.1)) 35 ((x.setCell ⟨w.heap.size + 1, 8, none⟩ (.int .i64 r6.1)).setCell ⟨w.heap.size + 1, 9, none⟩ (.int .i64 r7.1)) := ((hD.set hlt hab 8 _).set hlt hab 9 _)
  refine ⟨_, PA (w.heap.size + 1) 8, ((x.setCell ⟨w.heap.size + 1, 8, none⟩ (.int .i64 r6.1)).setCell ⟨w.heap.size + 1, 9, none⟩ (.int .i64 r7.1)), rfl, fun ev h => by simp only [execOp, h]; simp [go_sem], fun ev h h' => by simp only [execOp, h, h']; simp [go_sem, c8, z8, c9, z9], ?_⟩
  obtain ⟨cc5, HC5, hs5, h05⟩ : ∃ cc : Array Value, Hid (cc = ((cc4.setIfInBounds 8 (.int .i64 r6.1)).setIfInBounds 9 (.int .i64 r7.1))) ∧ cc.size = 20 ∧ cc[0]? = some (.int .i64 5) := ⟨_, rfl, (set20 (set20 hs4 8 _) 9 _), (set0 (set0 h04 8 _ (by decide)) 9 _ (by decide))⟩
  rw [← HC5.out] at hS2
  clear hD hS hc hT hX hs4 h04 c8 z8 hu8 c9 z9 hu9 hF h0 h2 h3 h8
  generalize ((x.setCell ⟨w.heap.size + 1, 8, none⟩ (.int .i64 r6.1)).setCell ⟨w.heap.size + 1, 9, none⟩ (.int .i64 r7.1)) = W at *
  have hS := hS2
  clear hS2
  intro a f hF h0 h2 h3 h8
  show Code.wp _ _ _ _ _
  refine wp_seq ?_
  refine wp_seq ?_
  refine wp_region_list ?_
  have k0 : W.cell? ⟨w.heap.size + 1, 0, none⟩ = some (.int .i64 5) := (hS.blk.cell 0).trans h05
  refine m_tst (d := 78) (p1 := PA (w.heap.size + 1) 0) (u := .int .i64 5) false hF h0 h2 h3 h8 (by omega) (by omega) rfl rfl rfl rfl rfl rfl (fun ev h => by simp only [execOp, h]; simp [go_sem]) (fun ev h => by simp only [execOp, h]; simp [go_sem, k0]) (fun ev hcst h => by simp only [execOp, h, hcst]; simp [go_sem]) ?_
  clear k0 hF h0 h2 h3 h8
  intro a f hF h0 h2 h3 h8 hp
  refine wpList_nil ?_
  show Code.wp _ _ _ _ _
  refine wp_cond_false ((hF.eval 80 (by omega)).trans hp) ?_
  clear hp
  refine wp_skip ?_
  show Code.wp _ _ _ _ _
  obtain ⟨DD, HDD⟩ : ∃ DD : Array Value, Hid (DD = msgCells { Msg.zero with kind := 5, name := r1.1, cap := r2.1, recaps := r3.1, round := r4.1, rank := r5.1, down := r6.1, up := r7.1 } (.slice none 0 0)) := ⟨_, rfl⟩
  have hcD : cc5 = DD := by
    rw [HDD.out, HC5.out, HC4.out, HC3.out, HC2.out, HC1.out, HC0.out]
    rfl
  rw [hcD] at hS
  have hall : DD.all (·.oneCell') = true := by rw [HDD.out]; simp [msgCells, Str, Value.oneCell', Msg.zero]
  have hfin : RdB (W.setRow w.heap.size DD) hb ao n cap bs r7.2 := hS.rd.row _ _ (by omega) (fun b o e => by have := hab b o e; omega)
  have hfx : RX hb w (W.setRow w.heap.size DD) := ⟨hS.rx.os, hS.rx.tape, hS.rx.output, by simpa [World.setRow] using hS.rx.size, fun k h1 h2 => (setRow_other _ _ _ _ (by omega)).trans (hS.rx.block k h1 h2)⟩
  have hans : MsgAns w pp (.returned (.agg DD)) (W.setRow w.heap.size DD) := ⟨{ Msg.zero with kind := 5, name := r1.1, cap := r2.1, recaps := r3.1, round := r4.1, rank := r5.1, down := r6.1, up := r7.1 }, none, 0, by rw [HDD.out]; rfl, World.ownsRow_nil _ _ _ _, by simp [Msg.zero], fun _ => by rw [HN.out]⟩
  have hszD : DD.size = 20 := by rw [HDD.out]; rfl
  refine m_end (d := 84) (Post := fun e z => MsgAns w pp e z ∧ RdB z hb ao n cap bs pp.2 ∧ RX hb w z) hF h2 h3 hS.res hS.blk hszD hall (by omega) (by omega) rfl rfl rfl rfl rfl rfl ?_ ?_
  · refine ⟨hans, ?_, hfx⟩
    rw [HN.out]
    exact hfin
  · intro a' W' hbp
    exact hbp
end Go.Proofs.Ytneiomimjgfbpaa
namespace Go.Proofs.Ytneiomimjgfbpaa
open Go.RowKit Go.PlainAid
set_option linter.unusedSimpArgs false
set_option linter.unusedVariables false
set_option maxRecDepth 100000 in
set_option maxHeartbeats 3200000 in
theorem rmsg6_any (hb : Nat) (ao : Option Addr) (n cap : Nat) (bs : List UInt8) (st : Nat × Bool) (w : World) (hS : RdB w hb ao n cap bs st) (hsm : n ≤ 140737488355328) (hrm : n ≤ cap) (hnil : ao = none → n = 0 ∧ cap = 0) (hform : ao = none ∨ ∃ b off, ao = some ⟨b, off, none⟩) (hab : ∀ b o, ao = some ⟨b, o, none⟩ → b < w.heap.size) (r0 : Int × Nat × Bool) (h0 : rstep (num 1 10) 0 bs st = r0) (hk : r0.1 = 6) :
    Calls Try.prog 87 #[.pointer (some ⟨hb, 0, none⟩)] w fun e w' => MsgAns w (p6 bs r0.2) e w' ∧ RdB w' hb ao n cap bs (p6 bs r0.2).2 ∧ RX hb w w' := by
  have HN : Hid (∀ r1 r2 r3 r4 r5 r6 r7, nstep [] bs r0.2 = r1 → rstep (num 1 1099511627776) 0 bs r1.2 = r2 → rstep (num 0 1099511627776) 0 bs r2.2 = r3 → rstep (num 1 1099511627776) 0 bs r3.2 = r4 → rstep (num 0 15) 0 bs r4.2 = r5 → rstep (num 0 1099511627776) 0 bs r5.2 = r6 → rstep (num 0 1099511627776) 0 bs r6.2 = r7 → p6 bs r0.2 = ({ Msg.zero with kind := 6, name := r1.1, cap := r2.1, recaps := r3.1, round := r4.1, rank := r5.1, down := r6.1, up := r7.1 }, r7.2)) := by
    intro r1 r2 r3 r4 r5 r6 r7 hr1 hr2 hr3 hr4 hr5 hr6 hr7
    subst hr1 hr2 hr3 hr4 hr5 hr6 hr7
    rfl
  have hlt := hS.blk.lt
  generalize hpp : p6 bs r0.2 = pp at *
  clear hpp
  refine calls_of_wp Try.func87 rfl ?_
  have e : Try.f87.ntmps - (#[Value.pointer (some ⟨hb, 0, none⟩)] : Array Value).size = 84 := by rw [Try.ntmps87]; rfl
  rw [e]
  have hF0 := m_frame (.pointer (some ⟨hb, 0, none⟩)) 84
  generalize ({ tmps := #[Value.pointer (some ⟨hb, 0, none⟩)] ++ Array.replicate 84 undef, defers := [] } : Act) = a0 at *
  refine mstart hF0 rfl hS hsm rfl rfl rfl rfl rfl rfl rfl rfl rfl rfl rfl rfl rfl rfl rfl rfl rfl rfl (fun ev W hcst hfn h => by simp only [execOp, resolve, invoke, List.map_toArray, List.map_cons, List.map_nil, h, hcst, hfn]; simp [go_sem]) rfl rfl rfl rfl rfl ?_
  clear hS hF0 e
  rw [h0, hk]
  clear h0 hk
  intro a f W hF h0 h2 h3 h8 hS
  obtain ⟨cc0, HC0, hs0, h00⟩ : ∃ cc : Array Value, Hid (cc = kindM 6) ∧ cc.size = 20 ∧ cc[0]? = some (.int .i64 6) := ⟨_, rfl, rfl, rfl⟩
  rw [← HC0.out] at hS
  refine wp_block ?_
  refine wp_seq ?_
  refine wp_region_list ?_
  refine m_swt (d := 9) false hF h0 h2 h3 h8 (by omega) (by omega) rfl rfl rfl rfl (fun ev hcst h => by simp only [execOp, h, hcst]; simp [go_sem]) (fun ev h => by simp only [execOp, h]; rfl) ?_
  intro a f hF h0 h2 h3 h8 hp
  show Code.wp _ _ _ _ _
  refine wp_cond_false ((hF.eval 9 (by omega)).trans hp) ?_
  clear hp
  refine wp_seq ?_
  refine wp_region_list ?_
  refine m_swt (d := 18) false hF h0 h2 h3 h8 (by omega) (by omega) rfl rfl rfl rfl (fun ev hcst h => by simp only [execOp, h, hcst]; simp [go_sem]) (fun ev h => by simp only [execOp, h]; rfl) ?_
  intro a f hF h0 h2 h3 h8 hp
  show Code.wp _ _ _ _ _
  refine wp_cond_false ((hF.eval 18 (by omega)).trans hp) ?_
  clear hp
  refine wp_seq ?_
  refine wp_region_list ?_
  refine m_swt (d := 44) false hF h0 h2 h3 h8 (by omega) (by omega) rfl rfl rfl rfl (fun ev hcst h => by simp only [execOp, h, hcst]; simp [go_sem]) (fun ev h => by simp only [execOp, h]; rfl) ?_
  intro a f hF h0 h2 h3 h8 hp
  show Code.wp _ _ _ _ _
  refine wp_cond_false ((hF.eval 44 (by omega)).trans hp) ?_
  clear hp
  refine wp_skip ?_
  show Code.wp _ _ _ _ _
  refine wp_seq ?_
  refine wp_region_list ?_
  have hc : Calls Try.prog 100 #[_, .string ⟨#[]⟩] W _ := rname2_any hb ao n cap bs [] r0.2 W hS.rd hsm hrm hnil hform
  refine m_fld (d := 50) hF h0 h2 h3 h8 (by omega) (by omega) rfl rfl rfl rfl rfl rfl rfl rfl rfl (fun ev hcst hfn h => by simp only [execOp, resolve, invoke, List.map_toArray, List.map_cons, List.map_nil, h, hcst, hfn]; simp [go_sem]) hc ?_
  rintro e x ⟨rfl, hT, hX⟩
  replace HN : Hid _ := fun r2 r3 r4 r5 r6 r7 => HN.out _ r2 r3 r4 r5 r6 r7 rfl
  generalize nstep [] bs r0.2 = r1 at *
  unfold Str
  have hD := hS.rw hlt hT (RX.of hX)
  obtain ⟨u1, hu1⟩ := arr20 hs0 1 (by decide)
  have c1 : x.cell? ⟨w.heap.size + 1, 1, none⟩ = some u1 := (hD.blk.cell 1).trans hu1
  have z1 := hD.blk.frozen 1
  have hS2 : DX w hb ao n cap bs r1.2 zeroC (cc0.setIfInBounds 1 (.string ⟨r1.1.toArray⟩)) 35 (x.setCell ⟨w.heap.size + 1, 1, none⟩ (.string ⟨r1.1.toArray⟩)) := (hD.set hlt hab 1 _)
  refine ⟨_, PA (w.heap.size + 1) 1, (x.setCell ⟨w.heap.size + 1, 1, none⟩ (.string ⟨r1.1.toArray⟩)), rfl, fun ev h => by simp only [execOp, h]; simp [go_sem], fun ev h h' => by simp only [execOp, h, h']; simp [go_sem, c1, z1], ?_⟩
  obtain ⟨cc1, HC1, hs1, h01⟩ : ∃ cc : Array Value, Hid (cc = (cc0.setIfInBounds 1 (.string ⟨r1.1.toArray⟩))) ∧ cc.size = 20 ∧ cc[0]? = some (.int .i64 6) := ⟨_, rfl, (set20 hs0 1 _), (set0 h00 1 _ (by decide))⟩
  rw [← HC1.out] at hS2
  clear hD hS hc hT hX hs0 h00 c1 z1 hu1 hF h0 h2 h3 h8
  generalize (x.setCell ⟨w.heap.size + 1, 1, none⟩ (.string ⟨r1.1.toArray⟩)) = W at *
  have hS := hS2
  clear hS2
  intro a f hF h0 h2 h3 h8
  show Code.wp _ _ _ _ _
  refine wp_seq ?_
  refine wp_region_list ?_
  have hc := rnum_any hb ao n cap bs r1.2 1 1099511627776 (by omega) (by omega) W hS.rd hsm
  refine m_fld (d := 53) hF h0 h2 h3 h8 (by omega) (by omega) rfl rfl rfl rfl rfl rfl rfl rfl rfl (fun ev hcst hfn h => by simp only [execOp, resolve, invoke, List.map_toArray, List.map_cons, List.map_nil, h, hcst, hfn]; simp [go_sem]) hc ?_
  rintro e x ⟨rfl, hT, hX⟩
  replace HN : Hid _ := fun r3 r4 r5 r6 r7 => HN.out _ r3 r4 r5 r6 r7 rfl
  generalize rstep (num 1 1099511627776) 0 bs r1.2 = r2 at *
  have hD := hS.rw hlt hT (RX.of hX)
  obtain ⟨u2, hu2⟩ := arr20 hs1 2 (by decide)
  have c2 : x.cell? ⟨w.heap.size + 1, 2, none⟩ = some u2 := (hD.blk.cell 2).trans hu2
  have z2 := hD.blk.frozen 2
  have hS2 : DX w hb ao n cap bs r2.2 zeroC (cc1.setIfInBounds 2 (.int .i64 r2.1)) 35 (x.setCell ⟨w.heap.size + 1, 2, none⟩ (.int .i64 r2.1)) := (hD.set hlt hab 2 _)
  refine ⟨_, PA (w.heap.size + 1) 2, (x.setCell ⟨w.heap.size + 1, 2, none⟩ (.int .i64 r2.1)), rfl, fun ev h => by simp only [execOp, h]; simp [go_sem], fun ev h h' => by simp only [execOp, h, h']; simp [go_sem, c2, z2], ?_⟩
  obtain ⟨cc2, HC2, hs2, h02⟩ : ∃ cc : Array Value, Hid (cc = (cc1.setIfInBounds 2 (.int .i64 r2.1))) ∧ cc.size = 20 ∧ cc[0]? = some (.int .i64 6) := ⟨_, rfl, (set20 hs1 2 _), (set0 h01 2 _ (by decide))⟩
  rw [← HC2.out] at hS2
  clear hD hS hc hT hX hs1 h01 c2 z2 hu2 hF h0 h2 h3 h8
  generalize (x.setCell ⟨w.heap.size + 1, 2, none⟩ (.int .i64 r2.1)) = W at *
  have hS := hS2
  clear hS2
  intro a f hF h0 h2 h3 h8
  show Code.wp _ _ _ _ _
  refine wp_seq ?_
  refine wp_region_list ?_
  have hc := rnum_any hb ao n cap bs r2.2 0 1099511627776 (by omega) (by omega) W hS.rd hsm
  refine m_fld (d := 56) hF h0 h2 h3 h8 (by omega) (by omega) rfl rfl rfl rfl rfl rfl rfl rfl rfl (fun ev hcst hfn h => by simp only [execOp, resolve, invoke, List.map_toArray, List.map_cons, List.map_nil, h, hcst, hfn]; simp [go_sem]) hc ?_
  rintro e x ⟨rfl, hT, hX⟩
  replace HN : Hid _ := fun r4 r5 r6 r7 => HN.out _ r4 r5 r6 r7 rfl
  generalize rstep (num 0 1099511627776) 0 bs r2.2 = r3 at *
  have hD := hS.rw hlt hT (RX.of hX)
  obtain ⟨u3, hu3⟩ := arr20 hs2 3 (by decide)
  have c3 : x.cell? ⟨w.heap.size + 1, 3, none⟩ = some u3 := (hD.blk.cell 3).trans hu3
  have z3 := hD.blk.frozen 3
  have hS2 : DX w hb ao n cap bs r3.2 zeroC (cc2.setIfInBounds 3 (.int .i64 r3.1)) 35 (x.setCell ⟨w.heap.size + 1, 3, none⟩ (.int .i64 r3.1)) := (hD.set hlt hab 3 _)
  refine ⟨_, PA (w.heap.size + 1) 3, (x.setCell ⟨w.heap.size + 1, 3, none⟩ (.int .i64 r3.1)), rfl, fun ev h => by simp only [execOp, h]; simp [go_sem], fun ev h h' => by simp only [execOp, h, h']; simp [go_sem, c3, z3], ?_⟩
  obtain ⟨cc3, HC3, hs3, h03⟩ : ∃ cc : Array Value, Hid (cc = (cc2.setIfInBounds 3 (.int .i64 r3.1))) ∧ cc.size = 20 ∧ cc[0]? = some (.int .i64 6) := ⟨_, rfl, (set20 hs2 3 _), (set0 h02 3 _ (by decide))⟩
  rw [← HC3.out] at hS2
  clear hD hS hc hT hX hs2 h02 c3 z3 hu3 hF h0 h2 h3 h8
  generalize (x.setCell ⟨w.heap.size + 1, 3, none⟩ (.int .i64 r3.1)) = W at *
  have hS := hS2
  clear hS2
  intro a f hF h0 h2 h3 h8
  show Code.wp _ _ _ _ _
  refine wp_seq ?_
  refine wp_seq ?_
  refine wp_region_list ?_
  have k0 : W.cell? ⟨w.heap.size + 1, 0, none⟩ = some (.int .i64 6) := (hS.blk.cell 0).trans h03
  refine m_tst (d := 59) (p1 := PA (w.heap.size + 1) 0) (u := .int .i64 6) true hF h0 h2 h3 h8 (by omega) (by omega) rfl rfl rfl rfl rfl rfl (fun ev h => by simp only [execOp, h]; simp [go_sem]) (fun ev h => by simp only [execOp, h]; simp [go_sem, k0]) (fun ev hcst h => by simp only [execOp, h, hcst]; simp [go_sem]) ?_
  clear k0 hF h0 h2 h3 h8
  intro a f hF h0 h2 h3 h8 hp
  refine wpList_nil ?_
  show Code.wp _ _ _ _ _
  refine wp_cond_true ((hF.eval 61 (by omega)).trans hp) ?_
  clear hp
  refine wp_region_list ?_
  have hc := repoch2_any hb ao n cap bs r3.2 W hS.rd hsm (fun b o e => by have := hab b o e; have := hS.rx.size; omega) _ _ rfl rfl
  refine m_fld (d := 62) hF h0 h2 h3 h8 (by omega) (by omega) rfl rfl rfl rfl rfl rfl rfl rfl rfl (fun ev hcst hfn h => by simp only [execOp, resolve, invoke, List.map_toArray, List.map_cons, List.map_nil, h, hcst, hfn]; simp [go_sem]) hc ?_
  rintro e x ⟨rfl, hT, hX⟩
  replace HN : Hid _ := fun r5 r6 r7 => HN.out _ r5 r6 r7 rfl
  generalize rstep (num 1 1099511627776) 0 bs r3.2 = r4 at *
  replace HN : Hid _ := fun r6 r7 => HN.out _ r6 r7 rfl
  generalize rstep (num 0 15) 0 bs r4.2 = r5 at *
  unfold two
  have hD := hS.rw hlt hT (hX)
  obtain ⟨u4, hu4⟩ := arr20 hs3 4 (by decide)
  have c4 : x.cell? ⟨w.heap.size + 1, 4, none⟩ = some u4 := (hD.blk.cell 4).trans hu4
  have z4 := hD.blk.frozen 4
  obtain ⟨u5, hu5⟩ := arr20 hs3 5 (by decide)
  have c5 : x.cell? ⟨w.heap.size + 1, 5, none⟩ = some u5 := (hD.blk.cell 5).trans hu5
  have z5 := hD.blk.frozen 5
  have hS2 : DX w hb ao n cap bs r5.2 zeroC ((cc3.setIfInBounds 4 (.int .i64 r4.1)).setIfInBounds 5 (.int .i64 r5.1)) 35 ((x.setCell ⟨w.heap.size + 1, 4, none⟩ (.int .i64 r4.1)).setCell ⟨w.heap.size + 1, 5, none⟩ (.int .i64 r5.1)) := ((hD.set hlt hab 4 _).set hlt hab 5 _)
  refine ⟨_, PA (w.heap.size + 1) 4, ((x.setCell ⟨w.heap.size + 1, 4, none⟩ (.int .i64 r4.1)).setCell ⟨w.heap.size + 1, 5, none⟩ (.int .i64 r5.1)), rfl, fun ev h => by simp only [execOp, h]; simp [go_sem], fun ev h h' => by simp only [execOp, h, h']; simp [go_sem, c4, z4, c5, z5], ?_⟩
  obtain ⟨cc4, HC4, hs4, h04⟩ : ∃ cc : Array Value, Hid (cc = ((cc3.setIfInBounds 4 (.int .i64 r4.1)).setIfInBounds 5 (.int .i64 r5.1))) ∧ cc.size = 20 ∧ cc[0]? = some (.int .i64 6) := ⟨_, rfl, (set20 (set20 hs3 4 _) 5 _), (set0 (set0 h03 4 _ (by decide)) 5 _ (by decide))⟩
  rw [← HC4.out] at hS2
  clear hD hS hc hT hX hs3 h03 c4 z4 hu4 c5 z5 hu5 hF h0 h2 h3 h8
  generalize ((x.setCell ⟨w.heap.size + 1, 4, none⟩ (.int .i64 r4.1)).setCell ⟨w.heap.size + 1, 5, none⟩ (.int .i64 r5.1)) = W at *
  have hS := hS2
  clear hS2
  intro a f hF h0 h2 h3 h8
  show Code.wp _ _ _ _ _
  refine wp_seq ?_
  refine wp_seq ?_
  refine wp_region_list ?_
  have k0 : W.cell? ⟨w.heap.size + 1, 0, none⟩ = some (.int .i64 6) := (hS.blk.cell 0).trans h04
  refine m_tst (d := 65) (p1 := PA (w.heap.size + 1) 0) (u := .int .i64 6) false hF h0 h2 h3 h8 (by omega) (by omega) rfl rfl rfl rfl rfl rfl (fun ev h => by simp only [execOp, h]; simp [go_sem]) (fun ev h => by simp only [execOp, h]; simp [go_sem, k0]) (fun ev hcst h => by simp only [execOp, h, hcst]; simp [go_sem]) ?_
  clear k0 hF h0 h2 h3 h8
  intro a f hF h0 h2 h3 h8 hp
  refine wpList_nil ?_
  show Code.wp _ _ _ _ _
  refine wp_cond_false ((hF.eval 67 (by omega)).trans hp) ?_
  clear hp
  refine wp_skip ?_
  show Code.wp _ _ _ _ _
  refine wp_seq ?_
  refine wp_seq ?_
  refine wp_region_list ?_
  have k0 : W.cell? ⟨w.heap.size + 1, 0, none⟩ = some (.int .i64 6) := (hS.blk.cell 0).trans h04
  refine m_tst (d := 72) (p1 := PA (w.heap.size + 1) 0) (u := .int .i64 6) true hF h0 h2 h3 h8 (by omega) (by omega) rfl rfl rfl rfl rfl rfl (fun ev h => by simp only [execOp, h]; simp [go_sem]) (fun ev h => by simp only [execOp, h]; simp [go_sem, k0]) (fun ev hcst h => by simp only [execOp, h, hcst]; simp [go_sem]) ?_
  clear k0 hF h0 h2 h3 h8
  intro a f hF h0 h2 h3 h8 hp
  refine wpList_nil ?_
  show Code.wp _ _ _ _ _
  refine wp_cond_true ((hF.eval 74 (by omega)).trans hp) ?_
  clear hp
  refine wp_region_list ?_
  have hc := rrights2_any hb ao n cap bs r5.2 W hS.rd hsm (fun b o e => by have := hab b o e; have := hS.rx.size; omega) _ _ rfl rfl
  refine m_fld (d := 75) hF h0 h2 h3 h8 (by omega) (by omega) rfl rfl rfl rfl rfl rfl rfl rfl rfl (fun ev hcst hfn h => by simp only [execOp, resolve, invoke, List.map_toArray, List.map_cons, List.map_nil, h, hcst, hfn]; simp [go_sem]) hc ?_
  rintro e x ⟨rfl, hT, hX⟩
  replace HN : Hid _ := fun r7 => HN.out _ r7 rfl
  generalize rstep (num 0 1099511627776) 0 bs r5.2 = r6 at *
  replace HN : Hid _ := HN.out _  rfl
  generalize rstep (num 0 1099511627776) 0 bs r6.2 = r7 at *
  unfold two
  have hD := hS.rw hlt hT (hX)
  obtain ⟨u8, hu8⟩ := arr20 hs4 8 (by decide)
  have c8 : x.cell? ⟨w.heap.size + 1, 8, none⟩ = some u8 := (hD.blk.cell 8).trans hu8
  have z8 := hD.blk.frozen 8
  obtain ⟨u9, hu9⟩ := arr20 hs4 9 (by decide)
  have c9 : x.cell? ⟨w.heap.size + 1, 9, none⟩ = some u9 := (hD.blk.cell 9).trans hu9
  have z9 := hD.blk.frozen 9
  have hS2 : DX w hb ao n cap bs r7.2 zeroC ((cc4.setIfInBounds 8 (.int .i64 r6.1)).setIfInBounds 9 (.int .i64 r7.1)) 35 ((x.setCell ⟨w.heap.size + 1, 8, none⟩ (.int .i64 r6.1)).setCell ⟨w.heap.size + 1, 9, none⟩ (.int .i64 r7.1)) := ((hD.set hlt hab 8 _).set hlt hab 9 _)
  refine ⟨_, PA (w.heap.size + 1) 8, ((x.setCell ⟨w.heap.size + 1, 8, none⟩ (.int .i64 r6.1)).setCell ⟨w.heap.size + 1, 9, none⟩ (.int .i64 r7.1)), rfl, fun ev h => by simp only [execOp, h]; simp [go_sem], fun ev h h' => by simp only [execOp, h, h']; simp [go_sem, c8, z8, c9, z9], ?_⟩
  obtain ⟨cc5, HC5, hs5, h05⟩ : ∃ cc : Array Value, Hid (cc = ((cc4.setIfInBounds 8 (.int .i64 r6.1)).setIfInBounds 9 (.int .i64 r7.1))) ∧ cc.size = 20 ∧ cc[0]? = some (.int .i64 6) := ⟨_, rfl, (set20 (set20 hs4 8 _) 9 _), (set0 (set0 h04 8 _ (by decide)) 9 _ (by decide))⟩
  rw [← HC5.out] at hS2
  clear hD hS hc hT hX hs4 h04 c8 z8 hu8 c9 z9 hu9 hF h0 h2 h3 h8
  generalize ((x.setCell ⟨w.heap.size + 1, 8, none⟩ (.int .i64 r6.1)).setCell ⟨w.heap.size + 1, 9, none⟩ (.int .i64 r7.1)) = W at *
  have hS := hS2
  clear hS2
  intro a f hF h0 h2 h3 h8
  show Code.wp _ _ _ _ _
  refine wp_seq ?_
  refine wp_seq ?_
  refine wp_region_list ?_
  have k0 : W.cell? ⟨w.heap.size + 1, 0, none⟩ = some (.int .i64 6) := (hS.blk.cell 0).trans h05
  refine m_tst (d := 78) (p1 := PA (w.heap.size + 1) 0) (u := .int .i64 6) false hF h0 h2 h3 h8 (by omega) (by omega) rfl rfl rfl rfl rfl rfl (fun ev h => by simp only [execOp, h]; simp [go_sem]) (fun ev h => by simp only [execOp, h]; simp [go_sem, k0]) (fun ev hcst h => by simp only [execOp, h, hcst]; simp [go_sem]) ?_
  clear k0 hF h0 h2 h3 h8
  intro a f hF h0 h2 h3 h8 hp
  refine wpList_nil ?_
  show Code.wp _ _ _ _ _
  refine wp_cond_false ((hF.eval 80 (by omega)).trans hp) ?_
  clear hp
  refine wp_skip ?_
  show Code.wp _ _ _ _ _
  obtain ⟨DD, HDD⟩ : ∃ DD : Array Value, Hid (DD = msgCells { Msg.zero with kind := 6, name := r1.1, cap := r2.1, recaps := r3.1, round := r4.1, rank := r5.1, down := r6.1, up := r7.1 } (.slice none 0 0)) := ⟨_, rfl⟩
  have hcD : cc5 = DD := by
    rw [HDD.out, HC5.out, HC4.out, HC3.out, HC2.out, HC1.out, HC0.out]
    rfl
  rw [hcD] at hS
  have hall : DD.all (·.oneCell') = true := by rw [HDD.out]; simp [msgCells, Str, Value.oneCell', Msg.zero]
  have hfin : RdB (W.setRow w.heap.size DD) hb ao n cap bs r7.2 := hS.rd.row _ _ (by omega) (fun b o e => by have := hab b o e; omega)
  have hfx : RX hb w (W.setRow w.heap.size DD) := ⟨hS.rx.os, hS.rx.tape, hS.rx.output, by simpa [World.setRow] using hS.rx.size, fun k h1 h2 => (setRow_other _ _ _ _ (by omega)).trans (hS.rx.block k h1 h2)⟩
  have hans : MsgAns w pp (.returned (.agg DD)) (W.setRow w.heap.size DD) := ⟨{ Msg.zero with kind := 6, name := r1.1, cap := r2.1, recaps := r3.1, round := r4.1, rank := r5.1, down := r6.1, up := r7.1 }, none, 0, by rw [HDD.out]; rfl, World.ownsRow_nil _ _ _ _, by simp [Msg.zero], fun _ => by rw [HN.out]⟩
  have hszD : DD.size = 20 := by rw [HDD.out]; rfl
  refine m_end (d := 84) (Post := fun e z => MsgAns w pp e z ∧ RdB z hb ao n cap bs pp.2 ∧ RX hb w z) hF h2 h3 hS.res hS.blk hszD hall (by omega) (by omega) rfl rfl rfl rfl rfl rfl ?_ ?_
  · refine ⟨hans, ?_, hfx⟩
    rw [HN.out]
    exact hfin
  · intro a' W' hbp
    exact hbp
set_option maxRecDepth 100000 in
set_option maxHeartbeats 3200000 in
theorem rmsg9_any (hb : Nat) (ao : Option Addr) (n cap : Nat) (bs : List UInt8) (st : Nat × Bool) (w : World) (hS : RdB w hb ao n cap bs st) (hsm : n ≤ 140737488355328) (hrm : n ≤ cap) (hnil : ao = none → n = 0 ∧ cap = 0) (hform : ao = none ∨ ∃ b off, ao = some ⟨b, off, none⟩) (hab : ∀ b o, ao = some ⟨b, o, none⟩ → b < w.heap.size) (r0 : Int × Nat × Bool) (h0 : rstep (num 1 10) 0 bs st = r0) (hk : r0.1 = 9) :
    Calls Try.prog 87 #[.pointer (some ⟨hb, 0, none⟩)] w fun e w' => MsgAns w (p9 bs r0.2) e w' ∧ RdB w' hb ao n cap bs (p9 bs r0.2).2 ∧ RX hb w w' := by
  have HN : Hid (∀ r1 r2 r3 r4 r5, nstep [] bs r0.2 = r1 → rstep (num 1 1099511627776) 0 bs r1.2 = r2 → rstep (num 0 1099511627776) 0 bs r2.2 = r3 → rstep (num 0 1099511627776) 0 bs r3.2 = r4 → rstep (num 0 1099511627776) 0 bs r4.2 = r5 → p9 bs r0.2 = ({ Msg.zero with kind := 9, name := r1.1, cap := r2.1, recaps := r3.1, down := r4.1, up := r5.1 }, r5.2)) := by
    intro r1 r2 r3 r4 r5 hr1 hr2 hr3 hr4 hr5
    subst hr1 hr2 hr3 hr4 hr5
    rfl
  have hlt := hS.blk.lt
  generalize hpp : p9 bs r0.2 = pp at *
  clear hpp
  refine calls_of_wp Try.func87 rfl ?_
  have e : Try.f87.ntmps - (#[Value.pointer (some ⟨hb, 0, none⟩)] : Array Value).size = 84 := by rw [Try.ntmps87]; rfl
  rw [e]
  have hF0 := m_frame (.pointer (some ⟨hb, 0, none⟩)) 84
  generalize ({ tmps := #[Value.pointer (some ⟨hb, 0, none⟩)] ++ Array.replicate 84 undef, defers := [] } : Act) = a0 at *
  refine mstart hF0 rfl hS hsm rfl rfl rfl rfl rfl rfl rfl rfl rfl rfl rfl rfl rfl rfl rfl rfl rfl rfl (fun ev W hcst hfn h => by simp only [execOp, resolve, invoke, List.map_toArray, List.map_cons, List.map_nil, h, hcst, hfn]; simp [go_sem]) rfl rfl rfl rfl rfl ?_
  clear hS hF0 e
  rw [h0, hk]
  clear h0 hk
  intro a f W hF h0 h2 h3 h8 hS
  obtain ⟨cc0, HC0, hs0, h00⟩ : ∃ cc : Array Value, Hid (cc = kindM 9) ∧ cc.size = 20 ∧ cc[0]? = some (.int .i64 9) := ⟨_, rfl, rfl, rfl⟩
  rw [← HC0.out] at hS
  refine wp_block ?_
  refine wp_seq ?_
  refine wp_region_list ?_
  refine m_swt (d := 9) false hF h0 h2 h3 h8 (by omega) (by omega) rfl rfl rfl rfl (fun ev hcst h => by simp only [execOp, h, hcst]; simp [go_sem]) (fun ev h => by simp only [execOp, h]; rfl) ?_
  intro a f hF h0 h2 h3 h8 hp
  show Code.wp _ _ _ _ _
  refine wp_cond_false ((hF.eval 9 (by omega)).trans hp) ?_
  clear hp
  refine wp_seq ?_
  refine wp_region_list ?_
  refine m_swt (d := 18) false hF h0 h2 h3 h8 (by omega) (by omega) rfl rfl rfl rfl (fun ev hcst h => by simp only [execOp, h, hcst]; simp [go_sem]) (fun ev h => by simp only [execOp, h]; rfl) ?_
  intro a f hF h0 h2 h3 h8 hp
  show Code.wp _ _ _ _ _
  refine wp_cond_false ((hF.eval 18 (by omega)).trans hp) ?_
  clear hp
  refine wp_seq ?_
  refine wp_region_list ?_
  refine m_swt (d := 44) false hF h0 h2 h3 h8 (by omega) (by omega) rfl rfl rfl rfl (fun ev hcst h => by simp only [execOp, h, hcst]; simp [go_sem]) (fun ev h => by simp only [execOp, h]; rfl) ?_
  intro a f hF h0 h2 h3 h8 hp
  show Code.wp _ _ _ _ _
  refine wp_cond_false ((hF.eval 44 (by omega)).trans hp) ?_
  clear hp
  refine wp_skip ?_
  show Code.wp _ _ _ _ _
  refine wp_seq ?_
  refine wp_region_list ?_
  have hc : Calls Try.prog 100 #[_, .string ⟨#[]⟩] W _ := rname2_any hb ao n cap bs [] r0.2 W hS.rd hsm hrm hnil hform
  refine m_fld (d := 50) hF h0 h2 h3 h8 (by omega) (by omega) rfl rfl rfl rfl rfl rfl rfl rfl rfl (fun ev hcst hfn h => by simp only [execOp, resolve, invoke, List.map_toArray, List.map_cons, List.map_nil, h, hcst, hfn]; simp [go_sem]) hc ?_
  rintro e x ⟨rfl, hT, hX⟩
  replace HN : Hid _ := fun r2 r3 r4 r5 => HN.out _ r2 r3 r4 r5 rfl
  generalize nstep [] bs r0.2 = r1 at *
  unfold Str
  have hD := hS.rw hlt hT (RX.of hX)
  obtain ⟨u1, hu1⟩ := arr20 hs0 1 (by decide)
  have c1 : x.cell? ⟨w.heap.size + 1, 1, none⟩ = some u1 := (hD.blk.cell 1).trans hu1
  have z1 := hD.blk.frozen 1
  have hS2 : DX w hb ao n cap bs r1.2 zeroC (cc0.setIfInBounds 1 (.string ⟨r1.1.toArray⟩)) 35 (x.setCell ⟨w.heap.size + 1, 1, none⟩ (.string ⟨r1.1.toArray⟩)) := (hD.set hlt hab 1 _)
  refine ⟨_, PA (w.heap.size + 1) 1, (x.setCell ⟨w.heap.size + 1, 1, none⟩ (.string ⟨r1.1.toArray⟩)), rfl, fun ev h => by simp only [execOp, h]; simp [go_sem], fun ev h h' => by simp only [execOp, h, h']; simp [go_sem, c1, z1], ?_⟩
  obtain ⟨cc1, HC1, hs1, h01⟩ : ∃ cc : Array Value, Hid (cc = (cc0.setIfInBounds 1 (.string ⟨r1.1.toArray⟩))) ∧ cc.size = 20 ∧ cc[0]? = some (.int .i64 9) := ⟨_, rfl, (set20 hs0 1 _), (set0 h00 1 _ (by decide))⟩
  rw [← HC1.out] at hS2
  clear hD hS hc hT hX hs0 h00 c1 z1 hu1 hF h0 h2 h3 h8
  generalize (x.setCell ⟨w.heap.size + 1, 1, none⟩ (.string ⟨r1.1.toArray⟩)) = W at *
  have hS := hS2
  clear hS2
  intro a f hF h0 h2 h3 h8
  show Code.wp _ _ _ _ _
  refine wp_seq ?_
  refine wp_region_list ?_
  have hc := rnum_any hb ao n cap bs r1.2 1 1099511627776 (by omega) (by omega) W hS.rd hsm
  refine m_fld (d := 53) hF h0 h2 h3 h8 (by omega) (by omega) rfl rfl rfl rfl rfl rfl rfl rfl rfl (fun ev hcst hfn h => by simp only [execOp, resolve, invoke, List.map_toArray, List.map_cons, List.map_nil, h, hcst, hfn]; simp [go_sem]) hc ?_
  rintro e x ⟨rfl, hT, hX⟩
  replace HN : Hid _ := fun r3 r4 r5 => HN.out _ r3 r4 r5 rfl
  generalize rstep (num 1 1099511627776) 0 bs r1.2 = r2 at *
  have hD := hS.rw hlt hT (RX.of hX)
  obtain ⟨u2, hu2⟩ := arr20 hs1 2 (by decide)
  have c2 : x.cell? ⟨w.heap.size + 1, 2, none⟩ = some u2 := (hD.blk.cell 2).trans hu2
  have z2 := hD.blk.frozen 2
  have hS2 : DX w hb ao n cap bs r2.2 zeroC (cc1.setIfInBounds 2 (.int .i64 r2.1)) 35 (x.setCell ⟨w.heap.size + 1, 2, none⟩ (.int .i64 r2.1)) := (hD.set hlt hab 2 _)
  refine ⟨_, PA (w.heap.size + 1) 2, (x.setCell ⟨w.heap.size + 1, 2, none⟩ (.int .i64 r2.1)), rfl, fun ev h => by simp only [execOp, h]; simp [go_sem], fun ev h h' => by simp only [execOp, h, h']; simp [go_sem, c2, z2], ?_⟩
  obtain ⟨cc2, HC2, hs2, h02⟩ : ∃ cc : Array Value, Hid (cc = (cc1.setIfInBounds 2 (.int .i64 r2.1))) ∧ cc.size = 20 ∧ cc[0]? = some (.int .i64 9) := ⟨_, rfl, (set20 hs1 2 _), (set0 h01 2 _ (by decide))⟩
  rw [← HC2.out] at hS2
  clear hD hS hc hT hX hs1 h01 c2 z2 hu2 hF h0 h2 h3 h8
  generalize (x.setCell ⟨w.heap.size + 1, 2, none⟩ (.int .i64 r2.1)) = W at *
  have hS := hS2
  clear hS2
  intro a f hF h0 h2 h3 h8
  show Code.wp _ _ _ _ _
  refine wp_seq ?_
  refine wp_region_list ?_
  have hc := rnum_any hb ao n cap bs r2.2 0 1099511627776 (by omega) (by omega) W hS.rd hsm
  refine m_fld (d := 56) hF h0 h2 h3 h8 (by omega) (by omega) rfl rfl rfl rfl rfl rfl rfl rfl rfl (fun ev hcst hfn h => by simp only [execOp, resolve, invoke, List.map_toArray, List.map_cons, List.map_nil, h, hcst, hfn]; simp [go_sem]) hc ?_
  rintro e x ⟨rfl, hT, hX⟩
  replace HN : Hid _ := fun r4 r5 => HN.out _ r4 r5 rfl
  generalize rstep (num 0 1099511627776) 0 bs r2.2 = r3 at *
  have hD := hS.rw hlt hT (RX.of hX)
  obtain ⟨u3, hu3⟩ := arr20 hs2 3 (by decide)
  have c3 : x.cell? ⟨w.heap.size + 1, 3, none⟩ = some u3 := (hD.blk.cell 3).trans hu3
  have z3 := hD.blk.frozen 3
  have hS2 : DX w hb ao n cap bs r3.2 zeroC (cc2.setIfInBounds 3 (.int .i64 r3.1)) 35 (x.setCell ⟨w.heap.size + 1, 3, none⟩ (.int .i64 r3.1)) := (hD.set hlt hab 3 _)
  refine ⟨_, PA (w.heap.size + 1) 3, (x.setCell ⟨w.heap.size + 1, 3, none⟩ (.int .i64 r3.1)), rfl, fun ev h => by simp only [execOp, h]; simp [go_sem], fun ev h h' => by simp only [execOp, h, h']; simp [go_sem, c3, z3], ?_⟩
  obtain ⟨cc3, HC3, hs3, h03⟩ : ∃ cc : Array Value, Hid (cc = (cc2.setIfInBounds 3 (.int .i64 r3.1))) ∧ cc.size = 20 ∧ cc[0]? = some (.int .i64 9) := ⟨_, rfl, (set20 hs2 3 _), (set0 h02 3 _ (by decide))⟩
  rw [← HC3.out] at hS2
  clear hD hS hc hT hX hs2 h02 c3 z3 hu3 hF h0 h2 h3 h8
  generalize (x.setCell ⟨w.heap.size + 1, 3, none⟩ (.int .i64 r3.1)) = W at *
  have hS := hS2
  clear hS2
  intro a f hF h0 h2 h3 h8
  show Code.wp _ _ _ _ _
  refine wp_seq ?_
  refine wp_seq ?_
  refine wp_region_list ?_
  have k0 : W.cell? ⟨w.heap.size + 1, 0, none⟩ = some (.int .i64 9) := (hS.blk.cell 0).trans h03
  refine m_tst (d := 59) (p1 := PA (w.heap.size + 1) 0) (u := .int .i64 9) false hF h0 h2 h3 h8 (by omega) (by omega) rfl rfl rfl rfl rfl rfl (fun ev h => by simp only [execOp, h]; simp [go_sem]) (fun ev h => by simp only [execOp, h]; simp [go_sem, k0]) (fun ev hcst h => by simp only [execOp, h, hcst]; simp [go_sem]) ?_
  clear k0 hF h0 h2 h3 h8
  intro a f hF h0 h2 h3 h8 hp
  refine wpList_nil ?_
  show Code.wp _ _ _ _ _
  refine wp_cond_false ((hF.eval 61 (by omega)).trans hp) ?_
  clear hp
  refine wp_skip ?_
  show Code.wp _ _ _ _ _
  refine wp_seq ?_
  refine wp_seq ?_
  refine wp_region_list ?_
  have k0 : W.cell? ⟨w.heap.size + 1, 0, none⟩ = some (.int .i64 9) := (hS.blk.cell 0).trans h03
  refine m_tst (d := 65) (p1 := PA (w.heap.size + 1) 0) (u := .int .i64 9) false hF h0 h2 h3 h8 (by omega) (by omega) rfl rfl rfl rfl rfl rfl (fun ev h => by simp only [execOp, h]; simp [go_sem]) (fun ev h => by simp only [execOp, h]; simp [go_sem, k0]) (fun ev hcst h => by simp only [execOp, h, hcst]; simp [go_sem]) ?_
  clear k0 hF h0 h2 h3 h8
  intro a f hF h0 h2 h3 h8 hp
  refine wpList_nil ?_
  show Code.wp _ _ _ _ _
  refine wp_cond_false ((hF.eval 67 (by omega)).trans hp) ?_
  clear hp
  refine wp_skip ?_
  show Code.wp _ _ _ _ _
  refine wp_seq ?_
  refine wp_seq ?_
  refine wp_region_list ?_
  have k0 : W.cell? ⟨w.heap.size + 1, 0, none⟩ = some (.int .i64 9) := (hS.blk.cell 0).trans h03
  refine m_tst (d := 72) (p1 := PA (w.heap.size + 1) 0) (u := .int .i64 9) true hF h0 h2 h3 h8 (by omega) (by omega) rfl rfl rfl rfl rfl rfl (fun ev h => by simp only [execOp, h]; simp [go_sem]) (fun ev h => by simp only [execOp, h]; simp [go_sem, k0]) (fun ev hcst h => by simp only [execOp, h, hcst]; simp [go_sem]) ?_
  clear k0 hF h0 h2 h3 h8
  intro a f hF h0 h2 h3 h8 hp
  refine wpList_nil ?_
  show Code.wp _ _ _ _ _
  refine wp_cond_true ((hF.eval 74 (by omega)).trans hp) ?_
  clear hp
  refine wp_region_list ?_
  have hc := rrights2_any hb ao n cap bs r3.2 W hS.rd hsm (fun b o e => by have := hab b o e; have := hS.rx.size; omega) _ _ rfl rfl
  refine m_fld (d := 75) hF h0 h2 h3 h8 (by omega) (by omega) rfl rfl rfl rfl rfl rfl rfl rfl rfl (fun ev hcst hfn h => by simp only [execOp, resolve, invoke, List.map_toArray, List.map_cons, List.map_nil, h, hcst, hfn]; simp [go_sem]) hc ?_
  rintro e x ⟨rfl, hT, hX⟩
  replace HN : Hid _ := fun r5 => HN.out _ r5 rfl
  generalize rstep (num 0 1099511627776) 0 bs r3.2 = r4 at *
  replace HN : Hid _ := HN.out _  rfl
  generalize rstep (num 0 1099511627776) 0 bs r4.2 = r5 at *
  unfold two
  have hD := hS.rw hlt hT (hX)
  obtain ⟨u8, hu8⟩ := arr20 hs3 8 (by decide)
  have c8 : x.cell? ⟨w.heap.size + 1, 8, none⟩ = some u8 := (hD.blk.cell 8).trans hu8
  have z8 := hD.blk.frozen 8
  obtain ⟨u9, hu9⟩ := arr20 hs3 9 (by decide)
  have c9 : x.cell? ⟨w.heap.size + 1, 9, none⟩ = some u9 := (hD.blk.cell 9).trans hu9
  have z9 := hD.blk.frozen 9
  have hS2 : DX w hb ao n cap bs r5.2 zeroC ((cc3.setIfInBounds 8 (.int .i64 r4.1)).setIfInBounds 9 (.int .i64 r5.1)) 35 ((x.setCell ⟨w.heap.size + 1, 8, none⟩ (.int .i64 r4.1)).setCell ⟨w.heap.size + 1, 9, none⟩ (.int .i64 r5.1)) := ((hD.set hlt hab 8 _).set hlt hab 9 _)
  refine ⟨_, PA (w.heap.size + 1) 8, ((x.setCell ⟨w.heap.size + 1, 8, none⟩ (.int .i64 r4.1)).setCell ⟨w.heap.size + 1, 9, none⟩ (.int .i64 r5.1)), rfl, fun ev h => by simp only [execOp, h]; simp [go_sem], fun ev h h' => by simp only [execOp, h, h']; simp [go_sem, c8, z8, c9, z9], ?_⟩
  obtain ⟨cc4, HC4, hs4, h04⟩ : ∃ cc : Array Value, Hid (cc = ((cc3.setIfInBounds 8 (.int .i64 r4.1)).setIfInBounds 9 (.int .i64 r5.1))) ∧ cc.size = 20 ∧ cc[0]? = some (.int .i64 9) := ⟨_, rfl, (set20 (set20 hs3 8 _) 9 _), (set0 (set0 h03 8 _ (by decide)) 9 _ (by decide))⟩
  rw [← HC4.out] at hS2
  clear hD hS hc hT hX hs3 h03 c8 z8 hu8 c9 z9 hu9 hF h0 h2 h3 h8
  generalize ((x.setCell ⟨w.heap.size + 1, 8, none⟩ (.int .i64 r4.1)).setCell ⟨w.heap.size + 1, 9, none⟩ (.int .i64 r5.1)) = W at *
  have hS := hS2
  clear hS2
  intro a f hF h0 h2 h3 h8
  show Code.wp _ _ _ _ _
  refine wp_seq ?_
  refine wp_seq ?_
  refine wp_region_list ?_
  have k0 : W.cell? ⟨w.heap.size + 1, 0, none⟩ = some (.int .i64 9) := (hS.blk.cell 0).trans h04
  refine m_tst (d := 78) (p1 := PA (w.heap.size + 1) 0) (u := .int .i64 9) false hF h0 h2 h3 h8 (by omega) (by omega) rfl rfl rfl rfl rfl rfl (fun ev h => by simp only [execOp, h]; simp [go_sem]) (fun ev h => by simp only [execOp, h]; simp [go_sem, k0]) (fun ev hcst h => by simp only [execOp, h, hcst]; simp [go_sem]) ?_
  clear k0 hF h0 h2 h3 h8
  intro a f hF h0 h2 h3 h8 hp
  refine wpList_nil ?_
  show Code.wp _ _ _ _ _
  refine wp_cond_false ((hF.eval 80 (by omega)).trans hp) ?_
  clear hp
  refine wp_skip ?_
  show Code.wp _ _ _ _ _
  obtain ⟨DD, HDD⟩ : ∃ DD : Array Value, Hid (DD = msgCells { Msg.zero with kind := 9, name := r1.1, cap := r2.1, recaps := r3.1, down := r4.1, up := r5.1 } (.slice none 0 0)) := ⟨_, rfl⟩
  have hcD : cc4 = DD := by
    rw [HDD.out, HC4.out, HC3.out, HC2.out, HC1.out, HC0.out]
    rfl
  rw [hcD] at hS
  have hall : DD.all (·.oneCell') = true := by rw [HDD.out]; simp [msgCells, Str, Value.oneCell', Msg.zero]
  have hfin : RdB (W.setRow w.heap.size DD) hb ao n cap bs r5.2 := hS.rd.row _ _ (by omega) (fun b o e => by have := hab b o e; omega)
  have hfx : RX hb w (W.setRow w.heap.size DD) := ⟨hS.rx.os, hS.rx.tape, hS.rx.output, by simpa [World.setRow] using hS.rx.size, fun k h1 h2 => (setRow_other _ _ _ _ (by omega)).trans (hS.rx.block k h1 h2)⟩
  have hans : MsgAns w pp (.returned (.agg DD)) (W.setRow w.heap.size DD) := ⟨{ Msg.zero with kind := 9, name := r1.1, cap := r2.1, recaps := r3.1, down := r4.1, up := r5.1 }, none, 0, by rw [HDD.out]; rfl, World.ownsRow_nil _ _ _ _, by simp [Msg.zero], fun _ => by rw [HN.out]⟩
  have hszD : DD.size = 20 := by rw [HDD.out]; rfl
  refine m_end (d := 84) (Post := fun e z => MsgAns w pp e z ∧ RdB z hb ao n cap bs pp.2 ∧ RX hb w z) hF h2 h3 hS.res hS.blk hszD hall (by omega) (by omega) rfl rfl rfl rfl rfl rfl ?_ ?_
  · refine ⟨hans, ?_, hfx⟩
    rw [HN.out]
    exact hfin
  · intro a' W' hbp
    exact hbp
end Go.Proofs.Ytneiomimjgfbpaa
namespace Go.Proofs.Ytneiomimjgfbpaa
open Go.RowKit Go.PlainAid
set_option linter.unusedSimpArgs false
set_option linter.unusedVariables false
set_option maxRecDepth 100000 in
set_option maxHeartbeats 3200000 in
theorem rmsg1_any (hb : Nat) (ao : Option Addr) (n cap : Nat) (bs : List UInt8) (st : Nat × Bool) (w : World) (hS : RdB w hb ao n cap bs st) (hsm : n ≤ 140737488355328) (hrm : n ≤ cap) (hnil : ao = none → n = 0 ∧ cap = 0) (hform : ao = none ∨ ∃ b off, ao = some ⟨b, off, none⟩) (hab : ∀ b o, ao = some ⟨b, o, none⟩ → b < w.heap.size) (r0 : Int × Nat × Bool) (h0 : rstep (num 1 10) 0 bs st = r0) (hk : r0.1 = 1) :
    Calls Try.prog 87 #[.pointer (some ⟨hb, 0, none⟩)] w fun e w' => MsgAns w (p1 bs r0.2) e w' ∧ RdB w' hb ao n cap bs (p1 bs r0.2).2 ∧ RX hb w w' := by
  have HN : Hid (∀ r1 r2 r3, rstep (num 0 63) 0 bs r0.2 = r1 → rstep (num 1 1099511627776) 0 bs r1.2 = r2 → ostep bs r2.2 = r3 → p1 bs r0.2 = ({ Msg.zero with kind := 1, session := r1.1, id := r2.1, okind := r3.1.1, oname := r3.1.2.1, oa := r3.1.2.2.1, ob := r3.1.2.2.2 }, r3.2)) := by
    intro r1 r2 r3 hr1 hr2 hr3
    subst hr1 hr2 hr3
    rfl
  have hlt := hS.blk.lt
  generalize hpp : p1 bs r0.2 = pp at *
  clear hpp
  refine calls_of_wp Try.func87 rfl ?_
  have e : Try.f87.ntmps - (#[Value.pointer (some ⟨hb, 0, none⟩)] : Array Value).size = 84 := by rw [Try.ntmps87]; rfl
  rw [e]
  have hF0 := m_frame (.pointer (some ⟨hb, 0, none⟩)) 84
  generalize ({ tmps := #[Value.pointer (some ⟨hb, 0, none⟩)] ++ Array.replicate 84 undef, defers := [] } : Act) = a0 at *
  refine mstart hF0 rfl hS hsm rfl rfl rfl rfl rfl rfl rfl rfl rfl rfl rfl rfl rfl rfl rfl rfl rfl rfl (fun ev W hcst hfn h => by simp only [execOp, resolve, invoke, List.map_toArray, List.map_cons, List.map_nil, h, hcst, hfn]; simp [go_sem]) rfl rfl rfl rfl rfl ?_
  clear hS hF0 e
  rw [h0, hk]
  clear h0 hk
  intro a f W hF h0 h2 h3 h8 hS
  obtain ⟨cc0, HC0, hs0, h00⟩ : ∃ cc : Array Value, Hid (cc = kindM 1) ∧ cc.size = 20 ∧ cc[0]? = some (.int .i64 1) := ⟨_, rfl, rfl, rfl⟩
  rw [← HC0.out] at hS
  refine wp_block ?_
  refine wp_seq ?_
  refine wp_region_list ?_
  refine m_swt (d := 9) true hF h0 h2 h3 h8 (by omega) (by omega) rfl rfl rfl rfl (fun ev hcst h => by simp only [execOp, h, hcst]; simp [go_sem]) (fun ev h => by simp only [execOp, h]; rfl) ?_
  intro a f hF h0 h2 h3 h8 hp
  show Code.wp _ _ _ _ _
  refine wp_cond_true ((hF.eval 9 (by omega)).trans hp) ?_
  clear hp
  refine wp_seq ?_
  refine wp_region_list ?_
  have hc := rcall2_any hb ao n cap bs r0.2 W hS.rd hsm (fun b o e => by have := hab b o e; have := hS.rx.size; omega) _ _ rfl rfl
  refine m_fld (d := 11) hF h0 h2 h3 h8 (by omega) (by omega) rfl rfl rfl rfl rfl rfl rfl rfl rfl (fun ev hcst hfn h => by simp only [execOp, resolve, invoke, List.map_toArray, List.map_cons, List.map_nil, h, hcst, hfn]; simp [go_sem]) hc ?_
  rintro e x ⟨rfl, hT, hX⟩
  replace HN : Hid _ := fun r2 r3 => HN.out _ r2 r3 rfl
  generalize rstep (num 0 63) 0 bs r0.2 = r1 at *
  replace HN : Hid _ := fun r3 => HN.out _ r3 rfl
  generalize rstep (num 1 1099511627776) 0 bs r1.2 = r2 at *
  unfold two
  have hD := hS.rw hlt hT (hX)
  obtain ⟨u11, hu11⟩ := arr20 hs0 11 (by decide)
  have c11 : x.cell? ⟨w.heap.size + 1, 11, none⟩ = some u11 := (hD.blk.cell 11).trans hu11
  have z11 := hD.blk.frozen 11
  obtain ⟨u12, hu12⟩ := arr20 hs0 12 (by decide)
  have c12 : x.cell? ⟨w.heap.size + 1, 12, none⟩ = some u12 := (hD.blk.cell 12).trans hu12
  have z12 := hD.blk.frozen 12
  have hS2 : DX w hb ao n cap bs r2.2 zeroC ((cc0.setIfInBounds 11 (.int .i64 r1.1)).setIfInBounds 12 (.int .i64 r2.1)) 35 ((x.setCell ⟨w.heap.size + 1, 11, none⟩ (.int .i64 r1.1)).setCell ⟨w.heap.size + 1, 12, none⟩ (.int .i64 r2.1)) := ((hD.set hlt hab 11 _).set hlt hab 12 _)
  refine ⟨_, PA (w.heap.size + 1) 11, ((x.setCell ⟨w.heap.size + 1, 11, none⟩ (.int .i64 r1.1)).setCell ⟨w.heap.size + 1, 12, none⟩ (.int .i64 r2.1)), rfl, fun ev h => by simp only [execOp, h]; simp [go_sem], fun ev h h' => by simp only [execOp, h, h']; simp [go_sem, c11, z11, c12, z12], ?_⟩
  obtain ⟨cc1, HC1, hs1, h01⟩ : ∃ cc : Array Value, Hid (cc = ((cc0.setIfInBounds 11 (.int .i64 r1.1)).setIfInBounds 12 (.int .i64 r2.1))) ∧ cc.size = 20 ∧ cc[0]? = some (.int .i64 1) := ⟨_, rfl, (set20 (set20 hs0 11 _) 12 _), (set0 (set0 h00 11 _ (by decide)) 12 _ (by decide))⟩
  rw [← HC1.out] at hS2
  clear hD hS hc hT hX hs0 h00 c11 z11 hu11 c12 z12 hu12 hF h0 h2 h3 h8
  generalize ((x.setCell ⟨w.heap.size + 1, 11, none⟩ (.int .i64 r1.1)).setCell ⟨w.heap.size + 1, 12, none⟩ (.int .i64 r2.1)) = W at *
  have hS := hS2
  clear hS2
  intro a f hF h0 h2 h3 h8
  show Code.wp _ _ _ _ _
  refine wp_seq ?_
  refine wp_region_list ?_
  have hc := rop2_any hb ao n cap bs r2.2 W hS.rd hsm hrm hnil hform (fun b o e => by have := hab b o e; have := hS.rx.size; omega)
  refine m_fld (d := 14) hF h0 h2 h3 h8 (by omega) (by omega) rfl rfl rfl rfl rfl rfl rfl rfl rfl (fun ev hcst hfn h => by simp only [execOp, resolve, invoke, List.map_toArray, List.map_cons, List.map_nil, h, hcst, hfn]; simp [go_sem]) hc ?_
  rintro e x ⟨rfl, hT, hX⟩
  replace HN : Hid _ := HN.out _  rfl
  generalize ostep bs r2.2 = r3 at *
  unfold opCells Str
  have hD := hS.rw hlt hT (hX)
  obtain ⟨u13, hu13⟩ := arr20 hs1 13 (by decide)
  have c13 : x.cell? ⟨w.heap.size + 1, 13, none⟩ = some u13 := (hD.blk.cell 13).trans hu13
  have z13 := hD.blk.frozen 13
  obtain ⟨u14, hu14⟩ := arr20 hs1 14 (by decide)
  have c14 : x.cell? ⟨w.heap.size + 1, 14, none⟩ = some u14 := (hD.blk.cell 14).trans hu14
  have z14 := hD.blk.frozen 14
  obtain ⟨u15, hu15⟩ := arr20 hs1 15 (by decide)
  have c15 : x.cell? ⟨w.heap.size + 1, 15, none⟩ = some u15 := (hD.blk.cell 15).trans hu15
  have z15 := hD.blk.frozen 15
  obtain ⟨u16, hu16⟩ := arr20 hs1 16 (by decide)
  have c16 : x.cell? ⟨w.heap.size + 1, 16, none⟩ = some u16 := (hD.blk.cell 16).trans hu16
  have z16 := hD.blk.frozen 16
  have hS2 : DX w hb ao n cap bs r3.2 zeroC ((((cc1.setIfInBounds 13 (.int .i64 r3.1.1)).setIfInBounds 14 (.string ⟨r3.1.2.1.toArray⟩)).setIfInBounds 15 (.int .i64 r3.1.2.2.1)).setIfInBounds 16 (.int .i64 r3.1.2.2.2)) 35 ((((x.setCell ⟨w.heap.size + 1, 13, none⟩ (.int .i64 r3.1.1)).setCell ⟨w.heap.size + 1, 14, none⟩ (.string ⟨r3.1.2.1.toArray⟩)).setCell ⟨w.heap.size + 1, 15, none⟩ (.int .i64 r3.1.2.2.1)).setCell ⟨w.heap.size + 1, 16, none⟩ (.int .i64 r3.1.2.2.2)) := ((((hD.set hlt hab 13 _).set hlt hab 14 _).set hlt hab 15 _).set hlt hab 16 _)
  refine ⟨_, PA (w.heap.size + 1) 13, ((((x.setCell ⟨w.heap.size + 1, 13, none⟩ (.int .i64 r3.1.1)).setCell ⟨w.heap.size + 1, 14, none⟩ (.string ⟨r3.1.2.1.toArray⟩)).setCell ⟨w.heap.size + 1, 15, none⟩ (.int .i64 r3.1.2.2.1)).setCell ⟨w.heap.size + 1, 16, none⟩ (.int .i64 r3.1.2.2.2)), rfl, fun ev h => by simp only [execOp, h]; simp [go_sem], fun ev h h' => by simp only [execOp, h, h']; simp [go_sem, c13, z13, c14, z14, c15, z15, c16, z16], ?_⟩
  obtain ⟨cc2, HC2, hs2, h02⟩ : ∃ cc : Array Value, Hid (cc = ((((cc1.setIfInBounds 13 (.int .i64 r3.1.1)).setIfInBounds 14 (.string ⟨r3.1.2.1.toArray⟩)).setIfInBounds 15 (.int .i64 r3.1.2.2.1)).setIfInBounds 16 (.int .i64 r3.1.2.2.2))) ∧ cc.size = 20 ∧ cc[0]? = some (.int .i64 1) := ⟨_, rfl, (set20 (set20 (set20 (set20 hs1 13 _) 14 _) 15 _) 16 _), (set0 (set0 (set0 (set0 h01 13 _ (by decide)) 14 _ (by decide)) 15 _ (by decide)) 16 _ (by decide))⟩
  rw [← HC2.out] at hS2
  clear hD hS hc hT hX hs1 h01 c13 z13 hu13 c14 z14 hu14 c15 z15 hu15 c16 z16 hu16 hF h0 h2 h3 h8
  generalize ((((x.setCell ⟨w.heap.size + 1, 13, none⟩ (.int .i64 r3.1.1)).setCell ⟨w.heap.size + 1, 14, none⟩ (.string ⟨r3.1.2.1.toArray⟩)).setCell ⟨w.heap.size + 1, 15, none⟩ (.int .i64 r3.1.2.2.1)).setCell ⟨w.heap.size + 1, 16, none⟩ (.int .i64 r3.1.2.2.2)) = W at *
  have hS := hS2
  clear hS2
  intro a f hF h0 h2 h3 h8
  show Code.wp _ _ _ _ _
  obtain ⟨DD, HDD⟩ : ∃ DD : Array Value, Hid (DD = msgCells { Msg.zero with kind := 1, session := r1.1, id := r2.1, okind := r3.1.1, oname := r3.1.2.1, oa := r3.1.2.2.1, ob := r3.1.2.2.2 } (.slice none 0 0)) := ⟨_, rfl⟩
  have hcD : cc2 = DD := by
    rw [HDD.out, HC2.out, HC1.out, HC0.out]
    rfl
  rw [hcD] at hS
  have hall : DD.all (·.oneCell') = true := by rw [HDD.out]; simp [msgCells, Str, Value.oneCell', Msg.zero]
  have hfin : RdB (W.setRow w.heap.size DD) hb ao n cap bs r3.2 := hS.rd.row _ _ (by omega) (fun b o e => by have := hab b o e; omega)
  have hfx : RX hb w (W.setRow w.heap.size DD) := ⟨hS.rx.os, hS.rx.tape, hS.rx.output, by simpa [World.setRow] using hS.rx.size, fun k h1 h2 => (setRow_other _ _ _ _ (by omega)).trans (hS.rx.block k h1 h2)⟩
  have hans : MsgAns w pp (.returned (.agg DD)) (W.setRow w.heap.size DD) := ⟨{ Msg.zero with kind := 1, session := r1.1, id := r2.1, okind := r3.1.1, oname := r3.1.2.1, oa := r3.1.2.2.1, ob := r3.1.2.2.2 }, none, 0, by rw [HDD.out]; rfl, World.ownsRow_nil _ _ _ _, by simp [Msg.zero], fun _ => by rw [HN.out]⟩
  have hszD : DD.size = 20 := by rw [HDD.out]; rfl
  refine m_end (d := 17) (Post := fun e z => MsgAns w pp e z ∧ RdB z hb ao n cap bs pp.2 ∧ RX hb w z) hF h2 h3 hS.res hS.blk hszD hall (by omega) (by omega) rfl rfl rfl rfl rfl rfl ?_ ?_
  · refine ⟨hans, ?_, hfx⟩
    rw [HN.out]
    exact hfin
  · intro a' W' hbp
    exact hbp
set_option maxRecDepth 100000 in
set_option maxHeartbeats 3200000 in
theorem rmsg10_any (hb : Nat) (ao : Option Addr) (n cap : Nat) (bs : List UInt8) (st : Nat × Bool) (w : World) (hS : RdB w hb ao n cap bs st) (hsm : n ≤ 140737488355328) (hrm : n ≤ cap) (hnil : ao = none → n = 0 ∧ cap = 0) (hform : ao = none ∨ ∃ b off, ao = some ⟨b, off, none⟩) (hab : ∀ b o, ao = some ⟨b, o, none⟩ → b < w.heap.size) (r0 : Int × Nat × Bool) (h0 : rstep (num 1 10) 0 bs st = r0) (hk : r0.1 = 10) :
    Calls Try.prog 87 #[.pointer (some ⟨hb, 0, none⟩)] w fun e w' => MsgAns w (p10 bs r0.2) e w' ∧ RdB w' hb ao n cap bs (p10 bs r0.2).2 ∧ RX hb w w' := by
  have HN : Hid (∀ r1, vsteps bs r0.2 = r1 → p10 bs r0.2 = ({ Msg.zero with kind := 10, views := r1.1 }, r1.2)) := by
    intro r1 hr1
    subst hr1
    rfl
  have hlt := hS.blk.lt
  generalize hpp : p10 bs r0.2 = pp at *
  clear hpp
  refine calls_of_wp Try.func87 rfl ?_
  have e : Try.f87.ntmps - (#[Value.pointer (some ⟨hb, 0, none⟩)] : Array Value).size = 84 := by rw [Try.ntmps87]; rfl
  rw [e]
  have hF0 := m_frame (.pointer (some ⟨hb, 0, none⟩)) 84
  generalize ({ tmps := #[Value.pointer (some ⟨hb, 0, none⟩)] ++ Array.replicate 84 undef, defers := [] } : Act) = a0 at *
  refine mstart hF0 rfl hS hsm rfl rfl rfl rfl rfl rfl rfl rfl rfl rfl rfl rfl rfl rfl rfl rfl rfl rfl (fun ev W hcst hfn h => by simp only [execOp, resolve, invoke, List.map_toArray, List.map_cons, List.map_nil, h, hcst, hfn]; simp [go_sem]) rfl rfl rfl rfl rfl ?_
  clear hS hF0 e
  rw [h0, hk]
  clear h0 hk
  intro a f W hF h0 h2 h3 h8 hS
  obtain ⟨cc0, HC0, hs0, h00⟩ : ∃ cc : Array Value, Hid (cc = kindM 10) ∧ cc.size = 20 ∧ cc[0]? = some (.int .i64 10) := ⟨_, rfl, rfl, rfl⟩
  rw [← HC0.out] at hS
  refine wp_block ?_
  refine wp_seq ?_
  refine wp_region_list ?_
  refine m_swt (d := 9) false hF h0 h2 h3 h8 (by omega) (by omega) rfl rfl rfl rfl (fun ev hcst h => by simp only [execOp, h, hcst]; simp [go_sem]) (fun ev h => by simp only [execOp, h]; rfl) ?_
  intro a f hF h0 h2 h3 h8 hp
  show Code.wp _ _ _ _ _
  refine wp_cond_false ((hF.eval 9 (by omega)).trans hp) ?_
  clear hp
  refine wp_seq ?_
  refine wp_region_list ?_
  refine m_swt (d := 18) false hF h0 h2 h3 h8 (by omega) (by omega) rfl rfl rfl rfl (fun ev hcst h => by simp only [execOp, h, hcst]; simp [go_sem]) (fun ev h => by simp only [execOp, h]; rfl) ?_
  intro a f hF h0 h2 h3 h8 hp
  show Code.wp _ _ _ _ _
  refine wp_cond_false ((hF.eval 18 (by omega)).trans hp) ?_
  clear hp
  refine wp_seq ?_
  refine wp_region_list ?_
  refine m_swt (d := 44) true hF h0 h2 h3 h8 (by omega) (by omega) rfl rfl rfl rfl (fun ev hcst h => by simp only [execOp, h, hcst]; simp [go_sem]) (fun ev h => by simp only [execOp, h]; rfl) ?_
  intro a f hF h0 h2 h3 h8 hp
  show Code.wp _ _ _ _ _
  refine wp_cond_true ((hF.eval 44 (by omega)).trans hp) ?_
  clear hp
  refine wp_seq ?_
  refine wp_region_list ?_
  have hc := rviews2_any hb ao n cap bs r0.2 W hS.rd hsm hrm hnil hform (fun b o e => by have := hab b o e; have := hS.rx.size; omega)
  refine m_fld (d := 46) hF h0 h2 h3 h8 (by omega) (by omega) rfl rfl rfl rfl rfl rfl rfl rfl rfl (fun ev hcst hfn h => by simp only [execOp, resolve, invoke, List.map_toArray, List.map_cons, List.map_nil, h, hcst, hfn]; simp [go_sem]) hc ?_
  rintro e x ⟨⟨lv, l, rfl, hOw, hl64, hl⟩, hT, hX⟩
  replace HN : Hid _ := HN.out _  rfl
  generalize vsteps bs r0.2 = r1 at *
  have hD := hS.rw hlt hT (hX)
  have hxz := hS.blk.lt
  replace hOw : x.ownsRow (w.heap.size + 2) 106 7 lv l.length (rowV l) := own_monoG hOw (by omega)
  obtain ⟨vo, vc, rfl⟩ : ∃ vo vc, lv = .slice vo l.length vc := by
    rcases hOw.2 with ⟨h1, h2⟩ | ⟨g, c, cur, h1, _⟩
    · exact ⟨none, 0, by rw [h1, h2]⟩
    · exact ⟨_, _, h1⟩
  obtain ⟨u19, hu19⟩ := arr20 hs0 19 (by decide)
  have c19 : x.cell? ⟨w.heap.size + 1, 19, none⟩ = some u19 := (hD.blk.cell 19).trans hu19
  have z19 := hD.blk.frozen 19
  have hS2 : DX w hb ao n cap bs r1.2 zeroC (cc0.setIfInBounds 19 (.slice vo l.length vc)) 35 (x.setCell ⟨w.heap.size + 1, 19, none⟩ (.slice vo l.length vc)) := (hD.set hlt hab 19 _)
  refine ⟨_, PA (w.heap.size + 1) 19, (x.setCell ⟨w.heap.size + 1, 19, none⟩ (.slice vo l.length vc)), rfl, fun ev h => by simp only [execOp, h]; simp [go_sem], fun ev h h' => by simp only [execOp, h, h']; simp [go_sem, c19, z19], ?_⟩
  obtain ⟨cc1, HC1, hs1, h01⟩ : ∃ cc : Array Value, Hid (cc = (cc0.setIfInBounds 19 (.slice vo l.length vc))) ∧ cc.size = 20 ∧ cc[0]? = some (.int .i64 10) := ⟨_, rfl, (set20 hs0 19 _), (set0 h00 19 _ (by decide))⟩
  rw [← HC1.out] at hS2
  have hOw2 : World.ownsRow (x.setCell ⟨w.heap.size + 1, 19, none⟩ (.slice vo l.length vc)) (w.heap.size + 2) 106 7 (.slice vo l.length vc) l.length (rowV l) := own_stableG hOw fun k h1 h2 => Below.heap_setCell _ _ _ _ (by show k ≠ w.heap.size + 1; omega)
  clear hOw
  clear hD hS hc hT hX hs0 h00 c19 z19 hu19 hF h0 h2 h3 h8
  generalize (x.setCell ⟨w.heap.size + 1, 19, none⟩ (.slice vo l.length vc)) = W at *
  have hS := hS2
  clear hS2
  intro a f hF h0 h2 h3 h8
  show Code.wp _ _ _ _ _
  obtain ⟨DD, HDD⟩ : ∃ DD : Array Value, Hid (DD = msgCells { Msg.zero with kind := 10, views := l } (.slice vo l.length vc)) := ⟨_, rfl⟩
  have hcD : cc1 = DD := by
    rw [HDD.out, HC1.out, HC0.out]
    rfl
  rw [hcD] at hS
  have hall : DD.all (·.oneCell') = true := by rw [HDD.out]; simp [msgCells, Str, Value.oneCell', Msg.zero]
  have hfin : RdB (W.setRow w.heap.size DD) hb ao n cap bs r1.2 := hS.rd.row _ _ (by omega) (fun b o e => by have := hab b o e; omega)
  have hfx : RX hb w (W.setRow w.heap.size DD) := ⟨hS.rx.os, hS.rx.tape, hS.rx.output, by simpa [World.setRow] using hS.rx.size, fun k h1 h2 => (setRow_other _ _ _ _ (by omega)).trans (hS.rx.block k h1 h2)⟩
  have hans : MsgAns w pp (.returned (.agg DD)) (W.setRow w.heap.size DD) := by
    refine ⟨{ Msg.zero with kind := 10, views := l }, vo, vc, by rw [HDD.out], own_monoG (own_stableG hOw2 fun k h1 h2 => setRow_other _ _ _ _ (by omega)) (by omega), hl64, fun h => ?_⟩
    rw [HN.out] at h ⊢
    rw [hl h]
  have hszD : DD.size = 20 := by rw [HDD.out]; rfl
  refine m_end (d := 49) (Post := fun e z => MsgAns w pp e z ∧ RdB z hb ao n cap bs pp.2 ∧ RX hb w z) hF h2 h3 hS.res hS.blk hszD hall (by omega) (by omega) rfl rfl rfl rfl rfl rfl ?_ ?_
  · refine ⟨hans, ?_, hfx⟩
    rw [HN.out]
    exact hfin
  · intro a' W' hbp
    exact hbp
end Go.Proofs.Ytneiomimjgfbpaa
namespace Go.Proofs.Ytneiomimjgfbpaa
open Go.RowKit Go.PlainAid
set_option linter.unusedSimpArgs false
set_option linter.unusedVariables false
set_option maxRecDepth 100000 in
set_option maxHeartbeats 3200000 in
theorem rmsg2x_any (hb : Nat) (ao : Option Addr) (n cap : Nat) (bs : List UInt8) (st : Nat × Bool) (w : World) (hS : RdB w hb ao n cap bs st) (hsm : n ≤ 140737488355328) (hrm : n ≤ cap) (hnil : ao = none → n = 0 ∧ cap = 0) (hform : ao = none ∨ ∃ b off, ao = some ⟨b, off, none⟩) (hab : ∀ b o, ao = some ⟨b, o, none⟩ → b < w.heap.size) (r0 : Int × Nat × Bool) (h0 : rstep (num 1 10) 0 bs st = r0) (hk : r0.1 = 2) (he : (rstep (num 0 255) 0 bs (nstep [] bs (rstep (num 1 1099511627776) 0 bs (rstep (num 0 63) 0 bs r0.2).2).2).2).1 = 0) :
    Calls Try.prog 87 #[.pointer (some ⟨hb, 0, none⟩)] w fun e w' => MsgAns w (p2a bs r0.2) e w' ∧ RdB w' hb ao n cap bs (p2a bs r0.2).2 ∧ RX hb w w' := by
  have HN : Hid (∀ r1 r2 r3 r4 r5 r6, rstep (num 0 63) 0 bs r0.2 = r1 → rstep (num 1 1099511627776) 0 bs r1.2 = r2 → nstep [] bs r2.2 = r3 → rstep (num 0 255) 0 bs r3.2 = r4 → rstep (num 1 1099511627776) 0 bs r4.2 = r5 → rstep (num 0 1099511627776) 0 bs r5.2 = r6 → p2a bs r0.2 = ({ Msg.zero with kind := 2, session := r1.1, id := r2.1, name := r3.1, err := r4.1, cap := r5.1, recaps := r6.1 }, r6.2)) := by
    intro r1 r2 r3 r4 r5 r6 hr1 hr2 hr3 hr4 hr5 hr6
    subst hr1 hr2 hr3 hr4 hr5 hr6
    rfl
  have hlt := hS.blk.lt
  have HE : Hid _ := he
  clear he
  generalize hpp : p2a bs r0.2 = pp at *
  clear hpp
  refine calls_of_wp Try.func87 rfl ?_
  have e : Try.f87.ntmps - (#[Value.pointer (some ⟨hb, 0, none⟩)] : Array Value).size = 84 := by rw [Try.ntmps87]; rfl
  rw [e]
  have hF0 := m_frame (.pointer (some ⟨hb, 0, none⟩)) 84
  generalize ({ tmps := #[Value.pointer (some ⟨hb, 0, none⟩)] ++ Array.replicate 84 undef, defers := [] } : Act) = a0 at *
  refine mstart hF0 rfl hS hsm rfl rfl rfl rfl rfl rfl rfl rfl rfl rfl rfl rfl rfl rfl rfl rfl rfl rfl (fun ev W hcst hfn h => by simp only [execOp, resolve, invoke, List.map_toArray, List.map_cons, List.map_nil, h, hcst, hfn]; simp [go_sem]) rfl rfl rfl rfl rfl ?_
  clear hS hF0 e
  rw [h0, hk]
  clear h0 hk
  intro a f W hF h0 h2 h3 h8 hS
  obtain ⟨cc0, HC0, hs0, h00⟩ : ∃ cc : Array Value, Hid (cc = kindM 2) ∧ cc.size = 20 ∧ cc[0]? = some (.int .i64 2) := ⟨_, rfl, rfl, rfl⟩
  rw [← HC0.out] at hS
  refine wp_block ?_
  refine wp_seq ?_
  refine wp_region_list ?_
  refine m_swt (d := 9) false hF h0 h2 h3 h8 (by omega) (by omega) rfl rfl rfl rfl (fun ev hcst h => by simp only [execOp, h, hcst]; simp [go_sem]) (fun ev h => by simp only [execOp, h]; rfl) ?_
  intro a f hF h0 h2 h3 h8 hp
  show Code.wp _ _ _ _ _
  refine wp_cond_false ((hF.eval 9 (by omega)).trans hp) ?_
  clear hp
  refine wp_seq ?_
  refine wp_region_list ?_
  refine m_swt (d := 18) true hF h0 h2 h3 h8 (by omega) (by omega) rfl rfl rfl rfl (fun ev hcst h => by simp only [execOp, h, hcst]; simp [go_sem]) (fun ev h => by simp only [execOp, h]; rfl) ?_
  intro a f hF h0 h2 h3 h8 hp
  show Code.wp _ _ _ _ _
  refine wp_cond_true ((hF.eval 18 (by omega)).trans hp) ?_
  clear hp
  refine wp_seq ?_
  refine wp_region_list ?_
  have hc := rcall2_any hb ao n cap bs r0.2 W hS.rd hsm (fun b o e => by have := hab b o e; have := hS.rx.size; omega) _ _ rfl rfl
  refine m_fld (d := 20) hF h0 h2 h3 h8 (by omega) (by omega) rfl rfl rfl rfl rfl rfl rfl rfl rfl (fun ev hcst hfn h => by simp only [execOp, resolve, invoke, List.map_toArray, List.map_cons, List.map_nil, h, hcst, hfn]; simp [go_sem]) hc ?_
  rintro e x ⟨rfl, hT, hX⟩
  replace HN : Hid _ := fun r2 r3 r4 r5 r6 => HN.out _ r2 r3 r4 r5 r6 rfl
  generalize rstep (num 0 63) 0 bs r0.2 = r1 at *
  replace HN : Hid _ := fun r3 r4 r5 r6 => HN.out _ r3 r4 r5 r6 rfl
  generalize rstep (num 1 1099511627776) 0 bs r1.2 = r2 at *
  unfold two
  have hD := hS.rw hlt hT (hX)
  obtain ⟨u11, hu11⟩ := arr20 hs0 11 (by decide)
  have c11 : x.cell? ⟨w.heap.size + 1, 11, none⟩ = some u11 := (hD.blk.cell 11).trans hu11
  have z11 := hD.blk.frozen 11
  obtain ⟨u12, hu12⟩ := arr20 hs0 12 (by decide)
  have c12 : x.cell? ⟨w.heap.size + 1, 12, none⟩ = some u12 := (hD.blk.cell 12).trans hu12
  have z12 := hD.blk.frozen 12
  have hS2 : DX w hb ao n cap bs r2.2 zeroC ((cc0.setIfInBounds 11 (.int .i64 r1.1)).setIfInBounds 12 (.int .i64 r2.1)) 35 ((x.setCell ⟨w.heap.size + 1, 11, none⟩ (.int .i64 r1.1)).setCell ⟨w.heap.size + 1, 12, none⟩ (.int .i64 r2.1)) := ((hD.set hlt hab 11 _).set hlt hab 12 _)
  refine ⟨_, PA (w.heap.size + 1) 11, ((x.setCell ⟨w.heap.size + 1, 11, none⟩ (.int .i64 r1.1)).setCell ⟨w.heap.size + 1, 12, none⟩ (.int .i64 r2.1)), rfl, fun ev h => by simp only [execOp, h]; simp [go_sem], fun ev h h' => by simp only [execOp, h, h']; simp [go_sem, c11, z11, c12, z12], ?_⟩
  obtain ⟨cc1, HC1, hs1, h01⟩ : ∃ cc : Array Value, Hid (cc = ((cc0.setIfInBounds 11 (.int .i64 r1.1)).setIfInBounds 12 (.int .i64 r2.1))) ∧ cc.size = 20 ∧ cc[0]? = some (.int .i64 2) := ⟨_, rfl, (set20 (set20 hs0 11 _) 12 _), (set0 (set0 h00 11 _ (by decide)) 12 _ (by decide))⟩
  rw [← HC1.out] at hS2
  clear hD hS hc hT hX hs0 h00 c11 z11 hu11 c12 z12 hu12 hF h0 h2 h3 h8
  generalize ((x.setCell ⟨w.heap.size + 1, 11, none⟩ (.int .i64 r1.1)).setCell ⟨w.heap.size + 1, 12, none⟩ (.int .i64 r2.1)) = W at *
  have hS := hS2
  clear hS2
  intro a f hF h0 h2 h3 h8
  show Code.wp _ _ _ _ _
  refine wp_seq ?_
  refine wp_region_list ?_
  have hc : Calls Try.prog 100 #[_, .string ⟨#[]⟩] W _ := rname2_any hb ao n cap bs [] r2.2 W hS.rd hsm hrm hnil hform
  refine m_fld (d := 23) hF h0 h2 h3 h8 (by omega) (by omega) rfl rfl rfl rfl rfl rfl rfl rfl rfl (fun ev hcst hfn h => by simp only [execOp, resolve, invoke, List.map_toArray, List.map_cons, List.map_nil, h, hcst, hfn]; simp [go_sem]) hc ?_
  rintro e x ⟨rfl, hT, hX⟩
  replace HN : Hid _ := fun r4 r5 r6 => HN.out _ r4 r5 r6 rfl
  generalize nstep [] bs r2.2 = r3 at *
  unfold Str
  have hD := hS.rw hlt hT (RX.of hX)
  obtain ⟨u1, hu1⟩ := arr20 hs1 1 (by decide)
  have c1 : x.cell? ⟨w.heap.size + 1, 1, none⟩ = some u1 := (hD.blk.cell 1).trans hu1
  have z1 := hD.blk.frozen 1
  have hS2 : DX w hb ao n cap bs r3.2 zeroC (cc1.setIfInBounds 1 (.string ⟨r3.1.toArray⟩)) 35 (x.setCell ⟨w.heap.size + 1, 1, none⟩ (.string ⟨r3.1.toArray⟩)) := (hD.set hlt hab 1 _)
  refine ⟨_, PA (w.heap.size + 1) 1, (x.setCell ⟨w.heap.size + 1, 1, none⟩ (.string ⟨r3.1.toArray⟩)), rfl, fun ev h => by simp only [execOp, h]; simp [go_sem], fun ev h h' => by simp only [execOp, h, h']; simp [go_sem, c1, z1], ?_⟩
  obtain ⟨cc2, HC2, hs2, h02⟩ : ∃ cc : Array Value, Hid (cc = (cc1.setIfInBounds 1 (.string ⟨r3.1.toArray⟩))) ∧ cc.size = 20 ∧ cc[0]? = some (.int .i64 2) := ⟨_, rfl, (set20 hs1 1 _), (set0 h01 1 _ (by decide))⟩
  rw [← HC2.out] at hS2
  clear hD hS hc hT hX hs1 h01 c1 z1 hu1 hF h0 h2 h3 h8
  generalize (x.setCell ⟨w.heap.size + 1, 1, none⟩ (.string ⟨r3.1.toArray⟩)) = W at *
  have hS := hS2
  clear hS2
  intro a f hF h0 h2 h3 h8
  show Code.wp _ _ _ _ _
  refine wp_seq ?_
  refine wp_region_list ?_
  have hc := rnum_any hb ao n cap bs r3.2 0 255 (by omega) (by omega) W hS.rd hsm
  refine m_fld (d := 26) hF h0 h2 h3 h8 (by omega) (by omega) rfl rfl rfl rfl rfl rfl rfl rfl rfl (fun ev hcst hfn h => by simp only [execOp, resolve, invoke, List.map_toArray, List.map_cons, List.map_nil, h, hcst, hfn]; simp [go_sem]) hc ?_
  rintro e x ⟨rfl, hT, hX⟩
  replace HN : Hid _ := fun r5 r6 => HN.out _ r5 r6 rfl
  generalize rstep (num 0 255) 0 bs r3.2 = r4 at *
  have hD := hS.rw hlt hT (RX.of hX)
  obtain ⟨u17, hu17⟩ := arr20 hs2 17 (by decide)
  have c17 : x.cell? ⟨w.heap.size + 1, 17, none⟩ = some u17 := (hD.blk.cell 17).trans hu17
  have z17 := hD.blk.frozen 17
  have hS2 : DX w hb ao n cap bs r4.2 zeroC (cc2.setIfInBounds 17 (.int .i64 r4.1)) 35 (x.setCell ⟨w.heap.size + 1, 17, none⟩ (.int .i64 r4.1)) := (hD.set hlt hab 17 _)
  refine ⟨_, PA (w.heap.size + 1) 17, (x.setCell ⟨w.heap.size + 1, 17, none⟩ (.int .i64 r4.1)), rfl, fun ev h => by simp only [execOp, h]; simp [go_sem], fun ev h h' => by simp only [execOp, h, h']; simp [go_sem, c17, z17], ?_⟩
  obtain ⟨cc3, HC3, hs3, h03, h17⟩ : ∃ cc : Array Value, Hid (cc = (cc2.setIfInBounds 17 (.int .i64 r4.1))) ∧ cc.size = 20 ∧ cc[0]? = some (.int .i64 2) ∧ cc[17]? = some (.int .i64 r4.1) := ⟨_, rfl, (set20 hs2 17 _), (set0 h02 17 _ (by decide)), by rw [Array.getElem?_setIfInBounds_self_of_lt (by omega)]⟩
  rw [← HC3.out] at hS2
  clear hD hS hc hT hX hs2 h02 c17 z17 hu17 hF h0 h2 h3 h8
  generalize (x.setCell ⟨w.heap.size + 1, 17, none⟩ (.int .i64 r4.1)) = W at *
  have hS := hS2
  clear hS2
  intro a f hF h0 h2 h3 h8
  show Code.wp _ _ _ _ _
  refine wp_seq ?_
  refine wp_seq ?_
  refine wp_region_list ?_
  have k17 : W.cell? ⟨w.heap.size + 1, 17, none⟩ = some (.int .i64 r4.1) := (hS.blk.cell 17).trans h17
  have he := HE.out
  rw [he] at k17
  refine m_tst (d := 29) (p1 := PA (w.heap.size + 1) 17) (u := .int .i64 0) true hF h0 h2 h3 h8 (by omega) (by omega) rfl rfl rfl rfl rfl rfl (fun ev h => by simp only [execOp, h]; simp [go_sem]) (fun ev h => by simp only [execOp, h]; simp [go_sem, k17]) (fun ev hcst h => by simp only [execOp, h, hcst]; simp [go_sem]) ?_
  clear hF h0 h2 h3 h8
  intro a f hF h0 h2 h3 h8 hp
  refine sy hF rfl (by omega) (wanted_none rfl) (v := .bool true) (by simp only [execOp, (hF.eval 31 (by omega)).trans hp]; rfl) fun a1 F1 => ?_
  refine sn F1 rfl (by omega) (by rw [wanted_some rfl, F1.yields (d := 32) rfl (by omega) (b := true) (by simp [upd])]; rfl) fun a2 F2 => ?_
  refine sn F2 rfl (by omega) (by rw [wanted_some rfl, F2.yields (d := 32) rfl (by omega) (b := true) (by simp [upd])]; rfl) fun a3 F3 => ?_
  refine sn F3 rfl (by omega) (by rw [wanted_some rfl, F3.yields (d := 32) rfl (by omega) (b := true) (by simp [upd])]; rfl) fun a4 F4 => ?_
  refine sy F4 rfl (by omega) (wanted_none rfl) (v := .bool true) (by simp only [execOp, (F4.eval 32 (by omega)).trans (show _ = .bool true from by simp [upd, h0, h2, h3, h8])]; simp [go_sem, Act.eval]) fun a5 F5 => ?_
  refine wpList_nil ?_
  show Code.wp _ _ _ _ _
  obtain ⟨f', hF', k0', k2', k3', k8', kp⟩ : ∃ f' : Nat → Value, Fr 85 a5 f' ∧ f' 0 = PA hb 0 ∧ f' 2 = PA w.heap.size 0 ∧ f' 3 = PA (w.heap.size + 1) 0 ∧ f' 8 = .int .i64 2 ∧ f' 36 = .bool true := ⟨_, F5, by simp [upd, h0], by simp [upd, h2], by simp [upd, h3], by simp [upd, h8], upd_eq _ _ _⟩
  clear F1 F2 F3 F4 F5 hF h0 h2 h3 h8 hp k17 he h17 HE
  have hF := hF'
  have h0 := k0'
  have h2 := k2'
  have h3 := k3'
  have h8 := k8'
  clear hF' k0' k2' k3' k8'
  refine wp_cond_true ((hF.eval 36 (by omega)).trans kp) ?_
  clear kp
  refine wp_seq ?_
  refine wp_region_list ?_
  have hc := rnum_any hb ao n cap bs r4.2 1 1099511627776 (by omega) (by omega) W hS.rd hsm
  refine m_fld (d := 37) hF h0 h2 h3 h8 (by omega) (by omega) rfl rfl rfl rfl rfl rfl rfl rfl rfl (fun ev hcst hfn h => by simp only [execOp, resolve, invoke, List.map_toArray, List.map_cons, List.map_nil, h, hcst, hfn]; simp [go_sem]) hc ?_
  rintro e x ⟨rfl, hT, hX⟩
  replace HN : Hid _ := fun r6 => HN.out _ r6 rfl
  generalize rstep (num 1 1099511627776) 0 bs r4.2 = r5 at *
  have hD := hS.rw hlt hT (RX.of hX)
  obtain ⟨u2, hu2⟩ := arr20 hs3 2 (by decide)
  have c2 : x.cell? ⟨w.heap.size + 1, 2, none⟩ = some u2 := (hD.blk.cell 2).trans hu2
  have z2 := hD.blk.frozen 2
  have hS2 : DX w hb ao n cap bs r5.2 zeroC (cc3.setIfInBounds 2 (.int .i64 r5.1)) 35 (x.setCell ⟨w.heap.size + 1, 2, none⟩ (.int .i64 r5.1)) := (hD.set hlt hab 2 _)
  refine ⟨_, PA (w.heap.size + 1) 2, (x.setCell ⟨w.heap.size + 1, 2, none⟩ (.int .i64 r5.1)), rfl, fun ev h => by simp only [execOp, h]; simp [go_sem], fun ev h h' => by simp only [execOp, h, h']; simp [go_sem, c2, z2], ?_⟩
  obtain ⟨cc4, HC4, hs4, h04⟩ : ∃ cc : Array Value, Hid (cc = (cc3.setIfInBounds 2 (.int .i64 r5.1))) ∧ cc.size = 20 ∧ cc[0]? = some (.int .i64 2) := ⟨_, rfl, (set20 hs3 2 _), (set0 h03 2 _ (by decide))⟩
  rw [← HC4.out] at hS2
  clear hD hS hc hT hX hs3 h03 c2 z2 hu2 hF h0 h2 h3 h8
  generalize (x.setCell ⟨w.heap.size + 1, 2, none⟩ (.int .i64 r5.1)) = W at *
  have hS := hS2
  clear hS2
  intro a f hF h0 h2 h3 h8
  show Code.wp _ _ _ _ _
  refine wp_region_list ?_
  have hc := rnum_any hb ao n cap bs r5.2 0 1099511627776 (by omega) (by omega) W hS.rd hsm
  refine m_fld (d := 40) hF h0 h2 h3 h8 (by omega) (by omega) rfl rfl rfl rfl rfl rfl rfl rfl rfl (fun ev hcst hfn h => by simp only [execOp, resolve, invoke, List.map_toArray, List.map_cons, List.map_nil, h, hcst, hfn]; simp [go_sem]) hc ?_
  rintro e x ⟨rfl, hT, hX⟩
  replace HN : Hid _ := HN.out _  rfl
  generalize rstep (num 0 1099511627776) 0 bs r5.2 = r6 at *
  have hD := hS.rw hlt hT (RX.of hX)
  obtain ⟨u3, hu3⟩ := arr20 hs4 3 (by decide)
  have c3 : x.cell? ⟨w.heap.size + 1, 3, none⟩ = some u3 := (hD.blk.cell 3).trans hu3
  have z3 := hD.blk.frozen 3
  have hS2 : DX w hb ao n cap bs r6.2 zeroC (cc4.setIfInBounds 3 (.int .i64 r6.1)) 35 (x.setCell ⟨w.heap.size + 1, 3, none⟩ (.int .i64 r6.1)) := (hD.set hlt hab 3 _)
  refine ⟨_, PA (w.heap.size + 1) 3, (x.setCell ⟨w.heap.size + 1, 3, none⟩ (.int .i64 r6.1)), rfl, fun ev h => by simp only [execOp, h]; simp [go_sem], fun ev h h' => by simp only [execOp, h, h']; simp [go_sem, c3, z3], ?_⟩
  obtain ⟨cc5, HC5, hs5, h05⟩ : ∃ cc : Array Value, Hid (cc = (cc4.setIfInBounds 3 (.int .i64 r6.1))) ∧ cc.size = 20 ∧ cc[0]? = some (.int .i64 2) := ⟨_, rfl, (set20 hs4 3 _), (set0 h04 3 _ (by decide))⟩
  rw [← HC5.out] at hS2
  clear hD hS hc hT hX hs4 h04 c3 z3 hu3 hF h0 h2 h3 h8
  generalize (x.setCell ⟨w.heap.size + 1, 3, none⟩ (.int .i64 r6.1)) = W at *
  have hS := hS2
  clear hS2
  intro a f hF h0 h2 h3 h8
  show Code.wp _ _ _ _ _
  obtain ⟨DD, HDD⟩ : ∃ DD : Array Value, Hid (DD = msgCells { Msg.zero with kind := 2, session := r1.1, id := r2.1, name := r3.1, err := r4.1, cap := r5.1, recaps := r6.1 } (.slice none 0 0)) := ⟨_, rfl⟩
  have hcD : cc5 = DD := by
    rw [HDD.out, HC5.out, HC4.out, HC3.out, HC2.out, HC1.out, HC0.out]
    rfl
  rw [hcD] at hS
  have hall : DD.all (·.oneCell') = true := by rw [HDD.out]; simp [msgCells, Str, Value.oneCell', Msg.zero]
  have hfin : RdB (W.setRow w.heap.size DD) hb ao n cap bs r6.2 := hS.rd.row _ _ (by omega) (fun b o e => by have := hab b o e; omega)
  have hfx : RX hb w (W.setRow w.heap.size DD) := ⟨hS.rx.os, hS.rx.tape, hS.rx.output, by simpa [World.setRow] using hS.rx.size, fun k h1 h2 => (setRow_other _ _ _ _ (by omega)).trans (hS.rx.block k h1 h2)⟩
  have hans : MsgAns w pp (.returned (.agg DD)) (W.setRow w.heap.size DD) := ⟨{ Msg.zero with kind := 2, session := r1.1, id := r2.1, name := r3.1, err := r4.1, cap := r5.1, recaps := r6.1 }, none, 0, by rw [HDD.out]; rfl, World.ownsRow_nil _ _ _ _, by simp [Msg.zero], fun _ => by rw [HN.out]⟩
  have hszD : DD.size = 20 := by rw [HDD.out]; rfl
  refine m_end (d := 43) (Post := fun e z => MsgAns w pp e z ∧ RdB z hb ao n cap bs pp.2 ∧ RX hb w z) hF h2 h3 hS.res hS.blk hszD hall (by omega) (by omega) rfl rfl rfl rfl rfl rfl ?_ ?_
  · refine ⟨hans, ?_, hfx⟩
    rw [HN.out]
    exact hfin
  · intro a' W' hbp
    exact hbp
set_option maxRecDepth 100000 in
set_option maxHeartbeats 3200000 in
theorem rmsg2y_any (hb : Nat) (ao : Option Addr) (n cap : Nat) (bs : List UInt8) (st : Nat × Bool) (w : World) (hS : RdB w hb ao n cap bs st) (hsm : n ≤ 140737488355328) (hrm : n ≤ cap) (hnil : ao = none → n = 0 ∧ cap = 0) (hform : ao = none ∨ ∃ b off, ao = some ⟨b, off, none⟩) (hab : ∀ b o, ao = some ⟨b, o, none⟩ → b < w.heap.size) (r0 : Int × Nat × Bool) (h0 : rstep (num 1 10) 0 bs st = r0) (hk : r0.1 = 2) (he : (rstep (num 0 255) 0 bs (nstep [] bs (rstep (num 1 1099511627776) 0 bs (rstep (num 0 63) 0 bs r0.2).2).2).2).1 = 101) :
    Calls Try.prog 87 #[.pointer (some ⟨hb, 0, none⟩)] w fun e w' => MsgAns w (p2a bs r0.2) e w' ∧ RdB w' hb ao n cap bs (p2a bs r0.2).2 ∧ RX hb w w' := by
  have HN : Hid (∀ r1 r2 r3 r4 r5 r6, rstep (num 0 63) 0 bs r0.2 = r1 → rstep (num 1 1099511627776) 0 bs r1.2 = r2 → nstep [] bs r2.2 = r3 → rstep (num 0 255) 0 bs r3.2 = r4 → rstep (num 1 1099511627776) 0 bs r4.2 = r5 → rstep (num 0 1099511627776) 0 bs r5.2 = r6 → p2a bs r0.2 = ({ Msg.zero with kind := 2, session := r1.1, id := r2.1, name := r3.1, err := r4.1, cap := r5.1, recaps := r6.1 }, r6.2)) := by
    intro r1 r2 r3 r4 r5 r6 hr1 hr2 hr3 hr4 hr5 hr6
    subst hr1 hr2 hr3 hr4 hr5 hr6
    rfl
  have hlt := hS.blk.lt
  have HE : Hid _ := he
  clear he
  generalize hpp : p2a bs r0.2 = pp at *
  clear hpp
  refine calls_of_wp Try.func87 rfl ?_
  have e : Try.f87.ntmps - (#[Value.pointer (some ⟨hb, 0, none⟩)] : Array Value).size = 84 := by rw [Try.ntmps87]; rfl
  rw [e]
  have hF0 := m_frame (.pointer (some ⟨hb, 0, none⟩)) 84
  generalize ({ tmps := #[Value.pointer (some ⟨hb, 0, none⟩)] ++ Array.replicate 84 undef, defers := [] } : Act) = a0 at *
  refine mstart hF0 rfl hS hsm rfl rfl rfl rfl rfl rfl rfl rfl rfl rfl rfl rfl rfl rfl rfl rfl rfl rfl (fun ev W hcst hfn h => by simp only [execOp, resolve, invoke, List.map_toArray, List.map_cons, List.map_nil, h, hcst, hfn]; simp [go_sem]) rfl rfl rfl rfl rfl ?_
  clear hS hF0 e
  rw [h0, hk]
  clear h0 hk
  intro a f W hF h0 h2 h3 h8 hS
  obtain ⟨cc0, HC0, hs0, h00⟩ : ∃ cc : Array Value, Hid (cc = kindM 2) ∧ cc.size = 20 ∧ cc[0]? = some (.int .i64 2) := ⟨_, rfl, rfl, rfl⟩
  rw [← HC0.out] at hS
  refine wp_block ?_
  refine wp_seq ?_
  refine wp_region_list ?_
  refine m_swt (d := 9) false hF h0 h2 h3 h8 (by omega) (by omega) rfl rfl rfl rfl (fun ev hcst h => by simp only [execOp, h, hcst]; simp [go_sem]) (fun ev h => by simp only [execOp, h]; rfl) ?_
  intro a f hF h0 h2 h3 h8 hp
  show Code.wp _ _ _ _ _
  refine wp_cond_false ((hF.eval 9 (by omega)).trans hp) ?_
  clear hp
  refine wp_seq ?_
  refine wp_region_list ?_
  refine m_swt (d := 18) true hF h0 h2 h3 h8 (by omega) (by omega) rfl rfl rfl rfl (fun ev hcst h => by simp only [execOp, h, hcst]; simp [go_sem]) (fun ev h => by simp only [execOp, h]; rfl) ?_
  intro a f hF h0 h2 h3 h8 hp
  show Code.wp _ _ _ _ _
  refine wp_cond_true ((hF.eval 18 (by omega)).trans hp) ?_
  clear hp
  refine wp_seq ?_
  refine wp_region_list ?_
  have hc := rcall2_any hb ao n cap bs r0.2 W hS.rd hsm (fun b o e => by have := hab b o e; have := hS.rx.size; omega) _ _ rfl rfl
  refine m_fld (d := 20) hF h0 h2 h3 h8 (by omega) (by omega) rfl rfl rfl rfl rfl rfl rfl rfl rfl (fun ev hcst hfn h => by simp only [execOp, resolve, invoke, List.map_toArray, List.map_cons, List.map_nil, h, hcst, hfn]; simp [go_sem]) hc ?_
  rintro e x ⟨rfl, hT, hX⟩
  replace HN : Hid _ := fun r2 r3 r4 r5 r6 => HN.out _ r2 r3 r4 r5 r6 rfl
  generalize rstep (num 0 63) 0 bs r0.2 = r1 at *
  replace HN : Hid _ := fun r3 r4 r5 r6 => HN.out _ r3 r4 r5 r6 rfl
  generalize rstep (num 1 1099511627776) 0 bs r1.2 = r2 at *
  unfold two
  have hD := hS.rw hlt hT (hX)
  obtain ⟨u11, hu11⟩ := arr20 hs0 11 (by decide)
  have c11 : x.cell? ⟨w.heap.size + 1, 11, none⟩ = some u11 := (hD.blk.cell 11).trans hu11
  have z11 := hD.blk.frozen 11
  obtain ⟨u12, hu12⟩ := arr20 hs0 12 (by decide)
  have c12 : x.cell? ⟨w.heap.size + 1, 12, none⟩ = some u12 := (hD.blk.cell 12).trans hu12
  have z12 := hD.blk.frozen 12
  have hS2 : DX w hb ao n cap bs r2.2 zeroC ((cc0.setIfInBounds 11 (.int .i64 r1.1)).setIfInBounds 12 (.int .i64 r2.1)) 35 ((x.setCell ⟨w.heap.size + 1, 11, none⟩ (.int .i64 r1.1)).setCell ⟨w.heap.size + 1, 12, none⟩ (.int .i64 r2.1)) := ((hD.set hlt hab 11 _).set hlt hab 12 _)
  refine ⟨_, PA (w.heap.size + 1) 11, ((x.setCell ⟨w.heap.size + 1, 11, none⟩ (.int .i64 r1.1)).setCell ⟨w.heap.size + 1, 12, none⟩ (.int .i64 r2.1)), rfl, fun ev h => by simp only [execOp, h]; simp [go_sem], fun ev h h' => by simp only [execOp, h, h']; simp [go_sem, c11, z11, c12, z12], ?_⟩
  obtain ⟨cc1, HC1, hs1, h01⟩ : ∃ cc : Array Value, Hid (cc = ((cc0.setIfInBounds 11 (.int .i64 r1.1)).setIfInBounds 12 (.int .i64 r2.1))) ∧ cc.size = 20 ∧ cc[0]? = some (.int .i64 2) := ⟨_, rfl, (set20 (set20 hs0 11 _) 12 _), (set0 (set0 h00 11 _ (by decide)) 12 _ (by decide))⟩
  rw [← HC1.out] at hS2
  clear hD hS hc hT hX hs0 h00 c11 z11 hu11 c12 z12 hu12 hF h0 h2 h3 h8
  generalize ((x.setCell ⟨w.heap.size + 1, 11, none⟩ (.int .i64 r1.1)).setCell ⟨w.heap.size + 1, 12, none⟩ (.int .i64 r2.1)) = W at *
  have hS := hS2
  clear hS2
  intro a f hF h0 h2 h3 h8
  show Code.wp _ _ _ _ _
  refine wp_seq ?_
  refine wp_region_list ?_
  have hc : Calls Try.prog 100 #[_, .string ⟨#[]⟩] W _ := rname2_any hb ao n cap bs [] r2.2 W hS.rd hsm hrm hnil hform
  refine m_fld (d := 23) hF h0 h2 h3 h8 (by omega) (by omega) rfl rfl rfl rfl rfl rfl rfl rfl rfl (fun ev hcst hfn h => by simp only [execOp, resolve, invoke, List.map_toArray, List.map_cons, List.map_nil, h, hcst, hfn]; simp [go_sem]) hc ?_
  rintro e x ⟨rfl, hT, hX⟩
  replace HN : Hid _ := fun r4 r5 r6 => HN.out _ r4 r5 r6 rfl
  generalize nstep [] bs r2.2 = r3 at *
  unfold Str
  have hD := hS.rw hlt hT (RX.of hX)
  obtain ⟨u1, hu1⟩ := arr20 hs1 1 (by decide)
  have c1 : x.cell? ⟨w.heap.size + 1, 1, none⟩ = some u1 := (hD.blk.cell 1).trans hu1
  have z1 := hD.blk.frozen 1
  have hS2 : DX w hb ao n cap bs r3.2 zeroC (cc1.setIfInBounds 1 (.string ⟨r3.1.toArray⟩)) 35 (x.setCell ⟨w.heap.size + 1, 1, none⟩ (.string ⟨r3.1.toArray⟩)) := (hD.set hlt hab 1 _)
  refine ⟨_, PA (w.heap.size + 1) 1, (x.setCell ⟨w.heap.size + 1, 1, none⟩ (.string ⟨r3.1.toArray⟩)), rfl, fun ev h => by simp only [execOp, h]; simp [go_sem], fun ev h h' => by simp only [execOp, h, h']; simp [go_sem, c1, z1], ?_⟩
  obtain ⟨cc2, HC2, hs2, h02⟩ : ∃ cc : Array Value, Hid (cc = (cc1.setIfInBounds 1 (.string ⟨r3.1.toArray⟩))) ∧ cc.size = 20 ∧ cc[0]? = some (.int .i64 2) := ⟨_, rfl, (set20 hs1 1 _), (set0 h01 1 _ (by decide))⟩
  rw [← HC2.out] at hS2
  clear hD hS hc hT hX hs1 h01 c1 z1 hu1 hF h0 h2 h3 h8
  generalize (x.setCell ⟨w.heap.size + 1, 1, none⟩ (.string ⟨r3.1.toArray⟩)) = W at *
  have hS := hS2
  clear hS2
  intro a f hF h0 h2 h3 h8
  show Code.wp _ _ _ _ _
  refine wp_seq ?_
  refine wp_region_list ?_
  have hc := rnum_any hb ao n cap bs r3.2 0 255 (by omega) (by omega) W hS.rd hsm
  refine m_fld (d := 26) hF h0 h2 h3 h8 (by omega) (by omega) rfl rfl rfl rfl rfl rfl rfl rfl rfl (fun ev hcst hfn h => by simp only [execOp, resolve, invoke, List.map_toArray, List.map_cons, List.map_nil, h, hcst, hfn]; simp [go_sem]) hc ?_
  rintro e x ⟨rfl, hT, hX⟩
  replace HN : Hid _ := fun r5 r6 => HN.out _ r5 r6 rfl
  generalize rstep (num 0 255) 0 bs r3.2 = r4 at *
  have hD := hS.rw hlt hT (RX.of hX)
  obtain ⟨u17, hu17⟩ := arr20 hs2 17 (by decide)
  have c17 : x.cell? ⟨w.heap.size + 1, 17, none⟩ = some u17 := (hD.blk.cell 17).trans hu17
  have z17 := hD.blk.frozen 17
  have hS2 : DX w hb ao n cap bs r4.2 zeroC (cc2.setIfInBounds 17 (.int .i64 r4.1)) 35 (x.setCell ⟨w.heap.size + 1, 17, none⟩ (.int .i64 r4.1)) := (hD.set hlt hab 17 _)
  refine ⟨_, PA (w.heap.size + 1) 17, (x.setCell ⟨w.heap.size + 1, 17, none⟩ (.int .i64 r4.1)), rfl, fun ev h => by simp only [execOp, h]; simp [go_sem], fun ev h h' => by simp only [execOp, h, h']; simp [go_sem, c17, z17], ?_⟩
  obtain ⟨cc3, HC3, hs3, h03, h17⟩ : ∃ cc : Array Value, Hid (cc = (cc2.setIfInBounds 17 (.int .i64 r4.1))) ∧ cc.size = 20 ∧ cc[0]? = some (.int .i64 2) ∧ cc[17]? = some (.int .i64 r4.1) := ⟨_, rfl, (set20 hs2 17 _), (set0 h02 17 _ (by decide)), by rw [Array.getElem?_setIfInBounds_self_of_lt (by omega)]⟩
  rw [← HC3.out] at hS2
  clear hD hS hc hT hX hs2 h02 c17 z17 hu17 hF h0 h2 h3 h8
  generalize (x.setCell ⟨w.heap.size + 1, 17, none⟩ (.int .i64 r4.1)) = W at *
  have hS := hS2
  clear hS2
  intro a f hF h0 h2 h3 h8
  show Code.wp _ _ _ _ _
  refine wp_seq ?_
  refine wp_seq ?_
  refine wp_region_list ?_
  have k17 : W.cell? ⟨w.heap.size + 1, 17, none⟩ = some (.int .i64 r4.1) := (hS.blk.cell 17).trans h17
  have he := HE.out
  rw [he] at k17
  refine m_tst (d := 29) (p1 := PA (w.heap.size + 1) 17) (u := .int .i64 101) false hF h0 h2 h3 h8 (by omega) (by omega) rfl rfl rfl rfl rfl rfl (fun ev h => by simp only [execOp, h]; simp [go_sem]) (fun ev h => by simp only [execOp, h]; simp [go_sem, k17]) (fun ev hcst h => by simp only [execOp, h, hcst]; simp [go_sem]) ?_
  clear hF h0 h2 h3 h8
  intro a f hF h0 h2 h3 h8 hp
  refine sy hF rfl (by omega) (wanted_none rfl) (v := .bool false) (by simp only [execOp, (hF.eval 31 (by omega)).trans hp]; rfl) fun a1 F1 => ?_
  refine sy F1 rfl (by omega) (by rw [wanted_some rfl, F1.yields (d := 32) rfl (by omega) (b := false) (by simp [upd])]; rfl) (v := PA (w.heap.size + 1) 17) (by simp only [execOp, (F1.eval 3 (by omega)).trans (show _ = PA (w.heap.size + 1) 0 from by simp [upd, h0, h2, h3, h8])]; simp [go_sem]) fun a2 F2 => ?_
  refine sy F2 rfl (by omega) (by rw [wanted_some rfl, F2.yields (d := 32) rfl (by omega) (b := false) (by simp [upd])]; rfl) (v := .int .i64 101) (by simp only [execOp, (F2.eval 33 (by omega)).trans (show _ = PA (w.heap.size + 1) 17 from by simp [upd, h0, h2, h3, h8])]; simp [go_sem, k17]) fun a3 F3 => ?_
  refine sy F3 rfl (by omega) (by rw [wanted_some rfl, F3.yields (d := 32) rfl (by omega) (b := false) (by simp [upd])]; rfl) (v := .bool true) (by simp only [execOp, (F3.eval 34 (by omega)).trans (show _ = .int .i64 101 from by simp [upd, h0, h2, h3, h8])]; simp [go_sem, Act.eval]) fun a4 F4 => ?_
  refine sy F4 rfl (by omega) (wanted_none rfl) (v := .bool true) (by simp only [execOp, (F4.eval 32 (by omega)).trans (show _ = .bool false from by simp [upd, h0, h2, h3, h8]), (F4.eval 35 (by omega)).trans (show _ = .bool true from by simp [upd, h0, h2, h3, h8])]; simp [go_sem]) fun a5 F5 => ?_
  refine wpList_nil ?_
  show Code.wp _ _ _ _ _
  obtain ⟨f', hF', k0', k2', k3', k8', kp⟩ : ∃ f' : Nat → Value, Fr 85 a5 f' ∧ f' 0 = PA hb 0 ∧ f' 2 = PA w.heap.size 0 ∧ f' 3 = PA (w.heap.size + 1) 0 ∧ f' 8 = .int .i64 2 ∧ f' 36 = .bool true := ⟨_, F5, by simp [upd, h0], by simp [upd, h2], by simp [upd, h3], by simp [upd, h8], upd_eq _ _ _⟩
  clear F1 F2 F3 F4 F5 hF h0 h2 h3 h8 hp k17 he h17 HE
  have hF := hF'
  have h0 := k0'
  have h2 := k2'
  have h3 := k3'
  have h8 := k8'
  clear hF' k0' k2' k3' k8'
  refine wp_cond_true ((hF.eval 36 (by omega)).trans kp) ?_
  clear kp
  refine wp_seq ?_
  refine wp_region_list ?_
  have hc := rnum_any hb ao n cap bs r4.2 1 1099511627776 (by omega) (by omega) W hS.rd hsm
  refine m_fld (d := 37) hF h0 h2 h3 h8 (by omega) (by omega) rfl rfl rfl rfl rfl rfl rfl rfl rfl (fun ev hcst hfn h => by simp only [execOp, resolve, invoke, List.map_toArray, List.map_cons, List.map_nil, h, hcst, hfn]; simp [go_sem]) hc ?_
  rintro e x ⟨rfl, hT, hX⟩
  replace HN : Hid _ := fun r6 => HN.out _ r6 rfl
  generalize rstep (num 1 1099511627776) 0 bs r4.2 = r5 at *
  have hD := hS.rw hlt hT (RX.of hX)
  obtain ⟨u2, hu2⟩ := arr20 hs3 2 (by decide)
  have c2 : x.cell? ⟨w.heap.size + 1, 2, none⟩ = some u2 := (hD.blk.cell 2).trans hu2
  have z2 := hD.blk.frozen 2
  have hS2 : DX w hb ao n cap bs r5.2 zeroC (cc3.setIfInBounds 2 (.int .i64 r5.1)) 35 (x.setCell ⟨w.heap.size + 1, 2, none⟩ (.int .i64 r5.1)) := (hD.set hlt hab 2 _)
  refine ⟨_, PA (w.heap.size + 1) 2, (x.setCell ⟨w.heap.size + 1, 2, none⟩ (.int .i64 r5.1)), rfl, fun ev h => by simp only [execOp, h]; simp [go_sem], fun ev h h' => by simp only [execOp, h, h']; simp [go_sem, c2, z2], ?_⟩
  obtain ⟨cc4, HC4, hs4, h04⟩ : ∃ cc : Array Value, Hid (cc = (cc3.setIfInBounds 2 (.int .i64 r5.1))) ∧ cc.size = 20 ∧ cc[0]? = some (.int .i64 2) := ⟨_, rfl, (set20 hs3 2 _), (set0 h03 2 _ (by decide))⟩
  rw [← HC4.out] at hS2
  clear hD hS hc hT hX hs3 h03 c2 z2 hu2 hF h0 h2 h3 h8
  generalize (x.setCell ⟨w.heap.size + 1, 2, none⟩ (.int .i64 r5.1)) = W at *
  have hS := hS2
  clear hS2
  intro a f hF h0 h2 h3 h8
  show Code.wp _ _ _ _ _
  refine wp_region_list ?_
  have hc := rnum_any hb ao n cap bs r5.2 0 1099511627776 (by omega) (by omega) W hS.rd hsm
  refine m_fld (d := 40) hF h0 h2 h3 h8 (by omega) (by omega) rfl rfl rfl rfl rfl rfl rfl rfl rfl (fun ev hcst hfn h => by simp only [execOp, resolve, invoke, List.map_toArray, List.map_cons, List.map_nil, h, hcst, hfn]; simp [go_sem]) hc ?_
  rintro e x ⟨rfl, hT, hX⟩
  replace HN : Hid _ := HN.out _  rfl
  generalize rstep (num 0 1099511627776) 0 bs r5.2 = r6 at *
  have hD := hS.rw hlt hT (RX.of hX)
  obtain ⟨u3, hu3⟩ := arr20 hs4 3 (by decide)
  have c3 : x.cell? ⟨w.heap.size + 1, 3, none⟩ = some u3 := (hD.blk.cell 3).trans hu3
  have z3 := hD.blk.frozen 3
  have hS2 : DX w hb ao n cap bs r6.2 zeroC (cc4.setIfInBounds 3 (.int .i64 r6.1)) 35 (x.setCell ⟨w.heap.size + 1, 3, none⟩ (.int .i64 r6.1)) := (hD.set hlt hab 3 _)
  refine ⟨_, PA (w.heap.size + 1) 3, (x.setCell ⟨w.heap.size + 1, 3, none⟩ (.int .i64 r6.1)), rfl, fun ev h => by simp only [execOp, h]; simp [go_sem], fun ev h h' => by simp only [execOp, h, h']; simp [go_sem, c3, z3], ?_⟩
  obtain ⟨cc5, HC5, hs5, h05⟩ : ∃ cc : Array Value, Hid (cc = (cc4.setIfInBounds 3 (.int .i64 r6.1))) ∧ cc.size = 20 ∧ cc[0]? = some (.int .i64 2) := ⟨_, rfl, (set20 hs4 3 _), (set0 h04 3 _ (by decide))⟩
  rw [← HC5.out] at hS2
  clear hD hS hc hT hX hs4 h04 c3 z3 hu3 hF h0 h2 h3 h8
  generalize (x.setCell ⟨w.heap.size + 1, 3, none⟩ (.int .i64 r6.1)) = W at *
  have hS := hS2
  clear hS2
  intro a f hF h0 h2 h3 h8
  show Code.wp _ _ _ _ _
  obtain ⟨DD, HDD⟩ : ∃ DD : Array Value, Hid (DD = msgCells { Msg.zero with kind := 2, session := r1.1, id := r2.1, name := r3.1, err := r4.1, cap := r5.1, recaps := r6.1 } (.slice none 0 0)) := ⟨_, rfl⟩
  have hcD : cc5 = DD := by
    rw [HDD.out, HC5.out, HC4.out, HC3.out, HC2.out, HC1.out, HC0.out]
    rfl
  rw [hcD] at hS
  have hall : DD.all (·.oneCell') = true := by rw [HDD.out]; simp [msgCells, Str, Value.oneCell', Msg.zero]
  have hfin : RdB (W.setRow w.heap.size DD) hb ao n cap bs r6.2 := hS.rd.row _ _ (by omega) (fun b o e => by have := hab b o e; omega)
  have hfx : RX hb w (W.setRow w.heap.size DD) := ⟨hS.rx.os, hS.rx.tape, hS.rx.output, by simpa [World.setRow] using hS.rx.size, fun k h1 h2 => (setRow_other _ _ _ _ (by omega)).trans (hS.rx.block k h1 h2)⟩
  have hans : MsgAns w pp (.returned (.agg DD)) (W.setRow w.heap.size DD) := ⟨{ Msg.zero with kind := 2, session := r1.1, id := r2.1, name := r3.1, err := r4.1, cap := r5.1, recaps := r6.1 }, none, 0, by rw [HDD.out]; rfl, World.ownsRow_nil _ _ _ _, by simp [Msg.zero], fun _ => by rw [HN.out]⟩
  have hszD : DD.size = 20 := by rw [HDD.out]; rfl
  refine m_end (d := 43) (Post := fun e z => MsgAns w pp e z ∧ RdB z hb ao n cap bs pp.2 ∧ RX hb w z) hF h2 h3 hS.res hS.blk hszD hall (by omega) (by omega) rfl rfl rfl rfl rfl rfl ?_ ?_
  · refine ⟨hans, ?_, hfx⟩
    rw [HN.out]
    exact hfin
  · intro a' W' hbp
    exact hbp
set_option maxRecDepth 100000 in
set_option maxHeartbeats 3200000 in
theorem rmsg2b_any (hb : Nat) (ao : Option Addr) (n cap : Nat) (bs : List UInt8) (st : Nat × Bool) (w : World) (hS : RdB w hb ao n cap bs st) (hsm : n ≤ 140737488355328) (hrm : n ≤ cap) (hnil : ao = none → n = 0 ∧ cap = 0) (hform : ao = none ∨ ∃ b off, ao = some ⟨b, off, none⟩) (hab : ∀ b o, ao = some ⟨b, o, none⟩ → b < w.heap.size) (r0 : Int × Nat × Bool) (h0 : rstep (num 1 10) 0 bs st = r0) (hk : r0.1 = 2) (he : (rstep (num 0 255) 0 bs (nstep [] bs (rstep (num 1 1099511627776) 0 bs (rstep (num 0 63) 0 bs r0.2).2).2).2).1 ≠ 0 ∧ (rstep (num 0 255) 0 bs (nstep [] bs (rstep (num 1 1099511627776) 0 bs (rstep (num 0 63) 0 bs r0.2).2).2).2).1 ≠ 101) :
    Calls Try.prog 87 #[.pointer (some ⟨hb, 0, none⟩)] w fun e w' => MsgAns w (p2b bs r0.2) e w' ∧ RdB w' hb ao n cap bs (p2b bs r0.2).2 ∧ RX hb w w' := by
  have HN : Hid (∀ r1 r2 r3 r4, rstep (num 0 63) 0 bs r0.2 = r1 → rstep (num 1 1099511627776) 0 bs r1.2 = r2 → nstep [] bs r2.2 = r3 → rstep (num 0 255) 0 bs r3.2 = r4 → p2b bs r0.2 = ({ Msg.zero with kind := 2, session := r1.1, id := r2.1, name := r3.1, err := r4.1 }, r4.2)) := by
    intro r1 r2 r3 r4 hr1 hr2 hr3 hr4
    subst hr1 hr2 hr3 hr4
    rfl
  have hlt := hS.blk.lt
  have HE : Hid _ := he
  clear he
  generalize hpp : p2b bs r0.2 = pp at *
  clear hpp
  refine calls_of_wp Try.func87 rfl ?_
  have e : Try.f87.ntmps - (#[Value.pointer (some ⟨hb, 0, none⟩)] : Array Value).size = 84 := by rw [Try.ntmps87]; rfl
  rw [e]
  have hF0 := m_frame (.pointer (some ⟨hb, 0, none⟩)) 84
  generalize ({ tmps := #[Value.pointer (some ⟨hb, 0, none⟩)] ++ Array.replicate 84 undef, defers := [] } : Act) = a0 at *
  refine mstart hF0 rfl hS hsm rfl rfl rfl rfl rfl rfl rfl rfl rfl rfl rfl rfl rfl rfl rfl rfl rfl rfl (fun ev W hcst hfn h => by simp only [execOp, resolve, invoke, List.map_toArray, List.map_cons, List.map_nil, h, hcst, hfn]; simp [go_sem]) rfl rfl rfl rfl rfl ?_
  clear hS hF0 e
  rw [h0, hk]
  clear h0 hk
  intro a f W hF h0 h2 h3 h8 hS
  obtain ⟨cc0, HC0, hs0, h00⟩ : ∃ cc : Array Value, Hid (cc = kindM 2) ∧ cc.size = 20 ∧ cc[0]? = some (.int .i64 2) := ⟨_, rfl, rfl, rfl⟩
  rw [← HC0.out] at hS
  refine wp_block ?_
  refine wp_seq ?_
  refine wp_region_list ?_
  refine m_swt (d := 9) false hF h0 h2 h3 h8 (by omega) (by omega) rfl rfl rfl rfl (fun ev hcst h => by simp only [execOp, h, hcst]; simp [go_sem]) (fun ev h => by simp only [execOp, h]; rfl) ?_
  intro a f hF h0 h2 h3 h8 hp
  show Code.wp _ _ _ _ _
  refine wp_cond_false ((hF.eval 9 (by omega)).trans hp) ?_
  clear hp
  refine wp_seq ?_
  refine wp_region_list ?_
  refine m_swt (d := 18) true hF h0 h2 h3 h8 (by omega) (by omega) rfl rfl rfl rfl (fun ev hcst h => by simp only [execOp, h, hcst]; simp [go_sem]) (fun ev h => by simp only [execOp, h]; rfl) ?_
  intro a f hF h0 h2 h3 h8 hp
  show Code.wp _ _ _ _ _
  refine wp_cond_true ((hF.eval 18 (by omega)).trans hp) ?_
  clear hp
  refine wp_seq ?_
  refine wp_region_list ?_
  have hc := rcall2_any hb ao n cap bs r0.2 W hS.rd hsm (fun b o e => by have := hab b o e; have := hS.rx.size; omega) _ _ rfl rfl
  refine m_fld (d := 20) hF h0 h2 h3 h8 (by omega) (by omega) rfl rfl rfl rfl rfl rfl rfl rfl rfl (fun ev hcst hfn h => by simp only [execOp, resolve, invoke, List.map_toArray, List.map_cons, List.map_nil, h, hcst, hfn]; simp [go_sem]) hc ?_
  rintro e x ⟨rfl, hT, hX⟩
  replace HN : Hid _ := fun r2 r3 r4 => HN.out _ r2 r3 r4 rfl
  generalize rstep (num 0 63) 0 bs r0.2 = r1 at *
  replace HN : Hid _ := fun r3 r4 => HN.out _ r3 r4 rfl
  generalize rstep (num 1 1099511627776) 0 bs r1.2 = r2 at *
  unfold two
  have hD := hS.rw hlt hT (hX)
  obtain ⟨u11, hu11⟩ := arr20 hs0 11 (by decide)
  have c11 : x.cell? ⟨w.heap.size + 1, 11, none⟩ = some u11 := (hD.blk.cell 11).trans hu11
  have z11 := hD.blk.frozen 11
  obtain ⟨u12, hu12⟩ := arr20 hs0 12 (by decide)
  have c12 : x.cell? ⟨w.heap.size + 1, 12, none⟩ = some u12 := (hD.blk.cell 12).trans hu12
  have z12 := hD.blk.frozen 12
  have hS2 : DX w hb ao n cap bs r2.2 zeroC ((cc0.setIfInBounds 11 (.int .i64 r1.1)).setIfInBounds 12 (.int .i64 r2.1)) 35 ((x.setCell ⟨w.heap.size + 1, 11, none⟩ (.int .i64 r1.1)).setCell ⟨w.heap.size + 1, 12, none⟩ (.int .i64 r2.1)) := ((hD.set hlt hab 11 _).set hlt hab 12 _)
  refine ⟨_, PA (w.heap.size + 1) 11, ((x.setCell ⟨w.heap.size + 1, 11, none⟩ (.int .i64 r1.1)).setCell ⟨w.heap.size + 1, 12, none⟩ (.int .i64 r2.1)), rfl, fun ev h => by simp only [execOp, h]; simp [go_sem], fun ev h h' => by simp only [execOp, h, h']; simp [go_sem, c11, z11, c12, z12], ?_⟩
  obtain ⟨cc1, HC1, hs1, h01⟩ : ∃ cc : Array Value, Hid (cc = ((cc0.setIfInBounds 11 (.int .i64 r1.1)).setIfInBounds 12 (.int .i64 r2.1))) ∧ cc.size = 20 ∧ cc[0]? = some (.int .i64 2) := ⟨_, rfl, (set20 (set20 hs0 11 _) 12 _), (set0 (set0 h00 11 _ (by decide)) 12 _ (by decide))⟩
  rw [← HC1.out] at hS2
  clear hD hS hc hT hX hs0 h00 c11 z11 hu11 c12 z12 hu12 hF h0 h2 h3 h8
  generalize ((x.setCell ⟨w.heap.size + 1, 11, none⟩ (.int .i64 r1.1)).setCell ⟨w.heap.size + 1, 12, none⟩ (.int .i64 r2.1)) = W at *
  have hS := hS2
  clear hS2
  intro a f hF h0 h2 h3 h8
  show Code.wp _ _ _ _ _
  refine wp_seq ?_
  refine wp_region_list ?_
  have hc : Calls Try.prog 100 #[_, .string ⟨#[]⟩] W _ := rname2_any hb ao n cap bs [] r2.2 W hS.rd hsm hrm hnil hform
  refine m_fld (d := 23) hF h0 h2 h3 h8 (by omega) (by omega) rfl rfl rfl rfl rfl rfl rfl rfl rfl (fun ev hcst hfn h => by simp only [execOp, resolve, invoke, List.map_toArray, List.map_cons, List.map_nil, h, hcst, hfn]; simp [go_sem]) hc ?_
  rintro e x ⟨rfl, hT, hX⟩
  replace HN : Hid _ := fun r4 => HN.out _ r4 rfl
  generalize nstep [] bs r2.2 = r3 at *
  unfold Str
  have hD := hS.rw hlt hT (RX.of hX)
  obtain ⟨u1, hu1⟩ := arr20 hs1 1 (by decide)
  have c1 : x.cell? ⟨w.heap.size + 1, 1, none⟩ = some u1 := (hD.blk.cell 1).trans hu1
  have z1 := hD.blk.frozen 1
  have hS2 : DX w hb ao n cap bs r3.2 zeroC (cc1.setIfInBounds 1 (.string ⟨r3.1.toArray⟩)) 35 (x.setCell ⟨w.heap.size + 1, 1, none⟩ (.string ⟨r3.1.toArray⟩)) := (hD.set hlt hab 1 _)
  refine ⟨_, PA (w.heap.size + 1) 1, (x.setCell ⟨w.heap.size + 1, 1, none⟩ (.string ⟨r3.1.toArray⟩)), rfl, fun ev h => by simp only [execOp, h]; simp [go_sem], fun ev h h' => by simp only [execOp, h, h']; simp [go_sem, c1, z1], ?_⟩
  obtain ⟨cc2, HC2, hs2, h02⟩ : ∃ cc : Array Value, Hid (cc = (cc1.setIfInBounds 1 (.string ⟨r3.1.toArray⟩))) ∧ cc.size = 20 ∧ cc[0]? = some (.int .i64 2) := ⟨_, rfl, (set20 hs1 1 _), (set0 h01 1 _ (by decide))⟩
  rw [← HC2.out] at hS2
  clear hD hS hc hT hX hs1 h01 c1 z1 hu1 hF h0 h2 h3 h8
  generalize (x.setCell ⟨w.heap.size + 1, 1, none⟩ (.string ⟨r3.1.toArray⟩)) = W at *
  have hS := hS2
  clear hS2
  intro a f hF h0 h2 h3 h8
  show Code.wp _ _ _ _ _
  refine wp_seq ?_
  refine wp_region_list ?_
  have hc := rnum_any hb ao n cap bs r3.2 0 255 (by omega) (by omega) W hS.rd hsm
  refine m_fld (d := 26) hF h0 h2 h3 h8 (by omega) (by omega) rfl rfl rfl rfl rfl rfl rfl rfl rfl (fun ev hcst hfn h => by simp only [execOp, resolve, invoke, List.map_toArray, List.map_cons, List.map_nil, h, hcst, hfn]; simp [go_sem]) hc ?_
  rintro e x ⟨rfl, hT, hX⟩
  replace HN : Hid _ := HN.out _  rfl
  generalize rstep (num 0 255) 0 bs r3.2 = r4 at *
  have hD := hS.rw hlt hT (RX.of hX)
  obtain ⟨u17, hu17⟩ := arr20 hs2 17 (by decide)
  have c17 : x.cell? ⟨w.heap.size + 1, 17, none⟩ = some u17 := (hD.blk.cell 17).trans hu17
  have z17 := hD.blk.frozen 17
  have hS2 : DX w hb ao n cap bs r4.2 zeroC (cc2.setIfInBounds 17 (.int .i64 r4.1)) 35 (x.setCell ⟨w.heap.size + 1, 17, none⟩ (.int .i64 r4.1)) := (hD.set hlt hab 17 _)
  refine ⟨_, PA (w.heap.size + 1) 17, (x.setCell ⟨w.heap.size + 1, 17, none⟩ (.int .i64 r4.1)), rfl, fun ev h => by simp only [execOp, h]; simp [go_sem], fun ev h h' => by simp only [execOp, h, h']; simp [go_sem, c17, z17], ?_⟩
  obtain ⟨cc3, HC3, hs3, h03, h17⟩ : ∃ cc : Array Value, Hid (cc = (cc2.setIfInBounds 17 (.int .i64 r4.1))) ∧ cc.size = 20 ∧ cc[0]? = some (.int .i64 2) ∧ cc[17]? = some (.int .i64 r4.1) := ⟨_, rfl, (set20 hs2 17 _), (set0 h02 17 _ (by decide)), by rw [Array.getElem?_setIfInBounds_self_of_lt (by omega)]⟩
  rw [← HC3.out] at hS2
  clear hD hS hc hT hX hs2 h02 c17 z17 hu17 hF h0 h2 h3 h8
  generalize (x.setCell ⟨w.heap.size + 1, 17, none⟩ (.int .i64 r4.1)) = W at *
  have hS := hS2
  clear hS2
  intro a f hF h0 h2 h3 h8
  show Code.wp _ _ _ _ _
  refine wp_seq ?_
  refine wp_seq ?_
  refine wp_region_list ?_
  have k17 : W.cell? ⟨w.heap.size + 1, 17, none⟩ = some (.int .i64 r4.1) := (hS.blk.cell 17).trans h17
  have he := HE.out
  have he1 : (r4.1 == 0) = false := by simpa using he.1
  have he2 : (r4.1 == 101) = false := by simpa using he.2
  refine m_tst (d := 29) (p1 := PA (w.heap.size + 1) 17) (u := .int .i64 r4.1) false hF h0 h2 h3 h8 (by omega) (by omega) rfl rfl rfl rfl rfl rfl (fun ev h => by simp only [execOp, h]; simp [go_sem]) (fun ev h => by simp only [execOp, h]; simp [go_sem, k17]) (fun ev hcst h => by simp only [execOp, h, hcst]; simp [go_sem, he1]) ?_
  clear hF h0 h2 h3 h8
  intro a f hF h0 h2 h3 h8 hp
  refine sy hF rfl (by omega) (wanted_none rfl) (v := .bool false) (by simp only [execOp, (hF.eval 31 (by omega)).trans hp]; rfl) fun a1 F1 => ?_
  refine sy F1 rfl (by omega) (by rw [wanted_some rfl, F1.yields (d := 32) rfl (by omega) (b := false) (by simp [upd])]; rfl) (v := PA (w.heap.size + 1) 17) (by simp only [execOp, (F1.eval 3 (by omega)).trans (show _ = PA (w.heap.size + 1) 0 from by simp [upd, h0, h2, h3, h8])]; simp [go_sem]) fun a2 F2 => ?_
  refine sy F2 rfl (by omega) (by rw [wanted_some rfl, F2.yields (d := 32) rfl (by omega) (b := false) (by simp [upd])]; rfl) (v := .int .i64 r4.1) (by simp only [execOp, (F2.eval 33 (by omega)).trans (show _ = PA (w.heap.size + 1) 17 from by simp [upd, h0, h2, h3, h8])]; simp [go_sem, k17]) fun a3 F3 => ?_
  refine sy F3 rfl (by omega) (by rw [wanted_some rfl, F3.yields (d := 32) rfl (by omega) (b := false) (by simp [upd])]; rfl) (v := .bool false) (by simp only [execOp, (F3.eval 34 (by omega)).trans (show _ = .int .i64 r4.1 from by simp [upd, h0, h2, h3, h8])]; simp [go_sem, Act.eval, he2]) fun a4 F4 => ?_
  refine sy F4 rfl (by omega) (wanted_none rfl) (v := .bool false) (by simp only [execOp, (F4.eval 32 (by omega)).trans (show _ = .bool false from by simp [upd, h0, h2, h3, h8]), (F4.eval 35 (by omega)).trans (show _ = .bool false from by simp [upd, h0, h2, h3, h8])]; simp [go_sem]) fun a5 F5 => ?_
  refine wpList_nil ?_
  show Code.wp _ _ _ _ _
  obtain ⟨f', hF', k0', k2', k3', k8', kp⟩ : ∃ f' : Nat → Value, Fr 85 a5 f' ∧ f' 0 = PA hb 0 ∧ f' 2 = PA w.heap.size 0 ∧ f' 3 = PA (w.heap.size + 1) 0 ∧ f' 8 = .int .i64 2 ∧ f' 36 = .bool false := ⟨_, F5, by simp [upd, h0], by simp [upd, h2], by simp [upd, h3], by simp [upd, h8], upd_eq _ _ _⟩
  clear F1 F2 F3 F4 F5 hF h0 h2 h3 h8 hp k17 he h17 HE
  have hF := hF'
  have h0 := k0'
  have h2 := k2'
  have h3 := k3'
  have h8 := k8'
  clear hF' k0' k2' k3' k8'
  refine wp_cond_false ((hF.eval 36 (by omega)).trans kp) ?_
  clear kp
  refine wp_skip ?_
  show Code.wp _ _ _ _ _
  obtain ⟨DD, HDD⟩ : ∃ DD : Array Value, Hid (DD = msgCells { Msg.zero with kind := 2, session := r1.1, id := r2.1, name := r3.1, err := r4.1 } (.slice none 0 0)) := ⟨_, rfl⟩
  have hcD : cc3 = DD := by
    rw [HDD.out, HC3.out, HC2.out, HC1.out, HC0.out]
    rfl
  rw [hcD] at hS
  have hall : DD.all (·.oneCell') = true := by rw [HDD.out]; simp [msgCells, Str, Value.oneCell', Msg.zero]
  have hfin : RdB (W.setRow w.heap.size DD) hb ao n cap bs r4.2 := hS.rd.row _ _ (by omega) (fun b o e => by have := hab b o e; omega)
  have hfx : RX hb w (W.setRow w.heap.size DD) := ⟨hS.rx.os, hS.rx.tape, hS.rx.output, by simpa [World.setRow] using hS.rx.size, fun k h1 h2 => (setRow_other _ _ _ _ (by omega)).trans (hS.rx.block k h1 h2)⟩
  have hans : MsgAns w pp (.returned (.agg DD)) (W.setRow w.heap.size DD) := ⟨{ Msg.zero with kind := 2, session := r1.1, id := r2.1, name := r3.1, err := r4.1 }, none, 0, by rw [HDD.out]; rfl, World.ownsRow_nil _ _ _ _, by simp [Msg.zero], fun _ => by rw [HN.out]⟩
  have hszD : DD.size = 20 := by rw [HDD.out]; rfl
  refine m_end (d := 43) (Post := fun e z => MsgAns w pp e z ∧ RdB z hb ao n cap bs pp.2 ∧ RX hb w z) hF h2 h3 hS.res hS.blk hszD hall (by omega) (by omega) rfl rfl rfl rfl rfl rfl ?_ ?_
  · refine ⟨hans, ?_, hfx⟩
    rw [HN.out]
    exact hfin
  · intro a' W' hbp
    exact hbp
end Go.Proofs.Ytneiomimjgfbpaa
