import Derived.Test.YtmnihombiabkgaaTk0
namespace Go.Proofs.Ytmnihombiabkgaa
open Go.RowKit Go.PlainAid Go.MapKept
set_option linter.unusedVariables false
set_option linter.unusedSimpArgs false
theorem wpList_runs {ops : Array Oper} {rest : List Oper} {o : Oper} {a : Act} {Q : Exit → Act → World → Prop} {w w' : World} (hgd : o.guard = none) (s x : Operand) (t : TypeId) (ho : o.op = .call { callee := .builtin .append, args := #[s, x], argTypes := #[t, t] }) {v y v' : Value} (hs : a.eval s = v) (hx : a.eval x = y)
    (hr : ∀ ty, (Builtin.append_ #[t, t] ty #[v, y]).run Try.prog w = .ok v' w') (h : wpList Try.prog ops Q rest (a.put o.dst v') w') : wpList Try.prog ops Q (o :: rest) a w := by
  refine wpList_plain hgd fun K hK => ?_
  unfold Oper.wp execOp
  simp only [ho, resolve, invoke, builtin, Sem.run_bind, Sem.run_pure, Result.andThen_ok, List.map_toArray, List.map_cons, List.map_nil, hs, hx, hr]
  exact hK _ _ h
section
variable {ops : Array Oper} {C : World → Prop} {eff : Nat → Bool} {z : Nat} {Q : Act → World → Prop} {rest : List Oper} {k : Nat} {a : Act} {w w1 : World} {o : Oper}
theorem lsv (he : eff k = true) (hC : C w) (hd : o.dst = none) (hw : Region.wanted o (yielded ops a.tmps) = true) {v : Value} (hr : (execOp a.eval o).run Try.prog w = .ok (.value v) w1)
    (h : wpLex Try.prog ops C eff z Q rest (k + 1) a w1) : wpLex Try.prog ops C eff z Q (o :: rest) k a w := by
  refine ⟨hC, ?_⟩
  rw [if_pos he]
  exact Or.inl ⟨hw, Or.inl ⟨v, w1, Or.inl hr, by rw [hd]; exact h⟩⟩
end
set_option maxRecDepth 100000 in
set_option maxHeartbeats 12800000 in
theorem tick_any {base whb mp : Nat} {u now last : Int} {vs : List Value} {A : List Tm} (w : World) (h : WL base whb mp u vs now last A (A.map (kvT u)) w) (hB : WB u now last A) (hnl : now < 1000000) :
    Calls Try.prog 20 #[.pointer (some ⟨whb, 0, none⟩)] w fun e w' => ∃ v, e = .returned v ∧ w'.ownsRow w.heap.size 50 4 v (comes (now + 1) A).length (flatT (comes (now + 1) A)) ∧ ∃ vs', WL base whb mp u vs' (now + 1) last (stay (now + 1) A) ((stay (now + 1) A).map (kvT u)) w' ∧ Chg (wown whb mp vs) w w' ∧ ∀ k, wown whb mp vs' k → wown whb mp vs k := by
  obtain ⟨hu1, hu2⟩ := hB.hu
  obtain ⟨hw1, hw2⟩ := hB.hw
  obtain ⟨nw, hnw⟩ : ∃ nw, nw = now + 1 := ⟨_, rfl⟩
  obtain ⟨p, hp⟩ : ∃ p, p = (nw % u).toNat := ⟨_, rfl⟩
  have hm0 := Int.emod_lt_of_pos nw (show 0 < u by omega)
  have hm1 := Int.emod_nonneg nw (show u ≠ 0 by omega)
  have hp64 : p < 64 := by omega
  have hpi : nw % u = ((p : Nat) : Int) := by omega
  have hu0 : u ≠ 0 := by omega
  have HPL : Hid (∀ t ∈ A, t.due = nw → pl u t = p) := fun t _ e => by rw [hp, ← e]; rfl
  obtain ⟨l, hl⟩ : ∃ l, l = slotOf u A p := ⟨_, rfl⟩
  have HL : Hid (l = slotOf u A p) := hl
  obtain ⟨n, hn⟩ : ∃ n, n = l.length := ⟨_, rfl⟩
  have HN : Hid (n = l.length) := hn
  have hn6 : n ≤ 1000000 := by
    have h1 := hB.len
    have h2 := hB.hl
    have h3 : (slotOf u A p).length ≤ A.length := List.length_filter_le _ _
    rw [hn, hl]
    omega
  obtain ⟨v, hv⟩ := h.get hp64
  have HV : Hid (vs[p]? = some v) := hv
  have HLOW : Hid (∀ k, wown whb mp vs k → k < w.heap.size) := fun k hk => h.lt hk
  have HUP : Hid (Up A) := hB.up
  have HSUB : Hid (∀ (k : Nat) (x : Tm), l[k]? = some x → x ∈ A) := fun k x hx => by
    have := List.mem_of_getElem? hx
    rw [hl] at this
    exact (slot_mem.1 this).1
  have hX := h.setNow nw
  have HX : Hid (WL base whb mp u vs nw last A (A.map (kvT u)) (w.setCell ⟨whb, 66, none⟩ (.int .i64 nw))) := hX
  have HCX : Hid (Chg (fun k => k = whb) w (w.setCell ⟨whb, 66, none⟩ (.int .i64 nw))) := setCell_chg _ _ _ _
  have c66 := h.c66
  have f66 : w.frozen? ⟨whb, 66, none⟩ = false := h.b.frozen 66
  have HNW : Hid (nw = now + 1) := hnw
  rw [← hnw]
  have hnb : nw ≤ 1000000 := by omega
  have hnb0 : 0 ≤ nw := by omega
  clear h hB hX hp hl hn hv hm0 hm1
  go_enter Try.func20, Try.ntmps20
  go_upto_region 2 with fail
  rw [← HNW.out]
  clear hnw
  generalize w.setCell ⟨whb, 66, none⟩ (.int .i64 nw) = X at *
  clear c66 f66
  have c66 := HX.out.c66
  have c64 := HX.out.c64
  go_wp2_with fail
  go_quiet (fail)
  rw [hpi]
  clear c66 c64
  have HT0 : Hid (TI base whb mp u vs nw last A l w 0 (.slice none 0 0) (X.drewN nq)) := by
    refine ⟨?_, World.ownsRow_nil _ _ _ _, ?_⟩
    · rw [gk_0]
      exact HX.out.more (below_drewN (Below.refl _ _) nq)
    · exact (HCX.out.mono (B := wown whb mp vs) (fun j _ e => Or.inl e)).drewN nq
  generalize X.drewN nq = Y at *
  clear HX HCX
  obtain ⟨aos, caps, hvs, hcs⟩ := own_slice (HT0.out.wl.r p v HV.out)
  rw [← HL.out, ← HN.out] at hvs hcs
  subst hvs
  have hcm : caps ≤ maxLen := by obtain ⟨_, _, e, _, hh, _⟩ := own_read (HT0.out.wl.r p _ HV.out); cases e; exact hh
  unfold maxLen at hcm
  have cp : Y.cell? ⟨whb, p, none⟩ = some (.slice aos n caps) := (HT0.out.wl.cs hp64).trans HV.out
  go_wp2_with fail
  clear cp
  go_loopw [30, 4, 6] (fun s30 s4 _ wr => ∃ vd, vd = s4 ∧ ∃ k : Nat, k ≤ n ∧ s30 = .int .i64 k ∧ TI base whb mp u vs nw last A l w k vd wr) (fun s30 _ _ _ => n - (intOf s30).toNat)
  case atStart => exact ⟨_, rfl, 0, by omega, rfl, HT0.out⟩
  case round =>
    obtain ⟨vd, rfl, k, hk, rfl, hT⟩ := hrel
    clear HT0
    have HT : Hid (TI base whb mp u vs nw last A l w k vd wr) := hT
    clear hT
    by_cases hlt : k < n
    · obtain ⟨x, hx⟩ : ∃ x, l[k]? = some x := ⟨l[k]'(by have := HN.out; omega), List.getElem?_eq_getElem _⟩
      have hrow := HT.out.wl.r p _ HV.out
      rw [← HL.out, ← HN.out] at hrow
      obtain ⟨g, c2, hv2, _, _, _⟩ := own_some hrow (by omega)
      cases hv2
      obtain ⟨x0, x1, x2, x3⟩ := cellT hrow hx
      obtain ⟨X, hX⟩ : ∃ X, X = wr.alloc (.cells #[.int .i64 x.due, .int .i64 x.num, .int .i64 x.kind, .int .i64 x.id] 50) := ⟨_, rfl⟩
      obtain ⟨bx, hbx⟩ : ∃ bx, bx = wr.heap.size := ⟨_, rfl⟩
      have hbX : Below wr.heap.size wr X := by rw [hX]; exact (Below.refl _ _).alloc (Nat.le_refl _) _
      have hBX : Blk X bx #[.int .i64 x.due, .int .i64 x.num, .int .i64 x.kind, .int .i64 x.id] 50 := by rw [hX, hbx]; exact heap_alloc_new wr _
      have HBV : Hid (∀ j, vd.ownBlock = some j → j ≠ bx) := fun j hj e => by have := (ownsRow_lt HT.out.row hj).2; omega
      have HX : Hid (l[k]? = some x) := hx
      have HTX : Hid (TI base whb mp u vs nw last A l w k vd X) := HT.out.more hbX
      have HDU : Hid _ := isDue_any x whb nw X HTX.out.wl.c66
      have HBX : Hid (Blk X bx #[.int .i64 x.due, .int .i64 x.num, .int .i64 x.kind, .int .i64 x.id] 50) := hBX
      have b0 : X.cell? ⟨bx, 0, none⟩ = some (.int .i64 x.due) := hBX.cell 0
      have b1 : X.cell? ⟨bx, 1, none⟩ = some (.int .i64 x.num) := hBX.cell 1
      have b2 : X.cell? ⟨bx, 2, none⟩ = some (.int .i64 x.kind) := hBX.cell 2
      have b3 : X.cell? ⟨bx, 3, none⟩ = some (.int .i64 x.id) := hBX.cell 3
      clear hx hrow hbX hBX
      go_upto_region 7 with fail
      rw [← hX, ← hbx]
      clear hX hbx x0 x1 x2 x3 HT
      go_wp2_with fail
      refine Calls.mono HDU.out ?_
      rintro e w2 ⟨rfl, hb2⟩
      have HT2 : Hid (TI base whb mp u vs nw last A l w k vd w2) := HTX.out.more hb2
      have HB2 : Hid (Blk w2 bx #[.int .i64 x.due, .int .i64 x.num, .int .i64 x.kind, .int .i64 x.id] 50) := Blk.below HBX.out hb2 (Blk.lt HBX.out)
      clear hb2 b0 b1 b2 b3 HTX HBX HDU
      by_cases hd : x.due = nw
      · have HDD : Hid (x.due = nw) := hd
        rw [decide_eq_true hd]
        clear hd
        have b0 : w2.cell? ⟨bx, 0, none⟩ = some (.int .i64 x.due) := HB2.out.cell 0
        have b1 : w2.cell? ⟨bx, 1, none⟩ = some (.int .i64 x.num) := HB2.out.cell 1
        have b2 : w2.cell? ⟨bx, 2, none⟩ = some (.int .i64 x.kind) := HB2.out.cell 2
        have b3 : w2.cell? ⟨bx, 3, none⟩ = some (.int .i64 x.id) := HB2.out.cell 3
        have hal : Below w2.heap.size w2 (w2.alloc (.cells #[.int .i64 x.due, .int .i64 x.num, .int .i64 x.kind, .int .i64 x.id] 50)) := (Below.refl _ _).alloc (Nat.le_refl _) _
        have HT3 : Hid (TI base whb mp u vs nw last A l w k vd (w2.alloc (.cells #[.int .i64 x.due, .int .i64 x.num, .int .i64 x.kind, .int .i64 x.id] 50))) := HT2.out.more hal
        have hcl : (comes nw (l.take k)).length ≤ 1000000 := Nat.le_trans (comes_len _ _) (by rw [List.length_take]; omega)
        obtain ⟨v5, w5, hr5, ho5, hg5, hin5⟩ := app_any (w := w2.alloc (.cells #[.int .i64 x.due, .int .i64 x.num, .int .i64 x.kind, .int .i64 x.id] 50)) 33 50 (.agg #[.int .i64 0, .int .i64 0, .int .i64 0, .int .i64 0]) 4 32 Try.underlying33 info50 rfl (by decide) (by decide) HT3.out.row ⟨w2.heap.size, 0, none⟩ 1 1 x.row rfl (fun j uu hu => by
          have hB : Blk (w2.alloc (.cells #[.int .i64 x.due, .int .i64 x.num, .int .i64 x.kind, .int .i64 x.id] 50)) w2.heap.size #[.int .i64 x.due, .int .i64 x.num, .int .i64 x.kind, .int .i64 x.id] 50 := heap_alloc_new w2 _
          rw [addr_add, Nat.zero_add, hB.cell j]
          simpa [Tm.row] using hu) (fun uu hu => flatT_one [x] uu (by simpa [flatT] using hu)) (by omega) (Nat.le_trans HT3.out.chg.size (Nat.le_refl _)) 33
        have HHR : Hid (∀ ty, (Builtin.append_ #[33, 33] ty #[vd, .slice (some ⟨w2.heap.size, 0, none⟩) 1 1]).run Try.prog (w2.alloc (.cells #[.int .i64 x.due, .int .i64 x.num, .int .i64 x.kind, .int .i64 x.id] 50)) = .ok v5 w5) := fun ty => hr5
        have HO5 : Hid _ := ho5
        have HG5 : Hid (Grew (w2.alloc (.cells #[.int .i64 x.due, .int .i64 x.num, .int .i64 x.kind, .int .i64 x.id] 50)) w5 vd v5) := hg5
        have HB5 : Hid (Blk w5 bx #[.int .i64 x.due, .int .i64 x.num, .int .i64 x.kind, .int .i64 x.id] 50) := Chg.blk hg5.chg (Blk.below HB2.out hal (Blk.lt HB2.out)) (fun e => HBV.out bx e rfl)
        clear hr5 ho5 hg5 hal hcl hin5
        go_wp2_with (at_builtin; refine wpList_runs rfl _ _ 33 rfl rfl rfl HHR.out ?_)
        have HW5 : Hid (WL base whb mp u vs nw last A ((gk nw l A k).map (kvT u)) w5) := HT3.out.wl.keep HG5.out.chg (fun j hj hk => by have := HLOW.out j hj; have := (ownsRow_lt HT3.out.row hk).1; omega)
        clear b0 b1 b2 b3 HHR
        rename_i K hK
        try rw [show ∀ a : Act, a.put none undef = a from fun _ => rfl]
        refine wp_region_mix (fun wz => wz.cell? ⟨whb, 65, none⟩ = some (.map (some mp)) ∧ wz.cell? ⟨bx, 1, none⟩ = some (.int .i64 x.num)) (fun i => i == 6) 6 (by kernel_rfl) rfl (by kernel_rfl) (by kernel_rfl) (by kernel_rfl) ?_
        refine withFrP (N := 63) rfl ?_
        intro f0 F0 hff
        have e0 : f0 0 = Value.pointer (some ⟨whb, 0, none⟩) := hff 0
        have e6 : f0 6 = Value.pointer (some ⟨bx, 0, none⟩) := hff 6
        clear hff
        have HCC : (fun wz => wz.cell? ⟨whb, 65, none⟩ = some (.map (some mp)) ∧ wz.cell? ⟨bx, 1, none⟩ = some (.int .i64 x.num)) (({ w5 with drawn := w5.drawn + 1 } : World)) := ⟨HW5.out.c65, HB5.out.cell 1⟩
        obtain ⟨w6, hrun, hm6, hc6, hs6⟩ := HMap.del (w := ({ w5 with drawn := w5.drawn + 1 } : World)) (HW5.out.m.same rfl) x.num
        replace hrun : ∀ ty, (Builtin.delete_ #[45, 3] ty #[.map (some mp), .int .i64 x.num]).run Try.prog ({ w5 with drawn := w5.drawn + 1 } : World) = .ok (.tuple #[]) w6 := hrun
        refine lyp F0 rfl HCC rfl (by omega) (wanted_none rfl) (v := Value.pointer (some ⟨whb, 0, none⟩)) (fun wr hwr => by simp only [execOp, (F0.eval 0 (by omega)).trans (show _ = Value.pointer (some ⟨whb, 0, none⟩) from by simp [upd, e0, e6])]; first | rfl | simp [go_sem]) fun Fp1 => ?_
        refine lyp Fp1 rfl HCC rfl (by omega) (wanted_none rfl) (v := Value.pointer (some ⟨whb, 0, none⟩)) (fun wr hwr => by simp only [execOp, (Fp1.eval 41 (by omega)).trans (show _ = Value.pointer (some ⟨whb, 0, none⟩) from by simp [upd, e0, e6])]; simp [go_sem]) fun Fp2 => ?_
        refine lyp Fp2 rfl HCC rfl (by omega) (wanted_none rfl) (v := Value.pointer (some ⟨whb, 65, none⟩)) (fun wr hwr => by simp only [execOp, (Fp2.eval 42 (by omega)).trans (show _ = Value.pointer (some ⟨whb, 0, none⟩) from by simp [upd, e0, e6])]; simp [go_sem]) fun Fp3 => ?_
        refine lyp Fp3 rfl HCC rfl (by omega) (wanted_none rfl) (v := Value.map (some mp)) (fun wr hwr => by simp only [execOp, (Fp3.eval 43 (by omega)).trans (show _ = Value.pointer (some ⟨whb, 65, none⟩) from by simp [upd, e0, e6])]; simp [go_sem, hwr.1]) fun Fp4 => ?_
        refine lyp Fp4 rfl HCC rfl (by omega) (wanted_none rfl) (v := Value.pointer (some ⟨bx, 1, none⟩)) (fun wr hwr => by simp only [execOp, (Fp4.eval 6 (by omega)).trans (show _ = Value.pointer (some ⟨bx, 0, none⟩) from by simp [upd, e0, e6])]; simp [go_sem]) fun Fp5 => ?_
        refine lyp Fp5 rfl HCC rfl (by omega) (wanted_none rfl) (v := Value.int .i64 x.num) (fun wr hwr => by simp only [execOp, (Fp5.eval 45 (by omega)).trans (show _ = Value.pointer (some ⟨bx, 1, none⟩) from by simp [upd, e0, e6])]; simp [go_sem, hwr.2]) fun Fp6 => ?_
        refine lsv rfl HCC rfl (wanted_none rfl) (v := .tuple #[]) (w1 := w6) (by simp only [execOp, resolve, invoke, builtin, List.map_toArray, List.map_cons, List.map_nil, (Fp6.eval 44 (by omega)).trans (show _ = Value.map (some mp) from by simp [upd, e0, e6]), (Fp6.eval 46 (by omega)).trans (show _ = Value.int .i64 x.num from by simp [upd, e0, e6])]; simp [go_sem, builtin, show ∀ ty, (Builtin.delete_ #[45, 3] ty #[.map (some mp), .int .i64 x.num]).run Try.prog w5.drew = .ok (.tuple #[]) w6 from hrun, hrun]) ?_
        refine ⟨fun h => by omega, ?_⟩
        refine hK _ _ ?_
        clear F0 Fp1 Fp2 Fp3 Fp4 Fp5 Fp6 e0 e6 HCC
        simp only [Act.put, List.setIfInBounds_toArray, List.set_cons_succ, List.set_cons_zero]
        have HN2 : Hid (TI base whb mp u vs nw last A l w (k + 1) v5 w6) := HT3.out.due HLOW.out HUP.out HX.out (HSUB.out k x HX.out) HDD.out HO5.out HG5.out hm6 (((Chg.refl (fun j => j = mp) w5).drewN 1).trans hc6 (fun _ _ e => e))
        clear hrun hm6 hc6 hs6 HT3 HO5 HG5 HB5 HB2 HT2 HW5
        go_wp2_with fail
        go_roundw
        case rel => exact ⟨_, rfl, k + 1, by omega, by go_num, HN2.out⟩
        case measure => simp [intOf]; omega
      · have HN2 : Hid (TI base whb mp u vs nw last A l w (k + 1) vd w2) := HT2.out.skip HX.out hd
        rw [decide_eq_false hd]
        clear hd HT2 HB2 HX
        go_wp2_with fail
        go_roundw
        case rel => exact ⟨_, rfl, k + 1, by omega, by go_num, HN2.out⟩
        case measure => simp [intOf]; omega
    · obtain rfl : k = n := by omega
      have HLN : Hid ((slotOf u A p).length ≤ 1000000) := show (slotOf u A p).length ≤ 1000000 from by rw [← HL.out, ← HN.out]; exact hn6
      go_wp2_with fail
      rename_i K hK
      try rw [show ∀ a : Act, a.put none undef = a from fun _ => rfl]
      refine wp_region_mix (fun wz => wz.cell? ⟨whb, p, none⟩ = some (.slice aos k caps)) (fun i => i == 10 || i == 14) 14 (by kernel_rfl) rfl (by kernel_rfl) (by kernel_rfl) (by kernel_rfl) ?_
      refine withFrP (N := 63) rfl ?_
      intro f0 F0 hff
      have e0 : f0 0 = Value.pointer (some ⟨whb, 0, none⟩) := hff 0
      have e3 : f0 3 = Value.int .i64 ((p : Nat) : Int) := hff 3
      clear hff
      have HCC : (fun wz => wz.cell? ⟨whb, p, none⟩ = some (.slice aos k caps)) (({ wr with drawn := wr.drawn + 1 } : World)) := (HT.out.wl.cs hp64).trans HV.out
      have HWD : Hid (WL base whb mp u vs nw last A ((gk nw l A k).map (kvT u)) ({ wr with drawn := wr.drawn + 1 } : World)) := HT.out.wl.more (Below.drew (Below.refl wr.heap.size wr))
      have HDF : Hid _ := df_any (base := base) (now := nw) ({ wr with drawn := wr.drawn + 1 } : World) (HWD.out.r p _ HV.out) HLN.out HWD.out.c66 (fun j hj => (HWD.out.slot_ne HV.out hj).1)
      refine lyp F0 rfl HCC rfl (by omega) (wanted_none rfl) (v := Value.pointer (some ⟨whb, 0, none⟩)) (fun wr hwr => by simp only [execOp, (F0.eval 0 (by omega)).trans (show _ = Value.pointer (some ⟨whb, 0, none⟩) from by simp [upd, e0, e3])]; first | rfl | simp [go_sem]) fun Fp1 => ?_
      refine lyp Fp1 rfl HCC rfl (by omega) (wanted_none rfl) (v := Value.int .i64 ((p : Nat) : Int)) (fun wr hwr => by simp only [execOp, (Fp1.eval 3 (by omega)).trans (show _ = Value.int .i64 ((p : Nat) : Int) from by simp [upd, e0, e3])]; first | rfl | simp [go_sem]) fun Fp2 => ?_
      refine lyp Fp2 rfl HCC rfl (by omega) (wanted_none rfl) (v := Value.pointer (some ⟨whb, 0, none⟩)) (fun wr hwr => by simp only [execOp, (Fp2.eval 0 (by omega)).trans (show _ = Value.pointer (some ⟨whb, 0, none⟩) from by simp [upd, e0, e3])]; first | rfl | simp [go_sem]) fun Fp3 => ?_
      refine lyp Fp3 rfl HCC rfl (by omega) (wanted_none rfl) (v := Value.int .i64 ((p : Nat) : Int)) (fun wr hwr => by simp only [execOp, (Fp3.eval 3 (by omega)).trans (show _ = Value.int .i64 ((p : Nat) : Int) from by simp [upd, e0, e3])]; first | rfl | simp [go_sem]) fun Fp4 => ?_
      refine lyp Fp4 rfl HCC rfl (by omega) (wanted_none rfl) (v := Value.pointer (some ⟨whb, 0, none⟩)) (fun wr hwr => by simp only [execOp, (Fp4.eval 50 (by omega)).trans (show _ = Value.pointer (some ⟨whb, 0, none⟩) from by simp [upd, e0, e3])]; simp [go_sem]) fun Fp5 => ?_
      refine lyp Fp5 rfl HCC rfl (by omega) (wanted_none rfl) (v := Value.pointer (some ⟨whb, 0, none⟩)) (fun wr hwr => by simp only [execOp, (Fp5.eval 52 (by omega)).trans (show _ = Value.pointer (some ⟨whb, 0, none⟩) from by simp [upd, e0, e3])]; simp [go_sem]) fun Fp6 => ?_
      refine lyp Fp6 rfl HCC rfl (by omega) (wanted_none rfl) (v := Value.pointer (some ⟨whb, p, none⟩)) (fun wr hwr => by simp only [execOp, (Fp6.eval 53 (by omega)).trans (show _ = Value.pointer (some ⟨whb, 0, none⟩) from by simp [upd, e0, e3]), (Fp6.eval 51 (by omega)).trans (show _ = Value.int .i64 ((p : Nat) : Int) from by simp [upd, e0, e3])]; simp only [Sem.run_bind, Sem.run_pure, Result.andThen_ok, idx_arr wr whb p hp64]; try rfl) fun Fp7 => ?_
      refine lyp Fp7 rfl HCC rfl (by omega) (wanted_none rfl) (v := Value.slice aos k caps) (fun wr hwr => by simp only [execOp, (Fp7.eval 54 (by omega)).trans (show _ = Value.pointer (some ⟨whb, p, none⟩) from by simp [upd, e0, e3])]; simp [go_sem, hwr]) fun Fp8 => ?_
      refine lyp Fp8 rfl HCC rfl (by omega) (wanted_none rfl) (v := Value.pointer (some ⟨whb, 0, none⟩)) (fun wr hwr => by simp only [execOp, (Fp8.eval 0 (by omega)).trans (show _ = Value.pointer (some ⟨whb, 0, none⟩) from by simp [upd, e0, e3])]; first | rfl | simp [go_sem]) fun Fp9 => ?_
      refine lyp Fp9 rfl HCC rfl (by omega) (wanted_none rfl) (v := Value.func (.func 31) #[.pointer (some ⟨whb, 0, none⟩)] #[]) (fun wr hwr => by simp only [execOp, List.map_toArray, List.map_cons, List.map_nil, (Fp9.eval 56 (by omega)).trans (show _ = Value.pointer (some ⟨whb, 0, none⟩) from by simp [upd, e0, e3])]; simp [go_sem, Instr.makeFunc]) fun Fp10 => ?_
      refine lcp Fp10 rfl HCC rfl (by omega) (wanted_none rfl) (g := 32) (args := #[Value.slice aos k caps, Value.func (.func 31) #[.pointer (some ⟨whb, 0, none⟩)] #[]]) (by simp only [execOp, resolve, invoke, List.map_toArray, List.map_cons, List.map_nil, (Fp10.eval 55 (by omega)).trans (show _ = Value.slice aos k caps from by simp [upd, e0, e3]), (Fp10.eval 57 (by omega)).trans (show _ = Value.func (.func 31) #[.pointer (some ⟨whb, 0, none⟩)] #[] from by simp [upd, e0, e3])]; simp [go_sem, Act.eval]) HDF.out ?_
      rintro e w4 ⟨v4, rfl, hr4, ho4, hc4⟩
      refine ⟨_, rfl, fun Fp11 => ?_⟩
      have HR4 : Hid _ := hr4
      have HO4 : Hid (∀ j, v4.ownBlock = some j → (Value.slice aos k caps).ownBlock = some j) := ho4
      have HC4 : Hid (Chg (fun j => (Value.slice aos k caps).ownBlock = some j) ({ wr with drawn := wr.drawn + 1 } : World) w4) := hc4
      obtain ⟨ao4, cap4, hv4, _⟩ := own_slice hr4
      have hB4 : Blk w4 whb (wbox vs u mp nw last) 48 := hc4.blk HWD.out.b (fun e => (HWD.out.slot_ne HV.out e).1 rfl)
      have HC6 : (fun wz => wz.cell? ⟨whb, p, none⟩ = some (.slice aos k caps)) w4 := (hB4.cell p).trans ((wbox_slot HWD.out.n hp64).trans HV.out)
      clear hr4 ho4 hc4
      refine lyp Fp11 rfl HC6 rfl (by omega) (wanted_none rfl) (v := Value.pointer (some ⟨whb, 0, none⟩)) (fun wr hwr => by simp only [execOp, (Fp11.eval 48 (by omega)).trans (show _ = Value.pointer (some ⟨whb, 0, none⟩) from by simp [upd, e0, e3])]; simp [go_sem]) fun Fp12 => ?_
      refine lyp Fp12 rfl HC6 rfl (by omega) (wanted_none rfl) (v := Value.pointer (some ⟨whb, 0, none⟩)) (fun wr hwr => by simp only [execOp, (Fp12.eval 59 (by omega)).trans (show _ = Value.pointer (some ⟨whb, 0, none⟩) from by simp [upd, e0, e3])]; simp [go_sem]) fun Fp13 => ?_
      refine lyp Fp13 rfl HC6 rfl (by omega) (wanted_none rfl) (v := Value.pointer (some ⟨whb, p, none⟩)) (fun wr hwr => by simp only [execOp, (Fp13.eval 60 (by omega)).trans (show _ = Value.pointer (some ⟨whb, 0, none⟩) from by simp [upd, e0, e3]), (Fp13.eval 49 (by omega)).trans (show _ = Value.int .i64 ((p : Nat) : Int) from by simp [upd, e0, e3])]; simp only [Sem.run_bind, Sem.run_pure, Result.andThen_ok, idx_arr wr whb p hp64]; try rfl) fun Fp14 => ?_
      refine lst rfl HC6 rfl (wanted_none rfl) (w1 := w4.setCell ⟨whb, p, none⟩ v4) (by simp only [execOp, (Fp14.eval 61 (by omega)).trans (show _ = Value.pointer (some ⟨whb, p, none⟩) from by simp [upd, e0, e3]), (Fp14.eval 58 (by omega)).trans (show _ = v4 from by simp [upd, e0, e3]), hv4]; simp [go_sem, hB4.frozen p, HC6]) ?_
      refine ⟨fun h => by omega, ?_⟩
      refine hK _ _ ?_
      clear F0 Fp1 Fp2 Fp3 Fp4 Fp5 Fp6 Fp7 Fp8 Fp9 Fp10 Fp11 Fp12 Fp13 Fp14 e0 e3 HCC HC6 HDF
      simp only [Act.put, List.setIfInBounds_toArray, List.set_cons_succ, List.set_cons_zero]
      have HY : Hid (WL base whb mp u (vs.set p v4) nw last (stay nw A) ((stay nw A).map (kvT u)) (w4.setCell ⟨whb, p, none⟩ v4)) := by
        have hgk : gk nw l A k = stay nw A := by rw [HL.out]; exact gk_all HPL.out (by rw [← HL.out]; exact Nat.le_of_eq HN.out.symm)
        have h0 := HWD.out
        rw [hgk] at h0
        refine WL.setSlot (w := ({ wr with drawn := wr.drawn + 1 } : World)) h0 hp64 HV.out HC4.out ?_ (fun j hj => Or.inl (HO4.out j hj)) (fun q hq => ?_)
        · rw [slot_stay]
          exact HR4.out
        · rw [slot_stay]
          refine stay_all (fun t ht e => hq ?_)
          obtain ⟨h1, h2⟩ := slot_mem.1 ht
          exact h2.symm.trans (HPL.out t h1 e)
      have HWO : Hid (∀ j, wown whb mp (vs.set p v4) j → wown whb mp vs j) := fun j hj => by
        rcases wown_set (n := j + 1) HV.out (fun q hq => Or.inl (HO4.out q hq)) hj with h | h
        · exact h
        · omega
      have HSV : Hid (∀ j, (Value.slice aos k caps).ownBlock = some j → wown whb mp vs j) := fun j hj => Or.inr (Or.inr ⟨_, List.mem_of_getElem? HV.out, hj⟩)
      have HCY : Hid (Chg (wown whb mp vs) w (w4.setCell ⟨whb, p, none⟩ v4)) := by
        have a3 := (HT.out.chg.drewN 1).trans (HC4.out.mono (B := wown whb mp vs) (fun j _ e => HSV.out j e)) (fun _ _ e => e)
        exact a3.trans ((setCell_chg w4 whb p v4).mono (B := wown whb mp vs) (fun j _ e => Or.inl e)) (fun _ _ e => e)
      have HROW : Hid ((w4.setCell ⟨whb, p, none⟩ v4).ownsRow w.heap.size 50 4 vd (comes nw A).length (flatT (comes nw A))) := by
        have hrw := HT.out.row
        rw [List.take_of_length_le (Nat.le_of_eq HN.out.symm), HL.out, slot_comes HPL.out] at hrw
        refine ownsRow_same hrw (fun g hg => ?_)
        have hge := (ownsRow_lt hrw hg).1
        have hgl := (ownsRow_lt hrw hg).2
        have n1 : ¬ (Value.slice aos k caps).ownBlock = some g := fun e => by have := HLOW.out g (HSV.out g e); omega
        have n2 : g ≠ whb := fun e => by have := HLOW.out whb (Or.inl rfl); omega
        have h1 : w4.heap[g]? = wr.heap[g]? := HC4.out.block g hgl n1
        exact ((setCell_chg w4 whb p v4).block g (Nat.lt_of_lt_of_le hgl HC4.out.size) n2).trans h1
      clear HR4 HC4 hB4 HO4 HWD HT hv4
      generalize w4.setCell ⟨whb, p, none⟩ v4 = Z at *
      go_wp2_with fail
      go_ret
      exact ⟨_, rfl, HROW.out, vs.set p v4, HY.out, HCY.out, HWO.out⟩
end Go.Proofs.Ytmnihombiabkgaa
