import Derived.Test.YtlajcaofpmjdlaaSf3
namespace Go.Proofs.Ytlajcaofpmjdlaa
open Go.RowKit Go.PlainAid
set_option linter.unusedVariables false
set_option linter.unusedSimpArgs false
theorem size44 : (Try.prog.info? 44).map (·.size) = some 1 := by kernel_rfl
theorem size3 : (Try.prog.info? 3).map (·.size) = some 1 := by kernel_rfl
theorem own_setI {w : World} {L n g cap k : Nat} {zs : List Int} (h : w.ownsRow L 3 1 (.slice (some ⟨g, 0, none⟩) n cap) n (zs.map I)) (z : Int) :
    (w.setCell ⟨g, k, none⟩ (.int .i64 z)).ownsRow L 3 1 (.slice (some ⟨g, 0, none⟩) n cap) n ((zs.set k z).map I) ∧ w.frozen? ⟨g, k, none⟩ = false := by
  rcases h.2 with ⟨h1, _⟩ | ⟨g2, c, cur, h1, h2, h3, h4, h5, h6, h7⟩
  · cases h1
  · cases h1
    have hB : Blk w g cur 3 := h3
    refine ⟨⟨by simpa using h.1, Or.inr ⟨g, cap, cur.setIfInBounds k (.int .i64 z), rfl, h2, hB.set k _, h4, h5, by simpa using h6, ?_⟩⟩, hB.frozen k⟩
    rw [Array.toList_setIfInBounds, List.take_set, h7]
    simp only [List.map_set]
    rfl
section
variable {L pb n mark : Nat} {C : Array Value} {iv mv v : Value} {xs ys : List Value} {bs : List Int} {R : List (Ent L)}
set_option maxRecDepth 100000 in
set_option maxHeartbeats 6400000 in
theorem keepInts_any {vo : Option Addr} {vn vc : Nat} (w : World) (h : Held (boxE L pb C 66 :: tailE L 44 iv n xs :: tailE L 3 mv n ys :: intE L (.slice vo vn vc, bs) :: R) w) (hC : C.size = 14) (h2 : C[4]? = some iv) (h3 : C[5]? = some mv) (h6 : C[6]? = some (.int .i64 (mark : Int))) (hm : mark ≤ 100000) (hvl : bs.length = vn) (hvn : vn ≤ 100000) (hn : n ≤ 4) :
    Calls Try.prog 60 #[.pointer (some ⟨pb, 2, none⟩), .slice vo vn vc] w fun e w' => ∃ iv' mv' d, e = .returned (.tuple #[]) ∧ d ≤ 1 ∧ n + 1 - d ≤ 4 ∧ Held (boxE L pb (((C.setIfInBounds 6 (.int .i64 ((mark + 1 : Nat) : Int))).setIfInBounds 4 iv').setIfInBounds 5 mv') 66 :: tailE L 44 iv' (n + 1 - d) ((xs ++ [Value.slice vo vn vc]).drop d) :: tailE L 3 mv' (n + 1 - d) ((ys ++ [I (-1000 - ((mark : Int) + 1))]).drop d) :: intE L (.slice vo vn vc, List.replicate vn (-1000 - ((mark : Int) + 1))) :: R) w' ∧ Chg (fun k => k = pb ∨ iv.ownBlock = some k ∨ mv.ownBlock = some k ∨ (Value.slice vo vn vc).ownBlock = some k) w w' := by
  have hB := h.boxB
  have hLw : L ≤ w.heap.size := Nat.le_trans (h.all _ (List.mem_cons_self ..)).2 (Nat.le_of_lt hB.lt)
  have c6 : w.cell? ⟨pb, 6, none⟩ = some (.int .i64 (mark : Int)) := (hB.cell 6).trans h6
  have f6 : w.frozen? ⟨pb, 6, none⟩ = false := hB.frozen 6
  have h1 := h.boxSet 6 (.int .i64 ((mark + 1 : Nat) : Int))
  rw [show ((mark + 1 : Nat) : Int) = (mark : Int) + 1 by omega] at h1
  obtain ⟨C1, hC1⟩ : ∃ C1, C1 = C.setIfInBounds 6 (.int .i64 ((mark : Int) + 1)) := ⟨_, rfl⟩
  rw [← hC1] at h1
  have h12 : C1[4]? = some iv := by rw [hC1, Array.getElem?_setIfInBounds_ne (by omega)]; exact h2
  have h13 : C1[5]? = some mv := by rw [hC1, Array.getElem?_setIfInBounds_ne (by omega)]; exact h3
  have h16 : C1[6]? = some (.int .i64 ((mark : Int) + 1)) := by rw [hC1, Array.getElem?_setIfInBounds_self_of_lt (by omega)]
  have HI : Hid (∃ zs : List Int, zs.length = vn ∧ (∀ j, j < 0 → zs[j]? = some (-1000 - ((mark : Int) + 1))) ∧ Held (boxE L pb C1 66 :: tailE L 44 iv n xs :: tailE L 3 mv n ys :: intE L (.slice vo vn vc, zs) :: R) (w.setCell ⟨pb, 6, none⟩ (.int .i64 ((mark : Int) + 1))) ∧ Chg (fun k => k = pb ∨ (Value.slice vo vn vc).ownBlock = some k) w (w.setCell ⟨pb, 6, none⟩ (.int .i64 ((mark : Int) + 1)))) := ⟨bs, hvl, (fun j hj => by omega), h1, (setCell_chg _ _ _ _).mono (fun _ _ e => Or.inl e)⟩
  have HC1 : Hid (C1 = C.setIfInBounds 6 (.int .i64 ((mark : Int) + 1))) := hC1
  have H12 : Hid (C1[4]? = some iv) := h12
  have H13 : Hid (C1[5]? = some mv) := h13
  have H16 : Hid (C1[6]? = some (.int .i64 ((mark : Int) + 1))) := h16
  have HLW : Hid (L ≤ w.heap.size) := hLw
  clear h hB hLw h2 h3 h6 h1 hC hC1 h12 h13 h16 hvl
  go_enter Try.func60, Try.ntmps60
  go_wp2_with fail
  clear c6 f6
  go_loopw [4] (fun s4 wr => ∃ i : Nat, i ≤ vn ∧ s4 = .int .i64 (i : Int) ∧ ∃ zs : List Int, zs.length = vn ∧ (∀ j, j < i → zs[j]? = some (-1000 - ((mark : Int) + 1))) ∧ Held (boxE L pb C1 66 :: tailE L 44 iv n xs :: tailE L 3 mv n ys :: intE L (.slice vo vn vc, zs) :: R) wr ∧ Chg (fun k => k = pb ∨ (Value.slice vo vn vc).ownBlock = some k) w wr) (fun s4 _ => vn - (intOf s4).toNat)
  case atStart => exact ⟨0, by omega, rfl, HI.out⟩
  case round =>
    clear HI
    obtain ⟨i, hi, rfl, zs, hzl, hzs, hH, hch⟩ := hrel
    have c6 : wr.cell? ⟨pb, 6, none⟩ = some (.int .i64 ((mark : Int) + 1)) := (hH.boxB.cell 6).trans H16.out
    by_cases hlt : i < vn
    · have hrow : wr.ownsRow L 3 1 (.slice vo vn vc) zs.length (zs.map I) := hH.drop.drop.drop.all _ (List.mem_cons_self ..)
      rw [hzl] at hrow
      rcases id hrow.2 with ⟨e1, e2⟩ | ⟨g, c, cur, e1, hrest⟩
      · omega
      · cases e1
        obtain ⟨hset, hfr⟩ := own_setI (k := i) hrow (-1000 - ((mark : Int) + 1))
        have hcell := hrow.cells (g := g) rfl i (I (zs[i]'(by omega))) (by rw [List.getElem?_map, List.getElem?_eq_getElem (by omega)]; rfl)
        rw [addr_add, Nat.zero_add] at hcell
        obtain ⟨zb, hzb⟩ : ∃ zb, zb = I (zs[i]'(by omega)) := ⟨_, rfl⟩
        rw [← hzb] at hcell
        have hH2 : Held (boxE L pb C1 66 :: tailE L 44 iv n xs :: tailE L 3 mv n ys :: intE L (.slice (some ⟨g, 0, none⟩) vn vc, zs.set i (-1000 - ((mark : Int) + 1))) :: R) (wr.setCell ⟨g, i, none⟩ (.int .i64 (-1000 - ((mark : Int) + 1)))) := Held.at (pre := [boxE L pb C1 66, tailE L 44 iv n xs, tailE L 3 mv n ys]) (e := intE L (.slice (some ⟨g, 0, none⟩) vn vc, zs)) (e' := intE L (.slice (some ⟨g, 0, none⟩) vn vc, zs.set i (-1000 - ((mark : Int) + 1)))) hH ((setCell_chg _ _ _ _).mono (fun k _ e => by subst e; rfl)) (by show World.ownsRow _ _ _ _ _ _ _; rw [List.length_set, hzl]; exact hset) (fun k hk => Or.inl hk)
        have hch2 := hch.trans (setCell_chg wr g i (.int .i64 (-1000 - ((mark : Int) + 1)))) (fun k _ e => by subst e; exact Or.inr rfl)
        have HN : Hid _ := And.intro (show (zs.set i (-1000 - ((mark : Int) + 1))).length = vn by rw [List.length_set]; exact hzl) (And.intro (show ∀ j, j < i + 1 → (zs.set i (-1000 - ((mark : Int) + 1)))[j]? = some (-1000 - ((mark : Int) + 1)) from fun j hj => by
          by_cases e : j = i
          · subst e; rw [List.getElem?_set_self (by omega)]
          · rw [List.getElem?_set_ne (by omega)]; exact hzs j (by omega)) (And.intro hH2 hch2))
        clear hset hrow hH hch hzb hrest hH2 hch2 hzl hzs
        go_wp2_with fail
        go_roundw
        case rel => exact ⟨i + 1, by omega, by go_num, _, HN.out.1, HN.out.2.1, HN.out.2.2.1, HN.out.2.2.2⟩
        case measure => simp [intOf]; omega
    · have hin : ¬ ((i : Int) < (vn : Int)) := by omega
      have hB := hH.boxB
      have hLr : L ≤ wr.heap.size := Nat.le_trans HLW.out hch.size
      obtain ⟨bo, bc, hiv⟩ := tail_val (hH.drop.all _ (List.mem_cons_self ..) : Tail wr L 44 iv n xs)
      have c2 : wr.cell? ⟨pb, 4, none⟩ = some iv := (hB.cell 4).trans H12.out
      have hp1 : Held (tailE L 44 iv n xs :: boxE L pb C1 66 :: tailE L 3 mv n ys :: intE L (.slice vo vn vc, zs) :: R) wr := hH.perm (List.Perm.swap ..)
      obtain ⟨v2, w2, hr2, hH2, hc2, ⟨ao2, cc2, mv2⟩, hat2⟩ := hp1.tailApp (t := 62) Try.underlying62 info44 rfl (.slice vo vn vc) rfl (by omega) (by omega) (by omega)
      have hB2 : Blk w2 pb C1 66 := hH2.drop.boxB
      have d2 : w2.cell? ⟨pb, 4, none⟩ = some iv := (hB2.cell 4).trans H12.out
      have g2 : w2.frozen? ⟨pb, 4, none⟩ = false := hB2.frozen 4
      have h3 := (hH2.perm (List.Perm.swap ..)).boxSet 4 v2
      obtain ⟨CX, hCX⟩ : ∃ CX, CX = C1.setIfInBounds 4 v2 := ⟨_, rfl⟩
      rw [← hCX] at h3
      obtain ⟨X, hX⟩ : ∃ X, X = w2.setCell ⟨pb, 4, none⟩ v2 := ⟨_, rfl⟩
      rw [← hX] at h3
      have hcX : Chg (fun k => k = pb) w2 X := by rw [hX]; exact setCell_chg _ _ _ _
      have HC6 : Hid (CX[6]? = some (.int .i64 ((mark : Int) + 1))) := by rw [Hid, hCX, Array.getElem?_setIfInBounds_ne (by omega)]; exact H16.out
      have HCELL : Hid (CX[5]? = some mv) := by rw [Hid, hCX, Array.getElem?_setIfInBounds_ne (by omega)]; exact H13.out
      have HHE : Hid (Held (tailE L 3 mv n ys :: boxE L pb CX 66 :: intE L (.slice vo vn vc, zs) :: tailE L 44 v2 (n + 1) (xs ++ [.slice vo vn vc]) :: R) X) := h3.perm (by
        refine (List.Perm.cons _ (List.Perm.swap ..)).trans ?_
        refine (List.Perm.swap ..).trans ?_
        exact List.Perm.cons _ (List.Perm.cons _ (List.Perm.swap ..)))
      have HCX : Hid (X.cell? ⟨pb, 5, none⟩ = some mv ∧ X.cell? ⟨pb, 6, none⟩ = some (.int .i64 ((mark : Int) + 1))) := ⟨(h3.boxB.cell 5).trans HCELL.out, (h3.boxB.cell 6).trans HC6.out⟩
      have HLX : Hid (L ≤ X.heap.size) := Nat.le_trans hLr (Nat.le_trans hc2.size hcX.size)
      have HLIM : Hid (n < 100) := by rw [Hid]; omega
      have HCC0 : Hid (Chg (fun k => k = pb ∨ iv.ownBlock = some k ∨ mv.ownBlock = some k ∨ (Value.slice vo vn vc).ownBlock = some k) w X) := ((hch.mono (B := fun k => k = pb ∨ iv.ownBlock = some k ∨ mv.ownBlock = some k ∨ (Value.slice vo vn vc).ownBlock = some k) (fun _ _ e => e.elim Or.inl (fun e => Or.inr (Or.inr (Or.inr e))))).trans hc2 (fun _ _ e => Or.inr (Or.inl e))).trans hcX (fun _ _ e => Or.inl e)
      have HZL : Hid (zs = List.replicate vn (-1000 - ((mark : Int) + 1))) := by
        rw [Hid]
        apply List.ext_getElem?
        intro j
        rw [List.getElem?_replicate]
        by_cases hj : j < vn
        · rw [hzs j (by omega), if_pos hj]
        · rw [List.getElem?_eq_none (by omega), if_neg hj]
      have HHR : Hid (∀ ty, (Builtin.append_ #[62, 62] ty #[iv, .slice (some ⟨wr.heap.size, 0, none⟩) 1 1]).run Try.prog (wr.alloc (.cells #[.slice vo vn vc] 44)) = .ok v2 w2) := hr2
      have HV2 : Hid (v2 = .slice ao2 (n + 1) cc2) := mv2
      have HCX2 : Hid (CX = C1.setIfInBounds 4 v2) := hCX
      obtain ⟨bs, hbs⟩ : ∃ bs, bs = zs := ⟨_, rfl⟩
      subst hbs
      subst mv2
      rw [hiv] at c2 HHR d2
      clear hH hB hLr hp1 hr2 hH2 hc2 hat2 hB2 h3 hCX hcX hiv c6 hch hzl
      go_wp2_with (at_builtin; refine wpList_runs rfl _ _ 62 rfl rfl rfl HHR.out ?_)
      rw [← hX]
      clear hX c2 d2 g2 HHR
      rename_i K hK
      try rw [show ∀ a : Act, a.put none undef = a from fun _ => rfl]
      refine wp_region_mix (fun wz : World => wz.cell? ⟨pb, 5, none⟩ = some mv ∧ wz.cell? ⟨pb, 6, none⟩ = some (Value.int .i64 ((mark : Int) + 1))) (fun i => i == 10 || i == 11 || i == 14) 14 (by kernel_rfl) rfl (by kernel_rfl) (by kernel_rfl) (by kernel_rfl) ?_
      refine withFrP (N := 72) rfl ?_
      intro f0 F0 hff
      have ee0 : f0 0 = Value.pointer (some ⟨pb, 2, none⟩) := hff 0
      have ee1 : f0 1 = Value.slice vo vn vc := hff 1
      clear hff
      have HCC : (fun wz : World => wz.cell? ⟨pb, 5, none⟩ = some mv ∧ wz.cell? ⟨pb, 6, none⟩ = some (Value.int .i64 ((mark : Int) + 1))) (({ X with drawn := X.drawn + 1 } : World)) := HCX.out
      have HHX : Held (tailE L 3 mv n ys :: boxE L pb CX 66 :: intE L (Value.slice vo vn vc, bs) :: tailE L 44 (.slice ao2 (n + 1) cc2) (n + 1) (xs ++ [.slice vo vn vc]) :: R) (({ X with drawn := X.drawn + 1 } : World)) := HHE.out.keep (fun _ _ => rfl)
      refine lyp F0 rfl HCC rfl (by omega) (wanted_none rfl) (v := Value.pointer (some ⟨pb, 2, none⟩)) (fun wr hwr => by simp only [execOp, (F0.eval 0 (by omega)).trans (show _ = Value.pointer (some ⟨pb, 2, none⟩) from by simp [upd, ee0, ee1])]; first | rfl | simp [go_sem]) fun F1 => ?_
      refine lyp F1 rfl HCC rfl (by omega) (wanted_none rfl) (v := Value.pointer (some ⟨pb, 2, none⟩)) (fun wr hwr => by simp only [execOp, (F1.eval 0 (by omega)).trans (show _ = Value.pointer (some ⟨pb, 2, none⟩) from by simp [upd, ee0, ee1])]; first | rfl | simp [go_sem]) fun F2 => ?_
      refine lyp F2 rfl HCC rfl (by omega) (wanted_none rfl) (v := Value.pointer (some ⟨pb, 2, none⟩)) (fun wr hwr => by simp only [execOp, (F2.eval 37 (by omega)).trans (show _ = Value.pointer (some ⟨pb, 2, none⟩) from by simp [upd, ee0, ee1])]; simp [go_sem]) fun F3 => ?_
      refine lyp F3 rfl HCC rfl (by omega) (wanted_none rfl) (v := Value.pointer (some ⟨pb, 5, none⟩)) (fun wr hwr => by simp only [execOp, (F3.eval 38 (by omega)).trans (show _ = Value.pointer (some ⟨pb, 2, none⟩) from by simp [upd, ee0, ee1])]; simp [go_sem]) fun F4 => ?_
      refine lyp F4 rfl HCC rfl (by omega) (wanted_none rfl) (v := mv) (fun wr hwr => by simp only [execOp, (F4.eval 39 (by omega)).trans (show _ = Value.pointer (some ⟨pb, 5, none⟩) from by simp [upd, ee0, ee1])]; simp [go_sem, hwr.1]) fun F5 => ?_
      refine lyp F5 rfl HCC rfl (by omega) (wanted_none rfl) (v := Value.pointer (some ⟨pb, 2, none⟩)) (fun wr hwr => by simp only [execOp, (F5.eval 0 (by omega)).trans (show _ = Value.pointer (some ⟨pb, 2, none⟩) from by simp [upd, ee0, ee1])]; first | rfl | simp [go_sem]) fun F6 => ?_
      refine lyp F6 rfl HCC rfl (by omega) (wanted_none rfl) (v := Value.pointer (some ⟨pb, 2, none⟩)) (fun wr hwr => by simp only [execOp, (F6.eval 41 (by omega)).trans (show _ = Value.pointer (some ⟨pb, 2, none⟩) from by simp [upd, ee0, ee1])]; simp [go_sem]) fun F7 => ?_
      refine lyp F7 rfl HCC rfl (by omega) (wanted_none rfl) (v := Value.pointer (some ⟨pb, 6, none⟩)) (fun wr hwr => by simp only [execOp, (F7.eval 42 (by omega)).trans (show _ = Value.pointer (some ⟨pb, 2, none⟩) from by simp [upd, ee0, ee1])]; simp [go_sem]) fun F8 => ?_
      refine lyp F8 rfl HCC rfl (by omega) (wanted_none rfl) (v := Value.int .i64 ((mark : Int) + 1)) (fun wr hwr => by simp only [execOp, (F8.eval 43 (by omega)).trans (show _ = Value.pointer (some ⟨pb, 6, none⟩) from by simp [upd, ee0, ee1])]; simp [go_sem, hwr.2]) fun F9 => ?_
      refine lyp F9 rfl HCC rfl (by omega) (wanted_none rfl) (v := Value.int .i64 (-1000 - ((mark : Int) + 1))) (fun wr hwr => by simp only [execOp, (F9.eval 44 (by omega)).trans (show _ = Value.int .i64 ((mark : Int) + 1) from by simp [upd, ee0, ee1])]; simp [go_sem, Act.eval, show IntKind.i64.wrap (-1000 - ((mark : Int) + 1)) = (-1000 - ((mark : Int) + 1)) from by rw [IntKind.wrap_i64]; omega]) fun F10 => ?_
      refine lep F10 rfl HCC rfl (by omega) (wanted_none rfl) (v := Value.slice (some ⟨X.heap.size, 0, none⟩) 1 1) (w1 := ((({ X with drawn := X.drawn + 1 } : World)).alloc (.cells #[Value.int .i64 (-1000 - ((mark : Int) + 1))] 3))) (by simp only [execOp, List.map_toArray, List.map_cons, List.map_nil, (F10.eval 45 (by omega)).trans (show _ = Value.int .i64 (-1000 - ((mark : Int) + 1)) from by simp [upd, ee0, ee1])]; simp [go_sem]) fun F11 => ?_
      have hbY : Below X.heap.size (({ X with drawn := X.drawn + 1 } : World)) ((({ X with drawn := X.drawn + 1 } : World)).alloc (.cells #[Value.int .i64 (-1000 - ((mark : Int) + 1))] 3)) := Below.alloc (Below.refl X.heap.size (({ X with drawn := X.drawn + 1 } : World))) (show X.heap.size ≤ (({ X with drawn := X.drawn + 1 } : World)).heap.size from Nat.le_refl _) _
      have HCY : (fun wz : World => wz.cell? ⟨pb, 5, none⟩ = some mv ∧ wz.cell? ⟨pb, 6, none⟩ = some (Value.int .i64 ((mark : Int) + 1))) ((({ X with drawn := X.drawn + 1 } : World)).alloc (.cells #[Value.int .i64 (-1000 - ((mark : Int) + 1))] 3)) := ⟨(hbY.cell (World.block_lt_of_cell? _ _ HCC.1)).trans HCC.1, (hbY.cell (World.block_lt_of_cell? _ _ HCC.2)).trans HCC.2⟩
      obtain ⟨v8, w8, hr8, hH8, hc8, ⟨ao8, c8, hv8⟩, hat8⟩ := HHX.tailApp (t := 44) Try.underlying44 info3 rfl (Value.int .i64 (-1000 - ((mark : Int) + 1))) rfl (by have := HLIM.out; omega) (by have := HLIM.out; omega) HLX.out
      replace hr8 : ∀ ty, (Builtin.append_ #[44, 44] ty #[mv, .slice (some ⟨X.heap.size, 0, none⟩) 1 1]).run Try.prog ((({ X with drawn := X.drawn + 1 } : World)).alloc (.cells #[Value.int .i64 (-1000 - ((mark : Int) + 1))] 3)) = .ok v8 w8 := hr8
      have hB8 : Blk w8 pb CX 66 := hH8.drop.boxB
      have HC9 : (fun wz : World => wz.cell? ⟨pb, 5, none⟩ = some mv ∧ wz.cell? ⟨pb, 6, none⟩ = some (Value.int .i64 ((mark : Int) + 1))) w8 := ⟨(hB8.cell 5).trans HCELL.out, (hB8.cell 6).trans HC6.out⟩
      subst hv8
      refine lep F11 rfl HCY rfl (by omega) (wanted_none rfl) (v := Value.slice ao8 (n + 1) c8) (w1 := w8) (by simp only [execOp, resolve, invoke, builtin, List.map_toArray, List.map_cons, List.map_nil, (F11.eval 40 (by omega)).trans (show _ = mv from by simp [upd, ee0, ee1]), (F11.eval 46 (by omega)).trans (show _ = Value.slice (some ⟨X.heap.size, 0, none⟩) 1 1 from by simp [upd, ee0, ee1])]; simp only [Sem.run_bind, Sem.run_pure, Result.andThen_ok, hr8]; try rfl) fun F12 => ?_
      refine lyp F12 rfl HC9 rfl (by omega) (wanted_none rfl) (v := Value.pointer (some ⟨pb, 2, none⟩)) (fun wr hwr => by simp only [execOp, (F12.eval 36 (by omega)).trans (show _ = Value.pointer (some ⟨pb, 2, none⟩) from by simp [upd, ee0, ee1])]; simp [go_sem]) fun F13 => ?_
      refine lyp F13 rfl HC9 rfl (by omega) (wanted_none rfl) (v := Value.pointer (some ⟨pb, 5, none⟩)) (fun wr hwr => by simp only [execOp, (F13.eval 48 (by omega)).trans (show _ = Value.pointer (some ⟨pb, 2, none⟩) from by simp [upd, ee0, ee1])]; simp [go_sem]) fun F14 => ?_
      refine lst rfl HC9 rfl (wanted_none rfl) (w1 := w8.setCell ⟨pb, 5, none⟩ (.slice ao8 (n + 1) c8)) (by simp only [execOp, (F14.eval 49 (by omega)).trans (show _ = Value.pointer (some ⟨pb, 5, none⟩) from by simp [upd, ee0, ee1]), (F14.eval 47 (by omega)).trans (show _ = Value.slice ao8 (n + 1) c8 from by simp [upd, ee0, ee1])]; simp [go_sem, hB8.frozen 5, show w8.cell? ⟨pb, 5, none⟩ = some mv from HC9.1]) ?_
      refine ⟨fun h => by omega, ?_⟩
      refine hK _ _ ?_
      clear F0 F1 F2 F3 F4 F5 F6 F7 F8 F9 F10 F11 F12 F13 F14 ee0 ee1 HCC HCY HC9
      simp only [Act.put, List.setIfInBounds_toArray, List.set_cons_succ, List.set_cons_zero]
      have HP : Hid (Held (boxE L pb (CX.setIfInBounds 5 (.slice ao8 (n + 1) c8)) 66 :: tailE L 44 (.slice ao2 (n + 1) cc2) (n + 1) (xs ++ [.slice vo vn vc]) :: tailE L 3 (.slice ao8 (n + 1) c8) (n + 1) (ys ++ [I (-1000 - ((mark : Int) + 1))]) :: intE L (.slice vo vn vc, List.replicate vn (-1000 - ((mark : Int) + 1))) :: R) (w8.setCell ⟨pb, 5, none⟩ (.slice ao8 (n + 1) c8)) ∧ Chg (fun k => k = pb ∨ iv.ownBlock = some k ∨ mv.ownBlock = some k ∨ (Value.slice vo vn vc).ownBlock = some k) w (w8.setCell ⟨pb, 5, none⟩ (.slice ao8 (n + 1) c8))) := by
        rw [HZL.out] at hH8
        refine ⟨((hH8.perm (List.Perm.swap ..)).boxSet 5 (.slice ao8 (n + 1) c8)).perm ?_, (HCC0.out.drewN 1 |>.trans hc8 (fun _ _ e => Or.inr (Or.inr (Or.inl e)))).trans (setCell_chg _ _ _ _) (fun _ _ e => Or.inl e)⟩
        refine List.Perm.cons _ ?_
        refine (List.Perm.cons _ (List.Perm.swap ..)).trans ?_
        exact List.Perm.swap ..
      obtain ⟨w9, hw9⟩ : ∃ w9, w9 = w8.setCell ⟨pb, 5, none⟩ (.slice ao8 (n + 1) c8) := ⟨_, rfl⟩
      rw [← hw9] at HP ⊢
      have hCs : CX.size = C1.size := by rw [HCX2.out]; simp
      have hCsz : C1.size = C.size := by rw [HC1.out]; simp
      have hC7 : 7 ≤ C1.size := by have := (Array.getElem?_eq_some_iff.1 H16.out).1; omega
      have e2 : w9.cell? ⟨pb, 4, none⟩ = some (.slice ao2 (n + 1) cc2) := (HP.out.1.boxB.cell 4).trans (by rw [Array.getElem?_setIfInBounds_ne (by omega), HCX2.out, Array.getElem?_setIfInBounds_self_of_lt (by omega)])
      have e3 : w9.cell? ⟨pb, 5, none⟩ = some (.slice ao8 (n + 1) c8) := (HP.out.1.boxB.cell 5).trans (by rw [Array.getElem?_setIfInBounds_self_of_lt (by omega)])
      have g2 : w9.frozen? ⟨pb, 4, none⟩ = false := HP.out.1.boxB.frozen 4
      have g3 : w9.frozen? ⟨pb, 5, none⟩ = false := HP.out.1.boxB.frozen 5
      clear hr8 hH8 hc8 hat8 hB8 hbY HHX HHE HCX hw9
      have HCE : Hid (CX.setIfInBounds 5 (.slice ao8 (n + 1) c8) = ((C.setIfInBounds 6 (.int .i64 ((mark + 1 : Nat) : Int))).setIfInBounds 4 (.slice ao2 (n + 1) cc2)).setIfInBounds 5 (.slice ao8 (n + 1) c8)) := by rw [Hid, HCX2.out, HC1.out, show ((mark + 1 : Nat) : Int) = (mark : Int) + 1 by omega]
      by_cases h4 : n = 4
      · subst h4
        have hT2 : Tail w9 L 44 (.slice ao2 (4 + 1) cc2) (4 + 1) (xs ++ [.slice vo vn vc]) := HP.out.1.drop.all _ (List.mem_cons_self ..)
        have hT8 : Tail w9 L 3 (.slice ao8 (4 + 1) c8) (4 + 1) (ys ++ [I (-1000 - ((mark : Int) + 1))]) := HP.out.1.drop.drop.all _ (List.mem_cons_self ..)
        obtain ⟨gb, ob, hao2, hcc2⟩ : ∃ gb ob, ao2 = some ⟨gb, ob, none⟩ ∧ 5 ≤ cc2 := by
          rcases hT2.2 with ⟨e1, e2⟩ | ⟨g', off', cap', e1, _, _, hle, _⟩
          · cases e1
          · cases e1; exact ⟨g', off', rfl, hle⟩
        obtain ⟨gh, oh, hao8, hc8⟩ : ∃ gb ob, ao8 = some ⟨gb, ob, none⟩ ∧ 5 ≤ c8 := by
          rcases hT8.2 with ⟨e1, e2⟩ | ⟨g', off', cap', e1, _, _, hle, _⟩
          · cases e1
          · cases e1; exact ⟨g', off', rfl, hle⟩
        subst hao2
        subst hao8
        have hs1 := slice_one 62 44 Try.underlying62 size44 gb ob 5 cc2 (by omega) (by omega) w9
        have hA : Held (boxE L pb ((CX.setIfInBounds 5 (.slice (some ⟨gh, oh, none⟩) (4 + 1) c8)).setIfInBounds 4 (.slice (some ⟨gb, ob + 1, none⟩) 4 (cc2 - 1))) 66 :: tailE L 44 (.slice (some ⟨gb, ob + 1, none⟩) 4 (cc2 - 1)) 4 ((xs ++ [Value.slice vo vn vc]).drop 1) :: tailE L 3 (.slice (some ⟨gh, oh, none⟩) (4 + 1) c8) (4 + 1) (ys ++ [I (-1000 - ((mark : Int) + 1))]) :: intE L (.slice vo vn vc, List.replicate vn (-1000 - ((mark : Int) + 1))) :: R) (w9.setCell ⟨pb, 4, none⟩ (.slice (some ⟨gb, ob + 1, none⟩) 4 (cc2 - 1))) := by
          have hx := HP.out.1.boxSet 4 (.slice (some ⟨gb, ob + 1, none⟩) 4 (cc2 - 1))
          have hT : Tail (w9.setCell ⟨pb, 4, none⟩ (.slice (some ⟨gb, ob + 1, none⟩) 4 (cc2 - 1))) L 44 (.slice (some ⟨gb, ob, none⟩) (4 + 1) cc2) (4 + 1) (xs ++ [.slice vo vn vc]) := hx.drop.all _ (List.mem_cons_self ..)
          exact Held.at (pre := [boxE L pb ((CX.setIfInBounds 5 (.slice (some ⟨gh, oh, none⟩) (4 + 1) c8)).setIfInBounds 4 (.slice (some ⟨gb, ob + 1, none⟩) 4 (cc2 - 1))) 66]) (e := tailE L 44 (.slice (some ⟨gb, ob, none⟩) (4 + 1) cc2) (4 + 1) (xs ++ [Value.slice vo vn vc])) (e' := tailE L 44 (.slice (some ⟨gb, ob + 1, none⟩) 4 (cc2 - 1)) 4 ((xs ++ [Value.slice vo vn vc]).drop 1)) hx (Chg.refl _ _) (tail_drop1 hT (by omega)) (fun k hk => Or.inl hk)
        obtain ⟨wA, hwA⟩ : ∃ wA, wA = w9.setCell ⟨pb, 4, none⟩ (.slice (some ⟨gb, ob + 1, none⟩) 4 (cc2 - 1)) := ⟨_, rfl⟩
        have hs2 := slice_one 44 3 Try.underlying44 size3 gh oh 5 c8 (by omega) (by omega) (w9.setCell ⟨pb, 4, none⟩ (.slice (some ⟨gb, ob + 1, none⟩) 4 (cc2 - 1)))
        have hA2 : Held (boxE L pb (((CX.setIfInBounds 5 (.slice (some ⟨gh, oh, none⟩) (4 + 1) c8)).setIfInBounds 4 (.slice (some ⟨gb, ob + 1, none⟩) 4 (cc2 - 1))).setIfInBounds 5 (.slice (some ⟨gh, oh + 1, none⟩) 4 (c8 - 1))) 66 :: tailE L 44 (.slice (some ⟨gb, ob + 1, none⟩) 4 (cc2 - 1)) 4 ((xs ++ [Value.slice vo vn vc]).drop 1) :: tailE L 3 (.slice (some ⟨gh, oh + 1, none⟩) 4 (c8 - 1)) 4 ((ys ++ [I (-1000 - ((mark : Int) + 1))]).drop 1) :: intE L (.slice vo vn vc, List.replicate vn (-1000 - ((mark : Int) + 1))) :: R) ((w9.setCell ⟨pb, 4, none⟩ (.slice (some ⟨gb, ob + 1, none⟩) 4 (cc2 - 1))).setCell ⟨pb, 5, none⟩ (.slice (some ⟨gh, oh + 1, none⟩) 4 (c8 - 1))) := by
          have hx := hA.boxSet 5 (.slice (some ⟨gh, oh + 1, none⟩) 4 (c8 - 1))
          have hT : Tail ((w9.setCell ⟨pb, 4, none⟩ (.slice (some ⟨gb, ob + 1, none⟩) 4 (cc2 - 1))).setCell ⟨pb, 5, none⟩ (.slice (some ⟨gh, oh + 1, none⟩) 4 (c8 - 1))) L 3 (.slice (some ⟨gh, oh, none⟩) (4 + 1) c8) (4 + 1) (ys ++ [I (-1000 - ((mark : Int) + 1))]) := hx.drop.drop.all _ (List.mem_cons_self ..)
          exact Held.at (pre := [boxE L pb (((CX.setIfInBounds 5 (.slice (some ⟨gh, oh, none⟩) (4 + 1) c8)).setIfInBounds 4 (.slice (some ⟨gb, ob + 1, none⟩) 4 (cc2 - 1))).setIfInBounds 5 (.slice (some ⟨gh, oh + 1, none⟩) 4 (c8 - 1))) 66, tailE L 44 (.slice (some ⟨gb, ob + 1, none⟩) 4 (cc2 - 1)) 4 ((xs ++ [Value.slice vo vn vc]).drop 1)]) (e := tailE L 3 (.slice (some ⟨gh, oh, none⟩) (4 + 1) c8) (4 + 1) (ys ++ [I (-1000 - ((mark : Int) + 1))])) (e' := tailE L 3 (.slice (some ⟨gh, oh + 1, none⟩) 4 (c8 - 1)) 4 ((ys ++ [I (-1000 - ((mark : Int) + 1))]).drop 1)) hx (Chg.refl _ _) (tail_drop1 hT (by omega)) (fun k hk => Or.inl hk)
        have HF : Hid (Held (boxE L pb (((C.setIfInBounds 6 (.int .i64 ((mark + 1 : Nat) : Int))).setIfInBounds 4 (.slice (some ⟨gb, ob + 1, none⟩) 4 (cc2 - 1))).setIfInBounds 5 (.slice (some ⟨gh, oh + 1, none⟩) 4 (c8 - 1))) 66 :: tailE L 44 (.slice (some ⟨gb, ob + 1, none⟩) 4 (cc2 - 1)) 4 ((xs ++ [Value.slice vo vn vc]).drop 1) :: tailE L 3 (.slice (some ⟨gh, oh + 1, none⟩) 4 (c8 - 1)) 4 ((ys ++ [I (-1000 - ((mark : Int) + 1))]).drop 1) :: intE L (.slice vo vn vc, List.replicate vn (-1000 - ((mark : Int) + 1))) :: R) ((w9.setCell ⟨pb, 4, none⟩ (.slice (some ⟨gb, ob + 1, none⟩) 4 (cc2 - 1))).setCell ⟨pb, 5, none⟩ (.slice (some ⟨gh, oh + 1, none⟩) 4 (c8 - 1))) ∧ Chg (fun k => k = pb ∨ iv.ownBlock = some k ∨ mv.ownBlock = some k ∨ (Value.slice vo vn vc).ownBlock = some k) w ((w9.setCell ⟨pb, 4, none⟩ (.slice (some ⟨gb, ob + 1, none⟩) 4 (cc2 - 1))).setCell ⟨pb, 5, none⟩ (.slice (some ⟨gh, oh + 1, none⟩) 4 (c8 - 1)))) := by
          refine ⟨?_, (HP.out.2.trans (setCell_chg _ _ _ _) (fun _ _ e => Or.inl e)).trans (setCell_chg _ _ _ _) (fun _ _ e => Or.inl e)⟩
          rw [HCE.out] at hA2
          have harr : ∀ (A : Array Value) (a b c d : Value), (((A.setIfInBounds 4 a).setIfInBounds 5 b).setIfInBounds 4 c).setIfInBounds 5 d = (A.setIfInBounds 4 c).setIfInBounds 5 d := fun A a b c d => by
            apply Array.ext_getElem?
            intro j
            simp only [Array.getElem?_setIfInBounds, Array.size_setIfInBounds]
            split
            · rfl
            · split
              · rfl
              · rfl
          rw [harr] at hA2
          exact hA2
        clear HP hT2 hT8 hA hA2 hwA
        go_wp2_with fail
        refine bodyPost_end (results_none rfl _ _ _) rfl ?_
        have hF1 := HF.out.1
        have hF2 := HF.out.1
        rw [show ((mark + 1 : Nat) : Int) = (mark : Int) + 1 by omega] at hF2
        first
          | exact ⟨_, _, 1, rfl, by omega, by omega, hF1, HF.out.2⟩
          | exact ⟨_, _, 1, rfl, by omega, by omega, hF2, HF.out.2⟩
          | exact ⟨rfl, _, _, 1, by omega, by omega, hF1, HF.out.2⟩
          | exact ⟨rfl, _, _, 1, by omega, by omega, hF2, HF.out.2⟩
      · have h4' : ¬ (4 : Int) < (n : Int) + 1 := by omega
        have HF : Hid _ := HP.out
        clear HP
        go_wp2_with fail
        refine bodyPost_end (results_none rfl _ _ _) rfl ?_
        refine ⟨rfl, .slice ao2 (n + 1) cc2, .slice ao8 (n + 1) c8, 0, by omega, by omega, ?_, HF.out.2⟩
        have h5 := HF.out.1
        rw [HCE.out] at h5
        first
          | exact h5
          | (rw [show ((mark + 1 : Nat) : Int) = (mark : Int) + 1 by omega] at h5; exact h5)
end
end Go.Proofs.Ytlajcaofpmjdlaa
