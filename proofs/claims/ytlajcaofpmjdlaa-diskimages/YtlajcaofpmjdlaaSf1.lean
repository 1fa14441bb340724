import Derived.Test.YtlajcaofpmjdlaaSf0
namespace Go.Proofs.Ytlajcaofpmjdlaa
open Go.RowKit Go.PlainAid
set_option linter.unusedVariables false
set_option linter.unusedSimpArgs false
theorem info9 : (Try.prog.info? 9).map (fun i => (i.zero, i.size, i.bytes)) = some (some (.string ByteArray.empty), 1, 16) := by kernel_rfl
section
variable {L pb n size : Nat} {C : Array Value} {lv wv v : Value} {xs ys : List Value} {bs : List UInt8} {R : List (Ent L)}
set_option maxRecDepth 100000 in
set_option maxHeartbeats 1600000 in
theorem leave_no {vo : Option Addr} {vn vc : Nat} {lo : Option Addr} {lc : Nat} (w : World) (h : Blk w pb C 66) (h7 : C[7]? = some (.slice lo n lc)) (h11 : C[11]? = some (.int .i64 (size : Int))) (hs : size ≤ 4194304) (hvn : vn ≤ 1000000000) (hno : 4194304 - size < vn ∨ 100 ≤ n) :
    Calls Try.prog 56 #[.pointer (some ⟨pb, 2, none⟩), .slice vo vn vc] w fun e w' => e = .returned (.bool false) ∧ w' = w := by
  have c7 : w.cell? ⟨pb, 7, none⟩ = some (.slice lo n lc) := (h.cell 7).trans h7
  have c11 : w.cell? ⟨pb, 11, none⟩ = some (.int .i64 (size : Int)) := (h.cell 11).trans h11
  clear h h7 h11
  by_cases h1 : 4194304 - size < vn
  · have h1' : 4194304 - (size : Int) < (vn : Int) := by omega
    go_enter Try.func56, Try.ntmps56
    go_wp2_with fail
    go_ret
    exact ⟨rfl, rfl⟩
  · have h1' : ¬ 4194304 - (size : Int) < (vn : Int) := by omega
    have h2' : (100 : Int) ≤ (n : Int) := by omega
    go_enter Try.func56, Try.ntmps56
    go_wp2_with fail
    go_ret
    exact ⟨rfl, rfl⟩
set_option maxRecDepth 100000 in
set_option maxHeartbeats 3200000 in
theorem leave_yes {vo : Option Addr} {vn vc : Nat} (w : World) (h : Held (boxE L pb C 66 :: tailE L 30 lv n xs :: tailE L 9 wv n ys :: datE L (.slice vo vn vc, bs) :: R) w) (hC : C.size = 14) (h7 : C[7]? = some lv) (h8 : C[8]? = some wv) (h11 : C[11]? = some (.int .i64 (size : Int))) (hs : size ≤ 4194304) (hvl : bs.length = vn) (hvn : vn ≤ 4194304 - size) (hn : n < 100) :
    Calls Try.prog 56 #[.pointer (some ⟨pb, 2, none⟩), .slice vo vn vc] w fun e w' => ∃ lv' wv', e = .returned (.bool true) ∧ Held (boxE L pb (((C.setIfInBounds 11 (.int .i64 ((size + vn : Nat) : Int))).setIfInBounds 7 lv').setIfInBounds 8 wv') 66 :: tailE L 30 lv' (n + 1) (xs ++ [.slice vo vn vc]) :: tailE L 9 wv' (n + 1) (ys ++ [strV bs]) :: datE L (.slice vo vn vc, bs) :: R) w' ∧ Chg (fun k => k = pb ∨ lv.ownBlock = some k ∨ wv.ownBlock = some k) w w' := by
  have hB := h.boxB
  have hLw : L ≤ w.heap.size := Nat.le_trans (h.all _ (List.mem_cons_self ..)).2 (Nat.le_of_lt hB.lt)
  obtain ⟨lo, lc, hlv⟩ := tail_val (h.drop.all _ (List.mem_cons_self ..) : Tail w L 30 lv n xs)
  have c7 : w.cell? ⟨pb, 7, none⟩ = some lv := (hB.cell 7).trans h7
  have c11 : w.cell? ⟨pb, 11, none⟩ = some (.int .i64 (size : Int)) := (hB.cell 11).trans h11
  have f11 : w.frozen? ⟨pb, 11, none⟩ = false := hB.frozen 11
  have h1 := h.boxSet 11 (.int .i64 ((size + vn : Nat) : Int))
  rw [show ((size + vn : Nat) : Int) = (size : Int) + (vn : Int) by omega] at h1
  obtain ⟨C1, hC1⟩ : ∃ C1, C1 = C.setIfInBounds 11 (.int .i64 ((size : Int) + (vn : Int))) := ⟨_, rfl⟩
  rw [← hC1] at h1
  have h17 : C1[7]? = some lv := by rw [hC1, Array.getElem?_setIfInBounds_ne (by omega)]; exact h7
  have h18 : C1[8]? = some wv := by rw [hC1, Array.getElem?_setIfInBounds_ne (by omega)]; exact h8
  have hC1s : C1.size = 14 := by rw [hC1]; simpa using hC
  obtain ⟨w1, hw1⟩ : ∃ w1, w1 = w.setCell ⟨pb, 11, none⟩ (.int .i64 ((size : Int) + (vn : Int))) := ⟨_, rfl⟩
  rw [← hw1] at h1
  have hs1 : w1.heap.size = w.heap.size := by rw [hw1]; simp [World.setCell]
  have hc1 : Chg (fun k => k = pb) w w1 := by rw [hw1]; exact setCell_chg _ _ _ _
  have hp1 : Held (tailE L 30 lv n xs :: boxE L pb C1 66 :: tailE L 9 wv n ys :: datE L (.slice vo vn vc, bs) :: R) w1 := h1.perm (List.Perm.swap ..)
  obtain ⟨v2, w2, hr2, hH2, hc2, ⟨ao2, cc2, hv2⟩, hat2⟩ := hp1.tailApp (t := 29) Try.underlying29 info30 rfl (.slice vo vn vc) rfl (by omega) (by omega) (by omega)
  have hB2 : Blk w2 pb C1 66 := hH2.drop.boxB
  have d7 : w2.cell? ⟨pb, 7, none⟩ = some lv := (hB2.cell 7).trans h17
  have g7 : w2.frozen? ⟨pb, 7, none⟩ = false := hB2.frozen 7
  have h3 := (hH2.perm (List.Perm.swap ..)).boxSet 7 v2
  obtain ⟨CX, hCX⟩ : ∃ CX, CX = C1.setIfInBounds 7 v2 := ⟨_, rfl⟩
  rw [← hCX] at h3
  obtain ⟨X, hX⟩ : ∃ X, X = w2.setCell ⟨pb, 7, none⟩ v2 := ⟨_, rfl⟩
  rw [← hX] at h3
  have hcX : Chg (fun k => k = pb) w2 X := by rw [hX]; exact setCell_chg _ _ _ _
  have HCELL : Hid (CX[8]? = some wv) := by rw [Hid, hCX, Array.getElem?_setIfInBounds_ne (by omega)]; exact h18
  have HHE : Hid (Held (tailE L 9 wv n ys :: boxE L pb CX 66 :: datE L (.slice vo vn vc, bs) :: tailE L 30 v2 (n + 1) (xs ++ [.slice vo vn vc]) :: R) X) := h3.perm (by
    refine (List.Perm.cons _ (List.Perm.swap ..)).trans ?_
    refine (List.Perm.swap ..).trans ?_
    exact List.Perm.cons _ (List.Perm.cons _ (List.Perm.swap ..)))
  have HCX : Hid (X.cell? ⟨pb, 8, none⟩ = some wv ∧ By X (.slice vo vn vc) bs) := ⟨(h3.boxB.cell 8).trans HCELL.out, own_by (HHE.out.drop.drop.all _ (List.mem_cons_self ..))⟩
  have HLX : Hid (L ≤ X.heap.size) := Nat.le_trans hLw (Nat.le_trans hc1.size (Nat.le_trans hc2.size hcX.size))
  have HLIM : Hid (n < 100) := hn
  have HCC0 : Hid (Chg (fun k => k = pb ∨ lv.ownBlock = some k ∨ wv.ownBlock = some k) w X) := ((hc1.mono (fun _ _ e => Or.inl e)).trans hc2 (fun _ _ e => Or.inr (Or.inl e))).trans hcX (fun _ _ e => Or.inl e)
  have HCE : Hid (CX = (C.setIfInBounds 11 (.int .i64 ((size + vn : Nat) : Int))).setIfInBounds 7 v2) := by rw [Hid, hCX, hC1, show ((size + vn : Nat) : Int) = (size : Int) + (vn : Int) by omega]
  have HV2 : Hid (v2 = .slice ao2 (n + 1) cc2) := hv2
  rw [hs1, hw1] at hr2
  have HHR : Hid (∀ ty, (Builtin.append_ #[29, 29] ty #[lv, .slice (some ⟨w.heap.size, 0, none⟩) 1 1]).run Try.prog ((w.setCell ⟨pb, 11, none⟩ (.int .i64 ((size : Int) + (vn : Int)))).alloc (.cells #[.slice vo vn vc] 30)) = .ok v2 w2) := hr2
  have h1' : ¬ 4194304 - (size : Int) < (vn : Int) := by omega
  have h2' : ¬ (100 : Int) ≤ (n : Int) := by omega
  obtain ⟨R0, hR0⟩ : ∃ R0 : List (Ent L), R0 = R := ⟨_, rfl⟩
  have HR0 : Hid (R0 = R) := hR0
  subst hv2
  rw [hlv] at c7 HHR d7
  have HLV : Hid (lv = .slice lo n lc) := hlv
  clear h hB hLw h7 h8 h11 h1 hC hC1 h17 h18 hC1s hs1 hc1 hp1 hr2 hH2 hc2 hat2 hB2 h3 hCX hcX hR0 hlv
  clear hw1
  go_enter Try.func56, Try.ntmps56
  go_wp2_with (at_builtin; refine wpList_runs rfl _ _ 29 rfl rfl rfl HHR.out ?_)
  rw [← hX]
  clear hX c7 c11 f11 d7 g7 HHR
  rename_i K hK
  try rw [show ∀ a : Act, a.put none undef = a from fun _ => rfl]
  refine wp_region_mix (fun wz : World => wz.cell? ⟨pb, 8, none⟩ = some wv ∧ By wz (Value.slice vo vn vc) bs) (fun i => i == 7 || i == 8 || i == 11) 11 (by kernel_rfl) rfl (by kernel_rfl) (by kernel_rfl) (by kernel_rfl) ?_
  refine withFrP (N := 52) rfl ?_
  intro f0 F0 hff
  have ee0 : f0 0 = Value.pointer (some ⟨pb, 2, none⟩) := hff 0
  have ee1 : f0 1 = Value.slice vo vn vc := hff 1
  clear hff
  have HCC : (fun wz : World => wz.cell? ⟨pb, 8, none⟩ = some wv ∧ By wz (Value.slice vo vn vc) bs) (({ X with drawn := X.drawn + 1 } : World)) := HCX.out
  have HHX : Held (tailE L 9 wv n ys :: boxE L pb CX 66 :: datE L (Value.slice vo vn vc, bs) :: tailE L 30 (.slice ao2 (n + 1) cc2) (n + 1) (xs ++ [.slice vo vn vc]) :: R) (({ X with drawn := X.drawn + 1 } : World)) := HHE.out.keep (fun _ _ => rfl)
  refine lyp F0 rfl HCC rfl (by omega) (wanted_none rfl) (v := Value.pointer (some ⟨pb, 2, none⟩)) (fun wr hwr => by simp only [execOp, (F0.eval 0 (by omega)).trans (show _ = Value.pointer (some ⟨pb, 2, none⟩) from by simp [upd, ee0, ee1])]; first | rfl | simp [go_sem]) fun F1 => ?_
  refine lyp F1 rfl HCC rfl (by omega) (wanted_none rfl) (v := Value.pointer (some ⟨pb, 2, none⟩)) (fun wr hwr => by simp only [execOp, (F1.eval 0 (by omega)).trans (show _ = Value.pointer (some ⟨pb, 2, none⟩) from by simp [upd, ee0, ee1])]; first | rfl | simp [go_sem]) fun F2 => ?_
  refine lyp F2 rfl HCC rfl (by omega) (wanted_none rfl) (v := Value.pointer (some ⟨pb, 2, none⟩)) (fun wr hwr => by simp only [execOp, (F2.eval 42 (by omega)).trans (show _ = Value.pointer (some ⟨pb, 2, none⟩) from by simp [upd, ee0, ee1])]; simp [go_sem]) fun F3 => ?_
  refine lyp F3 rfl HCC rfl (by omega) (wanted_none rfl) (v := Value.pointer (some ⟨pb, 8, none⟩)) (fun wr hwr => by simp only [execOp, (F3.eval 43 (by omega)).trans (show _ = Value.pointer (some ⟨pb, 2, none⟩) from by simp [upd, ee0, ee1])]; simp [go_sem]) fun F4 => ?_
  refine lyp F4 rfl HCC rfl (by omega) (wanted_none rfl) (v := wv) (fun wr hwr => by simp only [execOp, (F4.eval 44 (by omega)).trans (show _ = Value.pointer (some ⟨pb, 8, none⟩) from by simp [upd, ee0, ee1])]; simp [go_sem, hwr.1]) fun F5 => ?_
  refine lyp F5 rfl HCC rfl (by omega) (wanted_none rfl) (v := Value.slice vo vn vc) (fun wr hwr => by simp only [execOp, (F5.eval 1 (by omega)).trans (show _ = Value.slice vo vn vc from by simp [upd, ee0, ee1])]; first | rfl | simp [go_sem]) fun F6 => ?_
  refine lyp F6 rfl HCC rfl (by omega) (wanted_none rfl) (v := Value.string ⟨bs.toArray⟩) (fun wr hwr => by simp only [execOp, (F6.eval 46 (by omega)).trans (show _ = Value.slice vo vn vc from by simp [upd, ee0, ee1])]; simp only [conv_run hwr.2, Sem.run_bind, Result.andThen_ok, Sem.run_pure]) fun F7 => ?_
  refine lep F7 rfl HCC rfl (by omega) (wanted_none rfl) (v := Value.slice (some ⟨X.heap.size, 0, none⟩) 1 1) (w1 := ((({ X with drawn := X.drawn + 1 } : World)).alloc (.cells #[Value.string ⟨bs.toArray⟩] 9))) (by simp only [execOp, List.map_toArray, List.map_cons, List.map_nil, (F7.eval 47 (by omega)).trans (show _ = Value.string ⟨bs.toArray⟩ from by simp [upd, ee0, ee1])]; simp [go_sem]) fun F8 => ?_
  have hbY : Below X.heap.size (({ X with drawn := X.drawn + 1 } : World)) ((({ X with drawn := X.drawn + 1 } : World)).alloc (.cells #[Value.string ⟨bs.toArray⟩] 9)) := Below.alloc (Below.refl X.heap.size (({ X with drawn := X.drawn + 1 } : World))) (show X.heap.size ≤ (({ X with drawn := X.drawn + 1 } : World)).heap.size from Nat.le_refl _) _
  have HCY : (fun wz : World => wz.cell? ⟨pb, 8, none⟩ = some wv ∧ By wz (Value.slice vo vn vc) bs) ((({ X with drawn := X.drawn + 1 } : World)).alloc (.cells #[Value.string ⟨bs.toArray⟩] 9)) := ⟨(hbY.cell (World.block_lt_of_cell? _ _ HCC.1)).trans HCC.1, HCC.2.keep hbY⟩
  obtain ⟨v8, w8, hr8, hH8, hc8, ⟨ao8, c8, hv8⟩, hat8⟩ := HHX.tailApp (t := 61) Try.underlying61 info9 rfl (Value.string ⟨bs.toArray⟩) rfl (by have := HLIM.out; omega) (by have := HLIM.out; omega) HLX.out
  replace hr8 : ∀ ty, (Builtin.append_ #[61, 61] ty #[wv, .slice (some ⟨X.heap.size, 0, none⟩) 1 1]).run Try.prog ((({ X with drawn := X.drawn + 1 } : World)).alloc (.cells #[Value.string ⟨bs.toArray⟩] 9)) = .ok v8 w8 := hr8
  have hB8 : Blk w8 pb CX 66 := hH8.drop.boxB
  have HC9 : (fun wz : World => wz.cell? ⟨pb, 8, none⟩ = some wv ∧ By wz (Value.slice vo vn vc) bs) w8 := ⟨(hB8.cell 8).trans HCELL.out, own_by (hH8.drop.drop.all _ (List.mem_cons_self ..))⟩
  subst hv8
  refine lep F8 rfl HCY rfl (by omega) (wanted_none rfl) (v := Value.slice ao8 (n + 1) c8) (w1 := w8) (by simp only [execOp, resolve, invoke, builtin, List.map_toArray, List.map_cons, List.map_nil, (F8.eval 45 (by omega)).trans (show _ = wv from by simp [upd, ee0, ee1]), (F8.eval 48 (by omega)).trans (show _ = Value.slice (some ⟨X.heap.size, 0, none⟩) 1 1 from by simp [upd, ee0, ee1])]; simp only [Sem.run_bind, Sem.run_pure, Result.andThen_ok, hr8]; try rfl) fun F9 => ?_
  refine lyp F9 rfl HC9 rfl (by omega) (wanted_none rfl) (v := Value.pointer (some ⟨pb, 2, none⟩)) (fun wr hwr => by simp only [execOp, (F9.eval 41 (by omega)).trans (show _ = Value.pointer (some ⟨pb, 2, none⟩) from by simp [upd, ee0, ee1])]; simp [go_sem]) fun F10 => ?_
  refine lyp F10 rfl HC9 rfl (by omega) (wanted_none rfl) (v := Value.pointer (some ⟨pb, 8, none⟩)) (fun wr hwr => by simp only [execOp, (F10.eval 50 (by omega)).trans (show _ = Value.pointer (some ⟨pb, 2, none⟩) from by simp [upd, ee0, ee1])]; simp [go_sem]) fun F11 => ?_
  refine lst rfl HC9 rfl (wanted_none rfl) (w1 := w8.setCell ⟨pb, 8, none⟩ (.slice ao8 (n + 1) c8)) (by simp only [execOp, (F11.eval 51 (by omega)).trans (show _ = Value.pointer (some ⟨pb, 8, none⟩) from by simp [upd, ee0, ee1]), (F11.eval 49 (by omega)).trans (show _ = Value.slice ao8 (n + 1) c8 from by simp [upd, ee0, ee1])]; simp [go_sem, hB8.frozen 8, show w8.cell? ⟨pb, 8, none⟩ = some wv from HC9.1]) ?_
  refine ⟨fun h => by omega, ?_⟩
  refine hK _ _ ?_
  clear F0 F1 F2 F3 F4 F5 F6 F7 F8 F9 F10 F11 ee0 ee1 HCC HCY HC9
  simp only [Act.put, List.setIfInBounds_toArray, List.set_cons_succ, List.set_cons_zero]
  have HF : Hid (Held (boxE L pb (CX.setIfInBounds 8 (.slice ao8 (n + 1) c8)) 66 :: tailE L 30 (.slice ao2 (n + 1) cc2) (n + 1) (xs ++ [.slice vo vn vc]) :: tailE L 9 (.slice ao8 (n + 1) c8) (n + 1) (ys ++ [strV bs]) :: datE L (.slice vo vn vc, bs) :: R) (w8.setCell ⟨pb, 8, none⟩ (.slice ao8 (n + 1) c8)) ∧ Chg (fun k => k = pb ∨ lv.ownBlock = some k ∨ wv.ownBlock = some k) w (w8.setCell ⟨pb, 8, none⟩ (.slice ao8 (n + 1) c8))) := by
    refine ⟨((hH8.perm (List.Perm.swap ..)).boxSet 8 (.slice ao8 (n + 1) c8)).perm ?_, (HCC0.out.drewN 1 |>.trans hc8 (fun _ _ e => Or.inr (Or.inr e))).trans (setCell_chg _ _ _ _) (fun _ _ e => Or.inl e)⟩
    refine List.Perm.cons _ ?_
    refine (List.Perm.cons _ (List.Perm.swap ..)).trans ?_
    exact List.Perm.swap ..
  rw [HCE.out] at HF
  clear hr8 hH8 hc8 hat8 hB8 hbY HHX HHE HCX
  go_wp2_with fail
  go_ret
  exact ⟨_, _, rfl, HF.out.1, HF.out.2⟩
end
end Go.Proofs.Ytlajcaofpmjdlaa
