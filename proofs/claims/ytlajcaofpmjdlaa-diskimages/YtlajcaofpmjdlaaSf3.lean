import Derived.Test.YtlajcaofpmjdlaaSf2
namespace Go.Proofs.Ytlajcaofpmjdlaa
open Go.RowKit Go.PlainAid
set_option linter.unusedVariables false
set_option linter.unusedSimpArgs false
theorem info44 : (Try.prog.info? 44).map (fun i => (i.zero, i.size, i.bytes)) = some (some (.slice none 0 0), 1, 24) := by kernel_rfl
/-- Numbers, copied. -/
theorem copy_ints {w : World} {L : Nat} {v : Value} {zs : List Int} (h : w.ownsRow L 3 1 v zs.length (zs.map I)) (hl : zs.length ≤ 1000000) : ∃ v' w', (∀ ty, (Builtin.append_ #[44, 44] ty #[.slice none 0 0, v]).run Try.prog w = .ok v' w') ∧ w'.ownsRow w.heap.size 3 1 v' zs.length (zs.map I) ∧ Below w.heap.size w w' := by
  obtain ⟨ao, cap, hv, hnc, hnil, hc⟩ : ∃ ao cap, v = .slice ao zs.length cap ∧ zs.length ≤ cap ∧ (ao = none → zs.length = 0 ∧ cap = 0) ∧ ∀ ad, ao = some ad → ∀ j u, (zs.map I)[j]? = some u → w.cell? (ad.add j) = some u := by
    rcases id h.2 with ⟨e, e0⟩ | ⟨g, cap, cur, e, hrest⟩
    · exact ⟨none, 0, by rw [e, e0], by omega, (fun _ => ⟨e0, rfl⟩), (fun ad e => by cases e)⟩
    · refine ⟨some ⟨g, 0, none⟩, cap, e, hrest.2.2.1, (fun e => by cases e), fun ad e' j u hu => ?_⟩
      cases e'
      subst e
      exact h.cells (g := g) rfl j u hu
  obtain ⟨v1, w1, hr1, ho1, hg1⟩ := app_rows (w := w) 44 3 (.int .i64 0) 1 8 Try.underlying44 info3 rfl (by decide) (by decide) (World.ownsRow_nil w w.heap.size 3 1) (ao := ao) (m := zs.length) (cap := cap) (ys := zs.map I) (by simp) hnil hc (oneI zs) (by omega) (Nat.le_refl _)
  rw [Nat.zero_add, List.nil_append] at ho1
  rw [hv]
  exact ⟨v1, w1, hr1, ho1, hg1.below (fun q hq => by cases hq) (Nat.le_refl _)⟩
section
variable {L pb n : Nat} {C : Array Value} {nv ov v : Value} {xs ys : List Value} {zs : List Int} {R : List (Ent L)}
set_option maxRecDepth 100000 in
theorem leaveInts_no {lo : Option Addr} {lc : Nat} (w : World) (h : Blk w pb C 66) (h9 : C[9]? = some (.slice lo n lc)) (hn : 100 ≤ n) : Calls Try.prog 59 #[.pointer (some ⟨pb, 2, none⟩), v] w fun e w' => e = .returned (.bool false) ∧ w' = w := by
  have c9 : w.cell? ⟨pb, 9, none⟩ = some (.slice lo n lc) := (h.cell 9).trans h9
  clear h h9
  go_enter Try.func59, Try.ntmps59
  go_wp2_with fail
  go_ret
  exact ⟨rfl, rfl⟩
set_option maxRecDepth 100000 in
set_option maxHeartbeats 3200000 in
theorem leaveInts_yes {vo : Option Addr} {vn vc : Nat} (w : World) (h : Held (boxE L pb C 66 :: tailE L 44 nv n xs :: tailE L 44 ov n ys :: intE L (.slice vo vn vc, zs) :: R) w) (hC : C.size = 14) (h9 : C[9]? = some nv) (h10 : C[10]? = some ov) (hvl : zs.length = vn) (hvn : vn ≤ 100000) (hn : n < 100) :
    Calls Try.prog 59 #[.pointer (some ⟨pb, 2, none⟩), .slice vo vn vc] w fun e w' => ∃ nv' ov' cv, e = .returned (.bool true) ∧ Held (boxE L pb ((C.setIfInBounds 9 nv').setIfInBounds 10 ov') 66 :: tailE L 44 nv' (n + 1) (xs ++ [.slice vo vn vc]) :: tailE L 44 ov' (n + 1) (ys ++ [cv]) :: intE L (.slice vo vn vc, zs) :: intE L (cv, zs) :: R) w' ∧ Chg (fun k => k = pb ∨ nv.ownBlock = some k ∨ ov.ownBlock = some k) w w' := by
  have hB := h.boxB
  have hLw : L ≤ w.heap.size := Nat.le_trans (h.all _ (List.mem_cons_self ..)).2 (Nat.le_of_lt hB.lt)
  obtain ⟨lo, lc, hlv⟩ := tail_val (h.drop.all _ (List.mem_cons_self ..) : Tail w L 44 nv n xs)
  have c9 : w.cell? ⟨pb, 9, none⟩ = some nv := (hB.cell 9).trans h9
  have hp1 : Held (tailE L 44 nv n xs :: boxE L pb C 66 :: tailE L 44 ov n ys :: intE L (.slice vo vn vc, zs) :: R) w := h.perm (List.Perm.swap ..)
  obtain ⟨v2, w2, hr2, hH2, hc2, ⟨ao2, cc2, hv2⟩, hat2⟩ := hp1.tailApp (t := 62) Try.underlying62 info44 rfl (.slice vo vn vc) rfl (by omega) (by omega) (by omega)
  have hB2 : Blk w2 pb C 66 := hH2.drop.boxB
  have d9 : w2.cell? ⟨pb, 9, none⟩ = some nv := (hB2.cell 9).trans h9
  have g9 : w2.frozen? ⟨pb, 9, none⟩ = false := hB2.frozen 9
  have h3 := (hH2.perm (List.Perm.swap ..)).boxSet 9 v2
  obtain ⟨CX, hCX⟩ : ∃ CX, CX = C.setIfInBounds 9 v2 := ⟨_, rfl⟩
  rw [← hCX] at h3
  obtain ⟨X, hX⟩ : ∃ X, X = w2.setCell ⟨pb, 9, none⟩ v2 := ⟨_, rfl⟩
  rw [← hX] at h3
  have hcX : Chg (fun k => k = pb) w2 X := by rw [hX]; exact setCell_chg _ _ _ _
  have HCELL : Hid (CX[10]? = some ov) := by rw [Hid, hCX, Array.getElem?_setIfInBounds_ne (by omega)]; exact h10
  obtain ⟨RR, hRR⟩ : ∃ RR, RR = tailE L 44 v2 (n + 1) (xs ++ [.slice vo vn vc]) :: R := ⟨_, rfl⟩
  have HHE : Hid (Held (tailE L 44 ov n ys :: boxE L pb CX 66 :: intE L (.slice vo vn vc, zs) :: RR) X) := by
    rw [Hid, hRR]
    exact h3.perm (by
      refine (List.Perm.cons _ (List.Perm.swap ..)).trans ?_
      refine (List.Perm.swap ..).trans ?_
      exact List.Perm.cons _ (List.Perm.cons _ (List.Perm.swap ..)))
  have HCX : Hid (X.cell? ⟨pb, 10, none⟩ = some ov) := (h3.boxB.cell 10).trans HCELL.out
  have HLX : Hid (L ≤ X.heap.size) := Nat.le_trans hLw (Nat.le_trans hc2.size hcX.size)
  have HLIM : Hid (n < 100) := hn
  have HZB : Hid (zs.length ≤ 100000) := by rw [Hid]; omega
  have HZL : Hid (zs.length = vn) := hvl
  have HCC0 : Hid (Chg (fun k => k = pb ∨ nv.ownBlock = some k ∨ ov.ownBlock = some k) w X) := (hc2.mono (B := fun k => k = pb ∨ nv.ownBlock = some k ∨ ov.ownBlock = some k) (fun _ _ e => Or.inr (Or.inl e))).trans hcX (fun _ _ e => Or.inl e)
  have HCE : Hid (CX = C.setIfInBounds 9 v2) := hCX
  have HRR : Hid (RR = tailE L 44 v2 (n + 1) (xs ++ [.slice vo vn vc]) :: R) := hRR
  have HHR : Hid (∀ ty, (Builtin.append_ #[62, 62] ty #[nv, .slice (some ⟨w.heap.size, 0, none⟩) 1 1]).run Try.prog (w.alloc (.cells #[.slice vo vn vc] 44)) = .ok v2 w2) := hr2
  have h2' : ¬ (100 : Int) ≤ (n : Int) := by omega
  subst hv2
  rw [hlv] at c9 HHR d9
  clear h hB hLw h9 h10 hC hp1 hr2 hH2 hc2 hat2 hB2 h3 hCX hcX hlv hRR
  go_enter Try.func59, Try.ntmps59
  go_wp2_with (at_builtin; refine wpList_runs rfl _ _ 62 rfl rfl rfl HHR.out ?_)
  rw [← hX]
  clear hX c9 d9 g9 HHR
  rename_i K hK
  try rw [show ∀ a : Act, a.put none undef = a from fun _ => rfl]
  refine wp_region_mix (fun wz : World => wz.cell? ⟨pb, 10, none⟩ = some ov) (fun i => i == 6 || i == 7 || i == 8 || i == 11) 11 (by kernel_rfl) rfl (by kernel_rfl) (by kernel_rfl) (by kernel_rfl) ?_
  refine withFrP (N := 32) rfl ?_
  intro f0 F0 hff
  have ee0 : f0 0 = Value.pointer (some ⟨pb, 2, none⟩) := hff 0
  have ee1 : f0 1 = Value.slice vo vn vc := hff 1
  clear hff
  have HCC : (fun wz : World => wz.cell? ⟨pb, 10, none⟩ = some ov) (({ X with drawn := X.drawn + 1 } : World)) := HCX.out
  have HHX : Held (tailE L 44 ov n ys :: boxE L pb CX 66 :: intE L (Value.slice vo vn vc, zs) :: RR) (({ X with drawn := X.drawn + 1 } : World)) := HHE.out.keep (fun _ _ => rfl)
  refine lyp F0 rfl HCC rfl (by omega) (wanted_none rfl) (v := Value.pointer (some ⟨pb, 2, none⟩)) (fun wr hwr => by simp only [execOp, (F0.eval 0 (by omega)).trans (show _ = Value.pointer (some ⟨pb, 2, none⟩) from by simp [upd, ee0, ee1])]; first | rfl | simp [go_sem]) fun F1 => ?_
  refine lyp F1 rfl HCC rfl (by omega) (wanted_none rfl) (v := Value.pointer (some ⟨pb, 2, none⟩)) (fun wr hwr => by simp only [execOp, (F1.eval 0 (by omega)).trans (show _ = Value.pointer (some ⟨pb, 2, none⟩) from by simp [upd, ee0, ee1])]; first | rfl | simp [go_sem]) fun F2 => ?_
  refine lyp F2 rfl HCC rfl (by omega) (wanted_none rfl) (v := Value.pointer (some ⟨pb, 2, none⟩)) (fun wr hwr => by simp only [execOp, (F2.eval 22 (by omega)).trans (show _ = Value.pointer (some ⟨pb, 2, none⟩) from by simp [upd, ee0, ee1])]; simp [go_sem]) fun F3 => ?_
  refine lyp F3 rfl HCC rfl (by omega) (wanted_none rfl) (v := Value.pointer (some ⟨pb, 10, none⟩)) (fun wr hwr => by simp only [execOp, (F3.eval 23 (by omega)).trans (show _ = Value.pointer (some ⟨pb, 2, none⟩) from by simp [upd, ee0, ee1])]; simp [go_sem]) fun F4 => ?_
  refine lyp F4 rfl HCC rfl (by omega) (wanted_none rfl) (v := ov) (fun wr hwr => by simp only [execOp, (F4.eval 24 (by omega)).trans (show _ = Value.pointer (some ⟨pb, 10, none⟩) from by simp [upd, ee0, ee1])]; simp [go_sem, show wr.cell? _ = _ from hwr]) fun F5 => ?_
  refine lyp F5 rfl HCC rfl (by omega) (wanted_none rfl) (v := Value.slice vo vn vc) (fun wr hwr => by simp only [execOp, (F5.eval 1 (by omega)).trans (show _ = Value.slice vo vn vc from by simp [upd, ee0, ee1])]; first | rfl | simp [go_sem]) fun F6 => ?_
  have hrw : (({ X with drawn := X.drawn + 1 } : World)).ownsRow L 3 1 (Value.slice vo vn vc) zs.length (zs.map I) := HHX.drop.drop.all _ (List.mem_cons_self ..)
  obtain ⟨v7, w7, hr7, ho7, hg7⟩ := copy_ints hrw (by have := HZB.out; omega)
  obtain ⟨vo7, vc7, hv7, _⟩ := own_slice ho7
  have hb7 : Below X.heap.size X w7 := (Below.drew (Below.refl _ _)).trans hg7
  have HC7 : (fun wz : World => wz.cell? ⟨pb, 10, none⟩ = some ov) w7 := (hb7.cell (World.block_lt_of_cell? _ _ HCX.out)).trans HCX.out
  rw [HZL.out] at hv7
  subst hv7
  refine lep F6 rfl HCC rfl (by omega) (wanted_none rfl) (v := Value.slice vo7 vn vc7) (w1 := w7) (by simp only [execOp, resolve, invoke, builtin, List.map_toArray, List.map_cons, List.map_nil, (F6.eval 26 (by omega)).trans (show _ = Value.slice vo vn vc from by simp [upd, ee0, ee1])]; simp only [Act.eval, Sem.run_bind, Sem.run_pure, Result.andThen_ok, hr7]; try rfl) fun F7 => ?_
  refine lep F7 rfl HC7 rfl (by omega) (wanted_none rfl) (v := Value.slice (some ⟨w7.heap.size, 0, none⟩) 1 1) (w1 := (w7.alloc (.cells #[Value.slice vo7 vn vc7] 44))) (by simp only [execOp, List.map_toArray, List.map_cons, List.map_nil, (F7.eval 27 (by omega)).trans (show _ = Value.slice vo7 vn vc7 from by simp [upd, ee0, ee1])]; simp [go_sem]) fun F8 => ?_
  have hbY : Below w7.heap.size w7 (w7.alloc (.cells #[Value.slice vo7 vn vc7] 44)) := (Below.refl _ _).alloc (Nat.le_refl _) _
  have HCY : (fun wz : World => wz.cell? ⟨pb, 10, none⟩ = some ov) (w7.alloc (.cells #[Value.slice vo7 vn vc7] 44)) := (hbY.cell (World.block_lt_of_cell? _ _ HC7)).trans HC7
  have hH7 : Held (tailE L 44 ov n ys :: boxE L pb CX 66 :: intE L (Value.slice vo vn vc, zs) :: intE L (Value.slice vo7 vn vc7, zs) :: RR) w7 := by
    have h1 : Held (intE L (Value.slice vo7 vn vc7, zs) :: tailE L 44 ov n ys :: boxE L pb CX 66 :: intE L (Value.slice vo vn vc, zs) :: RR) w7 := Held.fresh HHE.out hb7 (show w7.ownsRow L 3 1 (Value.slice vo7 vn vc7) zs.length (zs.map I) from ownsRow_mono ho7 HLX.out) (fun k hk => (ownsRow_lt ho7 hk).1)
    exact h1.perm (List.perm_middle (l₁ := [_, _, _]) (a := _)).symm
  obtain ⟨v8, w8, hr8, hH8, hc8, ⟨ao8, c8, hv8⟩, hat8⟩ := hH7.tailApp (t := 62) Try.underlying62 info44 rfl (Value.slice vo7 vn vc7) rfl (by have := HLIM.out; omega) (by have := HLIM.out; omega) (Nat.le_trans HLX.out hb7.size)
  replace hr8 : ∀ ty, (Builtin.append_ #[62, 62] ty #[ov, .slice (some ⟨w7.heap.size, 0, none⟩) 1 1]).run Try.prog (w7.alloc (.cells #[Value.slice vo7 vn vc7] 44)) = .ok v8 w8 := hr8
  have hB8 : Blk w8 pb CX 66 := hH8.drop.boxB
  have HC9 : (fun wz : World => wz.cell? ⟨pb, 10, none⟩ = some ov) w8 := (hB8.cell 10).trans HCELL.out
  subst hv8
  refine lep F8 rfl HCY rfl (by omega) (wanted_none rfl) (v := Value.slice ao8 (n + 1) c8) (w1 := w8) (by simp only [execOp, resolve, invoke, builtin, List.map_toArray, List.map_cons, List.map_nil, (F8.eval 25 (by omega)).trans (show _ = ov from by simp [upd, ee0, ee1]), (F8.eval 28 (by omega)).trans (show _ = Value.slice (some ⟨w7.heap.size, 0, none⟩) 1 1 from by simp [upd, ee0, ee1])]; simp only [Sem.run_bind, Sem.run_pure, Result.andThen_ok, hr8]; try rfl) fun F9 => ?_
  refine lyp F9 rfl HC9 rfl (by omega) (wanted_none rfl) (v := Value.pointer (some ⟨pb, 2, none⟩)) (fun wr hwr => by simp only [execOp, (F9.eval 21 (by omega)).trans (show _ = Value.pointer (some ⟨pb, 2, none⟩) from by simp [upd, ee0, ee1])]; simp [go_sem]) fun F10 => ?_
  refine lyp F10 rfl HC9 rfl (by omega) (wanted_none rfl) (v := Value.pointer (some ⟨pb, 10, none⟩)) (fun wr hwr => by simp only [execOp, (F10.eval 30 (by omega)).trans (show _ = Value.pointer (some ⟨pb, 2, none⟩) from by simp [upd, ee0, ee1])]; simp [go_sem]) fun F11 => ?_
  refine lst rfl HC9 rfl (wanted_none rfl) (w1 := w8.setCell ⟨pb, 10, none⟩ (.slice ao8 (n + 1) c8)) (by simp only [execOp, (F11.eval 31 (by omega)).trans (show _ = Value.pointer (some ⟨pb, 10, none⟩) from by simp [upd, ee0, ee1]), (F11.eval 29 (by omega)).trans (show _ = Value.slice ao8 (n + 1) c8 from by simp [upd, ee0, ee1])]; simp [go_sem, hB8.frozen 10, show w8.cell? ⟨pb, 10, none⟩ = some ov from HC9]) ?_
  refine ⟨fun h => by omega, ?_⟩
  refine hK _ _ ?_
  clear F0 F1 F2 F3 F4 F5 F6 F7 F8 F9 F10 F11 ee0 ee1 HCC HC7 HCY HC9
  simp only [Act.put, List.setIfInBounds_toArray, List.set_cons_succ, List.set_cons_zero]
  have HF : Hid (Held (boxE L pb (CX.setIfInBounds 10 (.slice ao8 (n + 1) c8)) 66 :: tailE L 44 (.slice ao2 (n + 1) cc2) (n + 1) (xs ++ [.slice vo vn vc]) :: tailE L 44 (.slice ao8 (n + 1) c8) (n + 1) (ys ++ [Value.slice vo7 vn vc7]) :: intE L (.slice vo vn vc, zs) :: intE L (Value.slice vo7 vn vc7, zs) :: R) (w8.setCell ⟨pb, 10, none⟩ (.slice ao8 (n + 1) c8)) ∧ Chg (fun k => k = pb ∨ nv.ownBlock = some k ∨ ov.ownBlock = some k) w (w8.setCell ⟨pb, 10, none⟩ (.slice ao8 (n + 1) c8))) := by
    rw [HRR.out] at hH8
    refine ⟨((hH8.perm (List.Perm.swap ..)).boxSet 10 (.slice ao8 (n + 1) c8)).perm ?_, ((HCC0.out.trans (Chg.ofBelow (fun _ => False) hb7) (fun _ _ e => e.elim)).trans hc8 (fun _ _ e => Or.inr (Or.inr e))).trans (setCell_chg _ _ _ _) (fun _ _ e => Or.inl e)⟩
    refine List.Perm.cons _ ?_
    exact (List.perm_middle (l₁ := [_, _, _]) (a := _))
  rw [HCE.out] at HF
  clear hr8 hH8 hc8 hat8 hB8 hbY HHX HHE HCX hH7 hrw hr7 ho7 hg7 hb7
  go_wp2_with fail
  go_ret
  first
    | exact ⟨_, _, _, rfl, HF.out.1, HF.out.2⟩
    | exact ⟨rfl, _, _, _, HF.out.1, HF.out.2⟩
end
end Go.Proofs.Ytlajcaofpmjdlaa
